/- The reference: half. -/
import Derived.Test.YtldfamjlnphokaaGreatDoorRefC
import Derived.StillTailTactics
import Derived.IntWalk

set_option linter.unusedVariables false
set_option linter.unusedSimpArgs false

namespace Go.Proofs.YtldfamjlnphokaaGreatDoor
open Go Go.RowKit Num

/-- The k-th word of the half. -/
def hw (l : List Nat) (k : Nat) : Nat := l.getD k 0 / 2 + l.getD (k + 1) 0 % 2 * 2147483648
/-- WHAT HOLDS AT THE HEAD OF half's LOOP. -/
structure HalfAt (w wr : World) (g : Nat) (l : List Nat) (ex : List Value) (k : Nat) (done : List Nat) : Prop where
  own : OwnX wr g (done ++ l.drop k) ex
  len : done.length = k
  lt : ∀ x ∈ done, x < 4294967296
  eq : 2 * val done + l.getD 0 0 % 2 = val (l.take k) + 4294967296 ^ k * (l.getD k 0 % 2)
  below : Below w.heap.size w wr

theorem half_step {P d e v x y : Nat} (h : 2 * d + e = v + P * (x % 2)) : 2 * (d + P * (x / 2 + y % 2 * 2147483648)) + e = v + P * x + P * 4294967296 * (y % 2) := by
  rw [Nat.mul_add P, Nat.mul_assoc P 4294967296]
  have h1 : P * x = P * (2 * (x / 2)) + P * (x % 2) := by rw [← Nat.mul_add, Nat.div_add_mod]
  have h2 : P * (2 * (x / 2)) = 2 * (P * (x / 2)) := by rw [Nat.mul_left_comm]
  have h3 : P * (4294967296 * (y % 2)) = 2 * (P * (y % 2 * 2147483648)) := by
    rw [show 4294967296 * (y % 2) = 2 * (y % 2 * 2147483648) by omega, Nat.mul_left_comm]
  omega

theorem HalfAt.step {w wr w2 : World} {g : Nat} {l : List Nat} {ex : List Value} {k : Nat} {done : List Nat} (h : HalfAt w wr g l ex k done) (hk : k < l.length) (hl : ∀ x ∈ l, x < 4294967296)
    (ho : OwnX w2 g ((done ++ l.drop k).set k (hw l k)) ex) (hb : Below w.heap.size w w2) : HalfAt w w2 g l ex (k + 1) (done ++ [hw l k]) := by
  have a1 := getD_lt hl k
  have a2 := getD_lt hl (k + 1)
  refine ⟨?_, by simp [h.len], ?_, ?_, hb⟩
  · have hd : l.drop k = l.getD k 0 :: l.drop (k + 1) := by
      rw [List.drop_eq_getElem_cons hk]; simp [List.getD, hk]
    rw [hd] at ho
    have hs := set_done done (l.getD k 0) (hw l k) (l.drop (k + 1))
    rw [h.len] at hs
    rw [hs] at ho
    rw [List.append_assoc]
    exact ho
  · intro x hx
    rcases List.mem_append.1 hx with hx | hx
    · exact h.lt x hx
    · rw [List.mem_singleton] at hx; subst hx; unfold hw; omega
  · rw [val_snoc, h.len, val_take_succ, Nat.pow_succ]
    exact half_step h.eq

theorem HalfAt.done {w wr : World} {g : Nat} {l : List Nat} {ex : List Value} {done : List Nat} (h : HalfAt w wr g l ex l.length done) {cap : Nat} (hc : l.length ≤ cap) (hm : cap ≤ maxLen) :
    U32 wr (.slice (some ⟨g, 0, none⟩) l.length cap) done ∧ val done = val l / 2 := by
  have ho := h.own
  rw [List.drop_length, List.append_nil] at ho
  have hU := ho.u32 h.lt (cap := cap) (by rw [h.len]; exact hc) hm
  rw [h.len] at hU
  refine ⟨hU, ?_⟩
  have e := h.eq
  rw [List.take_length, show l.getD l.length 0 = 0 by simp] at e
  omega

theorem clone_lit (w : World) : (w.alloc (.cells #[] 49)).ownsRow w.heap.size 49 1 (.slice (some ⟨w.heap.size, 0, none⟩) 0 0) 0 [] := World.ownsRow_lit w #[] 0 (Nat.le_refl _) (Nat.zero_le _) rfl

set_option maxRecDepth 100000 in
set_option maxHeartbeats 4000000 in
theorem rhalf_any (v : Value) (l : List Nat) (w : World) (h : U32 w v l) (hn : l.length ≤ 500000) :
    Calls Tryz.prog 117 #[v] w fun e w' => ∃ A c, e = .returned (.slice A (digs (val l / 2)).length c) ∧ Mag w' (.slice A (digs (val l / 2)).length c) (val l / 2) ∧ Below w.heap.size w w' := by
  obtain ⟨i0, hi, hz0, hz1, hz2⟩ := info_parts info32
  have HI := Lib.hid hi
  clear hi
  rcases h.cases with ⟨rfl, A, cap, rfl, hcap⟩ | ⟨hpos, b, off, cap, rfl, hlc, hcap, hb, hc⟩
  · rw [show val [] / 2 = 0 from rfl, digs_zero]
    rcases A with _ | a
    all_goals
      go_enter Tryz.func117, Tryz.ntmps117
      go_wp2_with fail
      refine wp_loop_rounds 1 ?_
      rw [rounds_succ]
      go_wp2_with fail
      refine (rtrim_any _ [] _ (U32.nil _ (Nat.zero_le _)) (by simp)).mono ?_
      rw [show val [] = 0 from rfl, digs_zero]
      rintro e w4 ⟨A', c', rfl, hm, hb4⟩
      go_wp2
      go_ret
      exact ⟨A', c', rfl, hm, nextw ((Below.refl _ _).alloc (Nat.le_refl _) _) hb4⟩
  · have hcap' := hcap
    unfold maxLen at hcap
    have HCE := Lib.hid (cells_of hb (Nat.le_refl l.length) hc (.cells #[] 49))
    have hlen : (ws (l.take l.length)).length = l.length := by rw [ws_length, List.length_take]; omega
    have HLEN := Lib.hid hlen
    have HONE := Lib.hid (ws_oneCell (l.take l.length))
    have HC := Lib.hid hc
    have HL := Lib.hid h.lt
    clear hc hlen h
    go_enter Tryz.func117, Tryz.ntmps117
    go_wp2_with ((at_builtin; refine wpList_append_own _ rfl _ _ 22 rfl w.heap.size 49 i0 (.int .u32 0) 1 4 Tryz.underlying22 HI.out hz0 hz1 hz2 rfl (by decide) (.slice (some ⟨w.heap.size, 0, none⟩) 0 0) 0 [] rfl (clone_lit w) ⟨b, off, none⟩ l.length cap (ws (l.take l.length)) rfl (by rw [HLEN.out, Nat.mul_one]) HCE.out HONE.out (by simp only [maxLen]; omega) (by omega) (by simp) ?_; intro v1 w1 hown1 hgrow1 hnil1))
    rw [Nat.zero_add, List.nil_append, List.take_length] at hown1
    have hb1 : Below w.heap.size w w1 := ((Below.refl _ _).alloc (Nat.le_refl _) _).grown hgrow1 (by simp) (fun j hj => by simp [Value.ownBlock] at hj; omega)
    have hne : v1 ≠ .slice none 0 0 := fun e => by have := (hnil1.1 e).2; omega
    obtain ⟨g, cap1, ex, rfl, hg, ho, hc1, hc2⟩ := OwnX.of_row hown1 hne
    have HS : Hid (HalfAt w w1 g l ex 0 []) := ⟨by simpa using ho, rfl, by simp, by simp [val], hb1⟩
    have HG := Lib.hid (And.intro hg (And.intro hc1 hc2))
    have hc2' := hc2
    unfold maxLen at hc2'
    clear hown1 hgrow1 hnil1 hb1 hne ho hg hc2
    go_wp2
    go_loopw [4] (fun i wr => ∃ (k : Nat) (done : List Nat), k ≤ l.length ∧ i = .int .i64 k ∧ HalfAt w wr g l ex k done) (fun i _ => l.length - (intOf i).toNat)
    case atStart => exact ⟨0, [], by omega, rfl, HS.out⟩
    case round =>
      obtain ⟨k, done, hk, rfl, hs⟩ := hrel
      clear HS HCE HLEN HONE
      by_cases hk1 : k < l.length
      · have hs' := hs
        have hc0 := hs.own.cell (i := k) (by simp [hs.len]; omega)
        have hgd : (done ++ l.drop k).getD k 0 = l.getD k 0 := by
          have := hs.len
          simp only [List.getD_eq_getElem?_getD]
          rw [List.getElem?_append_right (by omega), hs.len, Nat.sub_self, List.getElem?_drop, Nat.add_zero]
        rw [hgd] at hc0
        have hfz := hs.own.frozen k
        have a1 := getD_lt HL.out k
        have a2 := getD_lt HL.out (k + 1)
        have hgb : w.heap.size ≤ g := HG.out.1
        have ho1 := fun x : Nat => hs.own.set (i := k) (by simp [hs.len]; omega) x
        by_cases hk2 : k + 1 < l.length
        · have hy := (hs.below.cell (p := ⟨b, off + (k + 1), none⟩) hb).trans (HC.out (k + 1) hk2)
          have hcs := (ho1 (l.getD k 0 / 2)).cell (i := k) (by simp [hs.len]; omega)
          have hgs : ((done ++ l.drop k).set k (l.getD k 0 / 2)).getD k 0 = l.getD k 0 / 2 := by
            have := hs.len
            simp only [List.getD_eq_getElem?_getD]
            rw [List.getElem?_set_self (by simp; omega)]; rfl
          rw [hgs] at hcs
          have hfs := (ho1 (l.getD k 0 / 2)).frozen k
          have hne : g ≠ b := by omega
          have hys : (wr.setCell ⟨g, k, none⟩ (.int .u32 ((l.getD k 0 / 2 : Nat) : Int))).cell? ⟨b, off + (k + 1), none⟩ = some (.int .u32 (l.getD (k + 1) 0 : Nat)) := by
            rw [World.cell?_of_block (a := ⟨b, off + (k + 1), none⟩) (heap_setCell_other _ ⟨g, k, none⟩ b _ (fun e => hne e.symm))]; exact hy
          have HN : Hid (HalfAt w ((wr.setCell ⟨g, k, none⟩ (.int .u32 ((l.getD k 0 / 2 : Nat) : Int))).setCell ⟨g, k, none⟩ (.int .u32 ((hw l k : Nat) : Int))) g l ex (k + 1) (done ++ [hw l k])) := by
            refine hs.step hk1 HL.out ?_ ((hs.below.setCell hgb _).setCell hgb _)
            have := (ho1 (l.getD k 0 / 2)).set (i := k) (by simp [hs.len]; omega) (hw l k)
            rw [List.set_set] at this
            exact this
          have hwe : (l.getD k 0 / 2 : Nat) + l.getD (k + 1) 0 % 2 * 2147483648 = hw l k := rfl
          have e1 : ((l.getD k 0 / 2 : Nat) : Int) = (l.getD k 0 : Int) / 2 := by omega
          rw [e1] at hcs hys hfs HN
          generalize l.getD k 0 = x at *
          generalize l.getD (k + 1) 0 = y at *
          generalize hw l k = h' at *
          obtain ⟨t, ht⟩ : ∃ t : Nat, y % 2 = t := ⟨_, rfl⟩
          have ht1 : t < 2 := by omega
          have htI : (y : Int) % 2 = (t : Int) := by omega
          have hsI : (x : Int) / 2 + (t : Int) * 2147483648 = (h' : Int) := by omega
          have hb32 : h' < 4294967296 := by omega
          clear hs hs' ho1 hgd hgs hwe e1 ht
          go_wp2
          generalize wr.setCell ⟨g, k, none⟩ (.int .u32 ((x : Int) / 2)) = W at *
          have q1 : IntKind.i64.wrap ((k : Int) + 1) = (k : Int) + 1 := IntWalk.i64_in _ (by omega)
          have q5 : (y : Int).tmod 2 = (t : Int) := by rw [Int.tmod_eq_emod_of_nonneg (by omega)]; exact htI
          have q6 : IntKind.u32.wrap ((t : Int) * 2147483648) = (t : Int) * 2147483648 := by simp only [IntKind.wrap, IntKind.bits, IntKind.signed]; simp; omega
          have q7 : IntKind.u32.wrap (h' : Int) = (h' : Int) := by simp only [IntKind.wrap, IntKind.bits, IntKind.signed]; simp; omega
          have q2 : (0 : Int) ≤ (k : Int) + 1 := by omega
          have q4 : (k : Int) + 1 < (l.length : Int) := by omega
          have q3 : ((k : Int) + 1).toNat = k + 1 := by omega
          go_still_tail 15, (by kernel_rfl)
          change wpList _ _ _ _ _ W.drew
          clear q1 q2 q3 q4 q5 q6 q7
          have hcs' : W.drew.cell? ⟨g, k, none⟩ = some (.int .u32 ((x : Int) / 2)) := hcs
          have hfs' : W.drew.frozen? ⟨g, k, none⟩ = false := hfs
          have HN2 : Hid (HalfAt w (W.drew.setCell ⟨g, k, none⟩ (.int .u32 (h' : Int))) g l ex (k + 1) (done ++ [h'])) := ⟨HN.out.own, HN.out.len, HN.out.lt, HN.out.eq, ⟨HN.out.below.os, HN.out.below.tape, HN.out.below.output, HN.out.below.size, HN.out.below.block⟩⟩
          clear hsI htI hy hys hc0 hfz hcs hfs HN
          generalize W.drew = W2 at *
          go_wp2
          go_roundw
          case rel => exact ⟨k + 1, _, by omega, by go_num, HN2.out⟩
          case measure => simp only [intOf]; omega
        · have e2 : hw l k = l.getD k 0 / 2 := by
            unfold hw
            have : l.getD (k + 1) 0 = 0 := by simp only [List.getD_eq_getElem?_getD, List.getElem?_eq_none (by omega : l.length ≤ k + 1)]; rfl
            rw [this]; omega
          have HN := Lib.hid (hs.step hk1 HL.out (ho1 (hw l k)) (hs.below.setCell hgb _))
          rw [e2] at HN
          have e1 : ((l.getD k 0 / 2 : Nat) : Int) = (l.getD k 0 : Int) / 2 := by omega
          rw [e1] at HN
          clear hs hs' ho1 hgd e1 e2
          generalize l.getD k 0 = x at *
          go_wp2
          go_roundw
          case rel => exact ⟨k + 1, _, by omega, by go_num, HN.out⟩
          case measure => simp only [intOf]; omega
      · obtain rfl : k = l.length := by omega
        obtain ⟨hU, hv⟩ := hs.done HG.out.2.1 HG.out.2.2
        have HU := Lib.hid hU
        have HV := Lib.hid hv
        have HB := Lib.hid hs.below
        have hdl : done.length ≤ 500000 := by rw [hs.len]; exact hn
        clear hU hv hs
        go_wp2_with fail
        refine (rtrim_any _ done _ HU.out (by omega)).mono ?_
        rw [HV.out]
        rintro e w4 ⟨A, c', rfl, hm, hb4⟩
        have HM := Lib.hid hm
        have HBB := Lib.hid (nextw HB.out hb4)
        clear hm hb4
        go_wp2
        go_ret
        exact ⟨A, c', rfl, HM.out, HBB.out⟩
end Go.Proofs.YtldfamjlnphokaaGreatDoor
