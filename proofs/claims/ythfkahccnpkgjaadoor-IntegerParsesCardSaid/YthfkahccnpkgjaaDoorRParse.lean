/- The reference: Parse. -/
import Derived.Test.YthfkahccnpkgjaaDoorParse

set_option linter.unusedVariables false
set_option linter.unusedSimpArgs false

namespace Go.Proofs.YthfkahccnpkgjaaDoor
open Go Go.RowKit Num Go.Lib

theorem body_getD {l : List UInt8} {f p : Nat} (hf : bodyD l = l.drop f) (h : f ≤ p) : (bodyD l).getD (p - f) 0 = l.getD p 0 := by
  rw [hf]
  simp only [List.getD_eq_getElem?_getD, List.getElem?_drop]
  rw [show f + (p - f) = p by omega]
theorem body_len {l : List UInt8} {f : Nat} (hf : bodyD l = l.drop f) : (bodyD l).length = l.length - f := by rw [hf, List.length_drop]
theorem body_of {l : List UInt8} {s : Bool} (h : negD l = s) : bodyD l = l.drop (if s then 1 else 0) := by
  unfold bodyD trimPrefix
  unfold negD at h
  rw [h]
  cases s <;> rfl
theorem text_ne {l : List UInt8} (h : ¬ goodD l) (z : Int) : (zText z == l) = false := by
  rw [beq_eq_false_iff_ne]
  intro e
  exact bad_text h z e.symm

/-- What holds at the head of Parse's loop, at the byte p. -/
structure RPAt (W0 wr : World) (l : List UInt8) (f p : Nat) (v : Value) (L : List Nat) : Prop where
  at' : ValAt W0.heap.size W0 wr (bodyD l) (p - f) v L
  dig : ∀ b ∈ (bodyD l).take (p - f), isD b
  from' : f ≤ p
theorem RPAt.next {W0 wr w1 : World} {l : List UInt8} {f p : Nat} {v v1 : Value} {L L1 : List Nat} {d : Nat} (h : RPAt W0 wr l f p v L) (hf : bodyD l = l.drop f) (hp : p < l.length) (hd : (l.getD p 0).toNat = 48 + d) (h9 : d ≤ 9)
    (hr : w1.ownsRow W0.heap.size 46 1 v1 L1.length (ws L1)) (hl : ∀ x ∈ L1, x < 4294967296) (he : val L1 = 10 * val L + d) (hn : L1.length ≤ L.length + 1) (hb : Below W0.heap.size wr w1) : RPAt W0 w1 l f (p + 1) v1 L1 := by
  have h0 := h.from'
  have h1 : p - f < (bodyD l).length := by rw [body_len hf]; omega
  have h2 := body_getD hf h0
  have h3 := valD_take_succ (bodyD l) (p - f) h1
  have h4 := isD_take h.dig h1 (by rw [h2]; exact ⟨by omega, by omega⟩)
  rw [h2, hd] at h3
  have e : p + 1 - f = p - f + 1 := by omega
  exact ⟨⟨hr, hl, by rw [e, h3, he, h.at'.eq]; omega, by have := h.at'.len; omega, h.at'.below.trans hb⟩, by rw [e]; exact h4, by omega⟩
theorem RPAt.bad {W0 wr : World} {l : List UInt8} {f p : Nat} {v : Value} {L : List Nat} (h : RPAt W0 wr l f p v L) (hf : bodyD l = l.drop f) (hp : p < l.length) (hd : ¬ isD (l.getD p 0)) : ¬ goodD l := by
  intro hg
  have h0 := h.from'
  have h1 : p - f < (bodyD l).length := by rw [body_len hf]; omega
  have h3 := hg.1.2.2 _ (getD_mem h1)
  rw [body_getD hf h0] at h3
  exact hd h3

/-- What Parse leaves. -/
def RPost (w : World) (l : List UInt8) (e : Ending) (w' : World) : Prop :=
  (goodD l ∧ (∃ v, e = .returned (.tuple #[v, .int .i64 0]) ∧ Rc w' v (numD l) 223 ∧ Below w.heap.size w w')) ∨ (¬ goodD l ∧ e = .returned (.tuple #[.agg #[.bool false, .slice none 0 0], .int .i64 3]) ∧ Below w.heap.size w w')

set_option maxRecDepth 100000 in
set_option maxHeartbeats 2000000 in
theorem RParse_full (l : List UInt8) (w : World) (h : 2000 < l.length) :
    Calls Tryd.prog 34 #[.string ⟨l.toArray⟩] w fun e w' => e = .returned (.tuple #[.agg #[.bool false, .slice none 0 0], .int .i64 6]) ∧ Below w.heap.size w w' := by
  have hb0 : Below w.heap.size w (w.alloc (.cells #[.bool false, .slice none 0 0] 24)) := (Below.refl w.heap.size w).alloc (Nat.le_refl _) _
  have B_r := Lib.hid (Box.new w false (.slice none 0 0))
  have HB := Lib.hid hb0
  clear hb0
  have s0 := B_r.out.c0
  have s1 := B_r.out.c1
  have c0r := B_r.out.c0
  have c1r := B_r.out.c1
  have f0r := B_r.out.f0
  have f1r := B_r.out.f1
  go_enter Tryd.func34, Tryd.ntmps34
  go_wp2_with fail
  exact bodyPost_ret (v := .tuple #[.agg #[.bool false, .slice none 0 0], .int .i64 6]) (by simp [results, Tryd.results34, go_sem, s0, s1]) rfl ⟨rfl, HB.out⟩

set_option maxRecDepth 100000 in
set_option maxHeartbeats 8000000 in
theorem RParse_nil (l : List UInt8) (w : World) (hn : l.length ≤ 2000) (h : l.length = 0) :
    Calls Tryd.prog 34 #[.string ⟨l.toArray⟩] w (RPost w l) := by
  have hb0 : Below w.heap.size w (w.alloc (.cells #[.bool false, .slice none 0 0] 24)) := (Below.refl w.heap.size w).alloc (Nat.le_refl _) _
  have B_r := Lib.hid (Box.new w false (.slice none 0 0))
  have HB := Lib.hid hb0
  clear hb0
  obtain ⟨L, hL⟩ : ∃ L : List Nat, L = [] := ⟨_, rfl⟩
  have HZ : Hid (ival false L = numD l) := by subst hL; obtain rfl := List.eq_nil_of_length_eq_zero h; unfold Hid; decide
  have HLN : Hid (L.length ≤ 2000) := by subst hL; unfold Hid; simp
  have HU := Lib.hid (show U32 (w.alloc (.cells #[.bool false, .slice none 0 0] 24)) (.slice none 0 0) L from by subst hL; exact U32.nil none (by decide))
  clear hL
  go_enter Tryd.func34, Tryd.ntmps34
  go_wp2_with fail
  refine wp_loop_rounds 1 ?_
  rw [rounds_succ]
  have BW := B_r
  have HBW := HB
  clear B_r HB
  go_wp2_with fail
  refine (RNorm_rd (n1 := L.length) (z1 := numD l) ⟨false, _, L, rfl, HU.out, HZ.out, Nat.le_refl _⟩ (by have := HLN.out; omega)).mono ?_
  rintro e w2 ⟨v2, rfl, hc, bb⟩
  obtain ⟨sx, Ax, kx, cx, rfl⟩ := hc.shape
  have B2 := Lib.hid (Box.below BW.out bb BW.out.lt)
  have HB2 := Lib.hid (nextw HBW.out bb)
  have hb3 : Below w2.heap.size w2 (w2.alloc (.cells #[.bool sx, .slice Ax kx cx] 24)) := (Below.refl _ _).alloc (Nat.le_refl _) _
  have bx := Box.new w2 sx (.slice Ax kx cx)
  have BX3 := Lib.hid bx
  have HC3 := Lib.hid (Rc.below hc hb3)
  have B3 := Lib.hid (Box.below B2.out hb3 B2.out.lt)
  have HB3 := Lib.hid (nextw HB2.out hb3)
  have HSX := Lib.hid (show w.heap.size < w2.heap.size from B2.out.lt)
  clear hc bb hb3 bx HU HZ BW HBW B2 HB2
  have c0x := BX3.out.c0
  have c1x := BX3.out.c1
  go_wp2_with fail
  clear c0x c1x
  generalize hW3 : w2.alloc (.cells #[.bool sx, .slice Ax kx cx] 24) = W3 at *
  have HXA := Lib.hid BX3.out.lt
  refine (RText_rd (Rc.rd HC3.out) (by have := HLN.out; omega)).mono ?_
  rintro e w4 ⟨rfl, bb⟩
  have BX4 := Lib.hid (Box.below BX3.out bb HXA.out)
  have B4 := Lib.hid (Box.below B3.out bb B3.out.lt)
  have HC4 := Lib.hid (Rc.below HC3.out bb)
  have HB4 := Lib.hid (nextw HB3.out bb)
  clear bb BX3 B3 HC3 HB3 hW3
  by_cases hg : goodD l
  · have HG := Lib.hid hg
    have HW := Lib.hid (numD_words l hn hg.1)
    rw [text_numD l hg]
    clear hg
    have bS := Box.store B4.out sx (.slice Ax kx cx)
    have s0 := bS.c0
    have s1 := bS.c1
    have K_r := Lib.hid (Box.keepsRc B4.out (show Rc w4 _ _ 223 from ⟨HC4.out.1, HW.out⟩) sx (.slice Ax kx cx))
    have HBF := Lib.hid (Below.store HB4.out (x := w.heap.size) (by omega) (.bool sx) (.slice Ax kx cx))
    clear bS
    have c0r := B4.out.c0
    have c1r := B4.out.c1
    have f0r := B4.out.f0
    have f1r := B4.out.f1
    have c0x := BX4.out.c0
    have c1x := BX4.out.c1
    go_wp2_with fail
    exact bodyPost_ret (v := .tuple #[.agg #[.bool sx, .slice Ax kx cx], .int .i64 0]) (by simp [results, Tryd.results34, go_sem, s0, s1]) rfl (Or.inl ⟨HG.out, _, rfl, K_r.out, HBF.out⟩)
  · have HG := Lib.hid hg
    have hne := text_ne hg (numD l)
    clear hg
    have BX := B4
    have HBX := HB4
    have bS := Box.store BX.out false (.slice none 0 0)
    have s0 := bS.c0
    have s1 := bS.c1
    have HBF := Lib.hid (Below.store HBX.out (x := w.heap.size) (by omega) (.bool false) (.slice none 0 0))
    clear bS
    have c0r := BX.out.c0
    have c1r := BX.out.c1
    have f0r := BX.out.f0
    have f1r := BX.out.f1
    go_wp2_with fail
    exact bodyPost_ret (v := .tuple #[.agg #[.bool false, .slice none 0 0], .int .i64 3]) (by simp [results, Tryd.results34, go_sem, s0, s1]) rfl (Or.inr ⟨HG.out, rfl, HBF.out⟩)

set_option maxRecDepth 100000 in
set_option maxHeartbeats 8000000 in
theorem RParse_plus (l : List UInt8) (w : World) (hn : l.length ≤ 2000) (h0 : 0 < l.length) (hneg : negD l = false) :
    Calls Tryd.prog 34 #[.string ⟨l.toArray⟩] w (RPost w l) := by
  have hb0 : Below w.heap.size w (w.alloc (.cells #[.bool false, .slice none 0 0] 24)) := (Below.refl w.heap.size w).alloc (Nat.le_refl _) _
  have B_r := Lib.hid (Box.new w false (.slice none 0 0))
  have HB := Lib.hid hb0
  clear hb0
  obtain ⟨i0, hi, hz0, hz1, hz2⟩ := info_parts info32
  have HI := Lib.hid hi
  have HNG := Lib.hid hneg
  have HD : Hid (bodyD l = l.drop 0) := body_of hneg
  have hx0 := byte_at l 0 h0
  have hb0 : (((l.getD 0 0).toNat : Int) == 45) = false := by
    rw [beq_eq_false_iff_ne]
    cases l with
    | nil => simp at h0
    | cons a t =>
      rw [negD_cons] at hneg
      have h1 := of_decide_eq_false hneg; intro h2; apply h1; apply UInt8.toNat_inj.1; have h3 : (45 : UInt8).toNat = 45 := rfl; rw [h3]; simp only [List.getD, List.getElem?_cons_zero, Option.getD_some] at h2; omega
  clear hi hneg
  generalize l.getD 0 0 = b0 at *
  go_enter Tryd.func34, Tryd.ntmps34
  go_wp2_with fail
  clear hx0 hb0
  obtain ⟨W0, hW0⟩ : ∃ W0, w.alloc (.cells #[.bool false, .slice none 0 0] 24) = W0 := ⟨_, rfl⟩
  rw [hW0] at B_r HB ⊢
  have hsr := B_r.out.lt
  have HSR := Lib.hid hsr
  have h0at : Hid (RPAt W0 W0 l 0 0 (.slice none 0 0) []) := ⟨⟨World.ownsRow_nil _ _ _ _, by simp, by simp [val, valD], by simp, Below.refl _ _⟩, by simp, Nat.le_refl _⟩
  clear hW0 hsr
  go_loopw [3, 4, 6, 7, 8] (fun _ v i _ _ wr => ∃ (p : Nat) (L : List Nat), p ≤ l.length ∧ i = .int .i64 p ∧ RPAt W0 wr l 0 p v L) (fun _ _ i _ _ _ => l.length - (RowKit.intOf i).toNat)
  case atStart => exact ⟨0, [], by omega, rfl, h0at.out⟩
  case round =>
    clear h0at
    obtain ⟨p, L, hpl, rfl, hs⟩ := hrel
    have HS := Lib.hid hs
    clear hs
    by_cases hp : p < l.length
    · have hx := byte_at l p hp
      by_cases hlo : (l.getD p 0).toNat < 48
      · have HG := Lib.hid (RPAt.bad HS.out HD.out hp (fun h => by have := h.1; omega))
        have BX := Lib.hid (Box.below B_r.out HS.out.at'.below HSR.out)
        have HBX := Lib.hid (HB.out.trans (HS.out.at'.below.mono HB.out.size))
        clear HS
        generalize l.getD p 0 = x at *
        have bS := Box.store BX.out false (.slice none 0 0)
        have s0 := bS.c0
        have s1 := bS.c1
        have HBF := Lib.hid (Below.store HBX.out (x := w.heap.size) (by omega) (.bool false) (.slice none 0 0))
        clear bS
        have c0r := BX.out.c0
        have c1r := BX.out.c1
        have f0r := BX.out.f0
        have f1r := BX.out.f1
        go_wp2_with fail
        exact bodyPost_ret (v := .tuple #[.agg #[.bool false, .slice none 0 0], .int .i64 3]) (by simp [results, Tryd.results34, go_sem, s0, s1]) rfl (Or.inr ⟨HG.out, rfl, HBF.out⟩)
      · by_cases hhi : 57 < (l.getD p 0).toNat
        · have HG := Lib.hid (RPAt.bad HS.out HD.out hp (fun h => by have := h.2; omega))
          have BX := Lib.hid (Box.below B_r.out HS.out.at'.below HSR.out)
          have HBX := Lib.hid (HB.out.trans (HS.out.at'.below.mono HB.out.size))
          clear HS
          generalize l.getD p 0 = x at *
          have bS := Box.store BX.out false (.slice none 0 0)
          have s0 := bS.c0
          have s1 := bS.c1
          have HBF := Lib.hid (Below.store HBX.out (x := w.heap.size) (by omega) (.bool false) (.slice none 0 0))
          clear bS
          have c0r := BX.out.c0
          have c1r := BX.out.c1
          have f0r := BX.out.f0
          have f1r := BX.out.f1
          go_wp2_with fail
          exact bodyPost_ret (v := .tuple #[.agg #[.bool false, .slice none 0 0], .int .i64 3]) (by simp [results, Tryd.results34, go_sem, s0, s1]) rfl (Or.inr ⟨HG.out, rfl, HBF.out⟩)
        · obtain ⟨d, hd⟩ : ∃ d, (l.getD p 0).toNat = 48 + d := ⟨(l.getD p 0).toNat - 48, by omega⟩
          have h9 : d ≤ 9 := by omega
          have HDD := Lib.hid hd
          generalize hbb : l.getD p 0 = b at *
          have HBB := Lib.hid hbb
          have hlo8 : ¬ (b.toNat : Int) < 48 := by omega
          have hhi8 : ¬ (57 : Int) < (b.toNat : Int) := by omega
          have hd8 : (b.toNat : Int) - 48 = (d : Int) := by omega
          clear hd hbb hlo hhi
          rcases HS.out.at'.row.2 with ⟨rfl, h0⟩ | ⟨g, cap, cur, rfl, hg, hh, hnc, hcm, hcs, htake⟩
          · obtain rfl : L = [] := List.eq_nil_of_length_eq_zero h0
            have hrow2 := ahead_base2 HS.out.at'.row (.cells #[.int .u32 (d : Int)] 46)
            simp only [List.length_nil] at hrow2
            by_cases hd0 : d = 0
            · subst hd0
              have HN := Lib.hid (RPAt.next HS.out HD.out hp (HBB.out ▸ HDD.out) (by omega) HS.out.at'.row HS.out.at'.lt (by simp [val]) (by simp) (Below.refl _ _))
              clear HS hrow2 h0 HDD
              go_wp2_with fail
              refine wp_loop_rounds 1 ?_
              rw [rounds_succ]
              go_wp2_with fail
              go_roundw
              case rel => exact ⟨p + 1, [], by omega, by go_num, HN.out⟩
              case measure => simp only [RowKit.intOf]; omega
            · have hd1 : (0 : Int) < (d : Int) := by omega
              have HD0 := Lib.hid hd0
              have HSZ := Lib.hid HS.out.at'.below.size
              have hsz0 := HSZ.out
              clear hd0 h0
              go_wp2_with fail
              refine wp_loop_rounds 1 ?_
              rw [rounds_succ]
              go_wp2_with ((at_builtin; refine wpList_append_own _ rfl _ _ 22 rfl W0.heap.size 46 i0 (.int .u32 0) 1 4 Tryd.underlying22 HI.out hz0 hz1 hz2 rfl (by decide) (.slice none 0 0) 0 [] rfl hrow2 ⟨wr.heap.size, 0, none⟩ 1 1 [.int .u32 (d : Int)] rfl rfl (new_word wr d) (by intro u hu; simp at hu; subst hu; rfl) (by simp [maxLen]) (by have := HSZ.out; omega) (by simp; omega) ?_; intro v3 w3 hown3 hgrow3 hnil3))
              have HN := Lib.hid (RPAt.next (L1 := [d]) HS.out HD.out hp (HBB.out ▸ HDD.out) h9 hown3 (by simp; omega) (by simp [val]) (by simp) (((Below.refl _ _).alloc HSZ.out _).grown hgrow3 (by have := HSZ.out; simp; omega) (fun k hk => by cases hk)))
              clear hown3 hgrow3 hnil3 hrow2 HS HDD
              go_wp2_with fail
              go_roundw
              case rel => exact ⟨p + 1, [d], by omega, by go_num, HN.out⟩
              case measure => simp only [RowKit.intOf]; omega
          · have hnc' := hnc
            have HCM := Lib.hid hcm
            unfold maxLen at hcm
            have hs0 := ADAt.start (w := wr) (base := W0.heap.size) HS.out.at'.row h9
            have HS0 := Lib.hid hs0
            have HG := Lib.hid hg
            have HL := Lib.hid HS.out.at'.lt
            have HLE := Lib.hid HS.out.at'.len
            have HSZ := Lib.hid HS.out.at'.below.size
            have hll : L.length ≤ 2000 := by have := HS.out.at'.len; omega
            clear hs0 hh hcs htake hg hnc
            go_wp2_with fail
            go_loopw [7, 8] (fun cy i wq => ∃ (k c : Nat) (done : List Nat), k ≤ L.length ∧ cy = .int .u64 c ∧ i = .int .i64 k ∧ ADAt W0.heap.size wr wq (.slice (some ⟨g, 0, none⟩) L.length cap) L d k c done) (fun _ i _ => L.length - (RowKit.intOf i).toNat)
            case atStart => exact ⟨0, d, [], by omega, rfl, rfl, HS0.out⟩
            case round =>
              clear HS0
              obtain ⟨k, c, done, hk, rfl, rfl, hs⟩ := hrel
              have hcy := hs.carry
              by_cases hk1 : k < L.length
              · have hc0 := hs.row.cellAt k (by omega)
                have hlen := hs.len
                have hgd : (ws (done ++ L.drop k))[k]? = some (.int .u32 (L.getD k 0 : Nat)) := by
                  rw [ws_getElem?, List.getElem?_append_right (by omega), hlen, Nat.sub_self, List.getElem?_drop, Nat.add_zero]
                  simp [List.getD, hk1]
                rw [hgd] at hc0
                have hfz := hs.row.frozenAt k
                have a1 := getD_lt HL.out k
                obtain ⟨s, hse⟩ : ∃ s, c + 10 * L.getD k 0 = s := ⟨_, rfl⟩
                have HN := Lib.hid (hs.step hk1 HL.out hse HG.out)
                clear hs hgd hlen
                generalize L.getD k 0 = x at *
                have h64 : s < 18446744073709551616 := by omega
                have hsI : (c : Int) + (x : Int) * 10 = (s : Int) := by omega
                clear hse
                go_wp2_with fail
                go_roundw
                case rel => exact ⟨k + 1, s / 4294967296, _, by omega, by go_num, by go_num, HN.out⟩
                case measure => simp only [RowKit.intOf]; omega
              · obtain rfl : k = L.length := by omega
                obtain ⟨hrow, hv⟩ := hs.done
                have HV := Lib.hid hv
                have HT := Lib.hid hs.lt
                have HBI := Lib.hid hs.below
                have HR := Lib.hid hrow
                have HDL := Lib.hid hs.len
                by_cases hc0 : c = 0
                · subst hc0
                  have HN := Lib.hid (RPAt.next (L1 := done) HS.out HD.out hp (HBB.out ▸ HDD.out) h9 (by rw [HDL.out]; exact HR.out) HT.out (by have := HV.out; omega) (by have := HDL.out; omega) HBI.out)
                  clear hs hrow hv HS HDD HV HT HBI HR
                  go_wp2_with fail
                  go_roundw
                  case rel => exact ⟨p + 1, done, by omega, by go_num, HN.out⟩
                  case measure => simp only [RowKit.intOf]; omega
                · have hc1 : (0 : Int) < (c : Int) := by omega
                  have hrow2 := ahead_base2 hrow (.cells #[.int .u32 (c : Int)] 46)
                  have hsz := hs.below.size
                  have hsz0 := HSZ.out
                  clear hs hrow hv hc0
                  go_wp2_with ((at_builtin; (refine wpList_append_own _ rfl _ _ 22 rfl W0.heap.size 46 i0 (.int .u32 0) 1 4 Tryd.underlying22 HI.out hz0 hz1 hz2 rfl (by decide) (.slice (some ⟨g, 0, none⟩) L.length cap) L.length (ws done) rfl hrow2 ⟨wr.heap.size, 0, none⟩ 1 1 [.int .u32 (c : Int)] rfl rfl (new_word wr c) (by intro u hu; simp at hu; subst hu; rfl) (by simp only [maxLen]; omega) (by have := HSZ.out; omega) (by simp; omega) ?_); intro v3 w3 hown3 hgrow3 hnil3))
                  have hsize := HSZ.out
                  have HN := Lib.hid (RPAt.next (L1 := done ++ [c]) HS.out HD.out hp (HBB.out ▸ HDD.out) h9 (by rw [List.length_append, HDL.out, ws_append]; exact hown3)
                    (by
                      intro x hx
                      rcases List.mem_append.1 hx with hx | hx
                      · exact HT.out x hx
                      · rw [List.mem_singleton] at hx; omega)
                    (by rw [val_snoc]; exact HV.out) (by have := HDL.out; simp; omega)
                    ((HBI.out.alloc (by omega) _).grown hgrow3 (by simp; omega) (fun k hk => by have hk2 : g = k := Option.some.inj hk; have := HG.out; omega)))
                  clear hown3 hgrow3 hnil3 hrow2 HS HDD HV HT HBI HR
                  go_wp2_with fail
                  go_roundw
                  case rel => exact ⟨p + 1, done ++ [c], by omega, by go_num, HN.out⟩
                  case measure => simp only [RowKit.intOf]; omega
    · obtain rfl : p = l.length := by omega
      have hbl := body_len HD.out
      have hu := U32.of_own HS.out.at'.lt HS.out.at'.row
      obtain ⟨A0, c0, hvm, -⟩ := hu.form
      subst hvm
      have HU := Lib.hid hu
      have HZ : Hid (ival false L = numD l) := by
        have h1 := HS.out.at'.eq
        rw [← hbl, List.take_length] at h1
        have h2 := ival_numD l L h1
        rw [HNG.out] at h2
        exact h2
      have HLN : Hid (L.length ≤ 2000) := by have := HS.out.at'.len; unfold Hid; omega
      have BW := Lib.hid (Box.below B_r.out HS.out.at'.below HSR.out)
      have HBW := Lib.hid (HB.out.trans (HS.out.at'.below.mono HB.out.size))
      clear hbl hu HS B_r HB HSR
      go_wp2_with fail
      refine (RNorm_rd (n1 := L.length) (z1 := numD l) ⟨false, _, L, rfl, HU.out, HZ.out, Nat.le_refl _⟩ (by have := HLN.out; omega)).mono ?_
      rintro e w2 ⟨v2, rfl, hc, bb⟩
      obtain ⟨sx, Ax, kx, cx, rfl⟩ := hc.shape
      have B2 := Lib.hid (Box.below BW.out bb BW.out.lt)
      have HB2 := Lib.hid (nextw HBW.out bb)
      have hb3 : Below w2.heap.size w2 (w2.alloc (.cells #[.bool sx, .slice Ax kx cx] 24)) := (Below.refl _ _).alloc (Nat.le_refl _) _
      have bx := Box.new w2 sx (.slice Ax kx cx)
      have BX3 := Lib.hid bx
      have HC3 := Lib.hid (Rc.below hc hb3)
      have B3 := Lib.hid (Box.below B2.out hb3 B2.out.lt)
      have HB3 := Lib.hid (nextw HB2.out hb3)
      have HSX := Lib.hid (show w.heap.size < w2.heap.size from B2.out.lt)
      clear hc bb hb3 bx HU HZ BW HBW B2 HB2
      have c0x := BX3.out.c0
      have c1x := BX3.out.c1
      go_wp2_with fail
      clear c0x c1x
      generalize hW3 : w2.alloc (.cells #[.bool sx, .slice Ax kx cx] 24) = W3 at *
      have HXA := Lib.hid BX3.out.lt
      refine (RText_rd (Rc.rd HC3.out) (by have := HLN.out; omega)).mono ?_
      rintro e w4 ⟨rfl, bb⟩
      have BX4 := Lib.hid (Box.below BX3.out bb HXA.out)
      have B4 := Lib.hid (Box.below B3.out bb B3.out.lt)
      have HC4 := Lib.hid (Rc.below HC3.out bb)
      have HB4 := Lib.hid (nextw HB3.out bb)
      clear bb BX3 B3 HC3 HB3 hW3
      by_cases hg : goodD l
      · have HG := Lib.hid hg
        have HW := Lib.hid (numD_words l hn hg.1)
        rw [text_numD l hg]
        clear hg
        have bS := Box.store B4.out sx (.slice Ax kx cx)
        have s0 := bS.c0
        have s1 := bS.c1
        have K_r := Lib.hid (Box.keepsRc B4.out (show Rc w4 _ _ 223 from ⟨HC4.out.1, HW.out⟩) sx (.slice Ax kx cx))
        have HBF := Lib.hid (Below.store HB4.out (x := w.heap.size) (by omega) (.bool sx) (.slice Ax kx cx))
        clear bS
        have c0r := B4.out.c0
        have c1r := B4.out.c1
        have f0r := B4.out.f0
        have f1r := B4.out.f1
        have c0x := BX4.out.c0
        have c1x := BX4.out.c1
        go_wp2_with fail
        exact bodyPost_ret (v := .tuple #[.agg #[.bool sx, .slice Ax kx cx], .int .i64 0]) (by simp [results, Tryd.results34, go_sem, s0, s1]) rfl (Or.inl ⟨HG.out, _, rfl, K_r.out, HBF.out⟩)
      · have HG := Lib.hid hg
        have hne := text_ne hg (numD l)
        clear hg
        have BX := B4
        have HBX := HB4
        have bS := Box.store BX.out false (.slice none 0 0)
        have s0 := bS.c0
        have s1 := bS.c1
        have HBF := Lib.hid (Below.store HBX.out (x := w.heap.size) (by omega) (.bool false) (.slice none 0 0))
        clear bS
        have c0r := BX.out.c0
        have c1r := BX.out.c1
        have f0r := BX.out.f0
        have f1r := BX.out.f1
        go_wp2_with fail
        exact bodyPost_ret (v := .tuple #[.agg #[.bool false, .slice none 0 0], .int .i64 3]) (by simp [results, Tryd.results34, go_sem, s0, s1]) rfl (Or.inr ⟨HG.out, rfl, HBF.out⟩)

set_option maxRecDepth 100000 in
set_option maxHeartbeats 8000000 in
theorem RParse_minus (l : List UInt8) (w : World) (hn : l.length ≤ 2000) (h0 : 0 < l.length) (hneg : negD l = true) :
    Calls Tryd.prog 34 #[.string ⟨l.toArray⟩] w (RPost w l) := by
  have hb0 : Below w.heap.size w (w.alloc (.cells #[.bool false, .slice none 0 0] 24)) := (Below.refl w.heap.size w).alloc (Nat.le_refl _) _
  have B_r := Lib.hid (Box.new w false (.slice none 0 0))
  have HB := Lib.hid hb0
  clear hb0
  obtain ⟨i0, hi, hz0, hz1, hz2⟩ := info_parts info32
  have HI := Lib.hid hi
  have HNG := Lib.hid hneg
  have HD : Hid (bodyD l = l.drop 1) := body_of hneg
  have hx0 := byte_at l 0 h0
  have hb0 : ((l.getD 0 0).toNat : Int) = 45 := by
    
    cases l with
    | nil => simp at h0
    | cons a t =>
      rw [negD_cons] at hneg
      have h1 := of_decide_eq_true hneg; subst h1; rfl
  clear hi hneg
  generalize l.getD 0 0 = b0 at *
  go_enter Tryd.func34, Tryd.ntmps34
  go_wp2_with fail
  clear hx0 hb0
  obtain ⟨W0, hW0⟩ : ∃ W0, w.alloc (.cells #[.bool false, .slice none 0 0] 24) = W0 := ⟨_, rfl⟩
  rw [hW0] at B_r HB ⊢
  have hsr := B_r.out.lt
  have HSR := Lib.hid hsr
  have h0at : Hid (RPAt W0 W0 l 1 1 (.slice none 0 0) []) := ⟨⟨World.ownsRow_nil _ _ _ _, by simp, by simp [val, valD], by simp, Below.refl _ _⟩, by simp, Nat.le_refl _⟩
  clear hW0 hsr
  go_loopw [3, 4, 6, 7, 8] (fun _ v i _ _ wr => ∃ (p : Nat) (L : List Nat), p ≤ l.length ∧ i = .int .i64 p ∧ RPAt W0 wr l 1 p v L) (fun _ _ i _ _ _ => l.length - (RowKit.intOf i).toNat)
  case atStart => exact ⟨1, [], by omega, rfl, h0at.out⟩
  case round =>
    clear h0at
    obtain ⟨p, L, hpl, rfl, hs⟩ := hrel
    have HS := Lib.hid hs
    clear hs
    by_cases hp : p < l.length
    · have hx := byte_at l p hp
      by_cases hlo : (l.getD p 0).toNat < 48
      · have HG := Lib.hid (RPAt.bad HS.out HD.out hp (fun h => by have := h.1; omega))
        have BX := Lib.hid (Box.below B_r.out HS.out.at'.below HSR.out)
        have HBX := Lib.hid (HB.out.trans (HS.out.at'.below.mono HB.out.size))
        clear HS
        generalize l.getD p 0 = x at *
        have bS := Box.store BX.out false (.slice none 0 0)
        have s0 := bS.c0
        have s1 := bS.c1
        have HBF := Lib.hid (Below.store HBX.out (x := w.heap.size) (by omega) (.bool false) (.slice none 0 0))
        clear bS
        have c0r := BX.out.c0
        have c1r := BX.out.c1
        have f0r := BX.out.f0
        have f1r := BX.out.f1
        go_wp2_with fail
        exact bodyPost_ret (v := .tuple #[.agg #[.bool false, .slice none 0 0], .int .i64 3]) (by simp [results, Tryd.results34, go_sem, s0, s1]) rfl (Or.inr ⟨HG.out, rfl, HBF.out⟩)
      · by_cases hhi : 57 < (l.getD p 0).toNat
        · have HG := Lib.hid (RPAt.bad HS.out HD.out hp (fun h => by have := h.2; omega))
          have BX := Lib.hid (Box.below B_r.out HS.out.at'.below HSR.out)
          have HBX := Lib.hid (HB.out.trans (HS.out.at'.below.mono HB.out.size))
          clear HS
          generalize l.getD p 0 = x at *
          have bS := Box.store BX.out false (.slice none 0 0)
          have s0 := bS.c0
          have s1 := bS.c1
          have HBF := Lib.hid (Below.store HBX.out (x := w.heap.size) (by omega) (.bool false) (.slice none 0 0))
          clear bS
          have c0r := BX.out.c0
          have c1r := BX.out.c1
          have f0r := BX.out.f0
          have f1r := BX.out.f1
          go_wp2_with fail
          exact bodyPost_ret (v := .tuple #[.agg #[.bool false, .slice none 0 0], .int .i64 3]) (by simp [results, Tryd.results34, go_sem, s0, s1]) rfl (Or.inr ⟨HG.out, rfl, HBF.out⟩)
        · obtain ⟨d, hd⟩ : ∃ d, (l.getD p 0).toNat = 48 + d := ⟨(l.getD p 0).toNat - 48, by omega⟩
          have h9 : d ≤ 9 := by omega
          have HDD := Lib.hid hd
          generalize hbb : l.getD p 0 = b at *
          have HBB := Lib.hid hbb
          have hlo8 : ¬ (b.toNat : Int) < 48 := by omega
          have hhi8 : ¬ (57 : Int) < (b.toNat : Int) := by omega
          have hd8 : (b.toNat : Int) - 48 = (d : Int) := by omega
          clear hd hbb hlo hhi
          rcases HS.out.at'.row.2 with ⟨rfl, h0⟩ | ⟨g, cap, cur, rfl, hg, hh, hnc, hcm, hcs, htake⟩
          · obtain rfl : L = [] := List.eq_nil_of_length_eq_zero h0
            have hrow2 := ahead_base2 HS.out.at'.row (.cells #[.int .u32 (d : Int)] 46)
            simp only [List.length_nil] at hrow2
            by_cases hd0 : d = 0
            · subst hd0
              have HN := Lib.hid (RPAt.next HS.out HD.out hp (HBB.out ▸ HDD.out) (by omega) HS.out.at'.row HS.out.at'.lt (by simp [val]) (by simp) (Below.refl _ _))
              clear HS hrow2 h0 HDD
              go_wp2_with fail
              refine wp_loop_rounds 1 ?_
              rw [rounds_succ]
              go_wp2_with fail
              go_roundw
              case rel => exact ⟨p + 1, [], by omega, by go_num, HN.out⟩
              case measure => simp only [RowKit.intOf]; omega
            · have hd1 : (0 : Int) < (d : Int) := by omega
              have HD0 := Lib.hid hd0
              have HSZ := Lib.hid HS.out.at'.below.size
              have hsz0 := HSZ.out
              clear hd0 h0
              go_wp2_with fail
              refine wp_loop_rounds 1 ?_
              rw [rounds_succ]
              go_wp2_with ((at_builtin; refine wpList_append_own _ rfl _ _ 22 rfl W0.heap.size 46 i0 (.int .u32 0) 1 4 Tryd.underlying22 HI.out hz0 hz1 hz2 rfl (by decide) (.slice none 0 0) 0 [] rfl hrow2 ⟨wr.heap.size, 0, none⟩ 1 1 [.int .u32 (d : Int)] rfl rfl (new_word wr d) (by intro u hu; simp at hu; subst hu; rfl) (by simp [maxLen]) (by have := HSZ.out; omega) (by simp; omega) ?_; intro v3 w3 hown3 hgrow3 hnil3))
              have HN := Lib.hid (RPAt.next (L1 := [d]) HS.out HD.out hp (HBB.out ▸ HDD.out) h9 hown3 (by simp; omega) (by simp [val]) (by simp) (((Below.refl _ _).alloc HSZ.out _).grown hgrow3 (by have := HSZ.out; simp; omega) (fun k hk => by cases hk)))
              clear hown3 hgrow3 hnil3 hrow2 HS HDD
              go_wp2_with fail
              go_roundw
              case rel => exact ⟨p + 1, [d], by omega, by go_num, HN.out⟩
              case measure => simp only [RowKit.intOf]; omega
          · have hnc' := hnc
            have HCM := Lib.hid hcm
            unfold maxLen at hcm
            have hs0 := ADAt.start (w := wr) (base := W0.heap.size) HS.out.at'.row h9
            have HS0 := Lib.hid hs0
            have HG := Lib.hid hg
            have HL := Lib.hid HS.out.at'.lt
            have HLE := Lib.hid HS.out.at'.len
            have HSZ := Lib.hid HS.out.at'.below.size
            have hll : L.length ≤ 2000 := by have := HS.out.at'.len; omega
            clear hs0 hh hcs htake hg hnc
            go_wp2_with fail
            go_loopw [7, 8] (fun cy i wq => ∃ (k c : Nat) (done : List Nat), k ≤ L.length ∧ cy = .int .u64 c ∧ i = .int .i64 k ∧ ADAt W0.heap.size wr wq (.slice (some ⟨g, 0, none⟩) L.length cap) L d k c done) (fun _ i _ => L.length - (RowKit.intOf i).toNat)
            case atStart => exact ⟨0, d, [], by omega, rfl, rfl, HS0.out⟩
            case round =>
              clear HS0
              obtain ⟨k, c, done, hk, rfl, rfl, hs⟩ := hrel
              have hcy := hs.carry
              by_cases hk1 : k < L.length
              · have hc0 := hs.row.cellAt k (by omega)
                have hlen := hs.len
                have hgd : (ws (done ++ L.drop k))[k]? = some (.int .u32 (L.getD k 0 : Nat)) := by
                  rw [ws_getElem?, List.getElem?_append_right (by omega), hlen, Nat.sub_self, List.getElem?_drop, Nat.add_zero]
                  simp [List.getD, hk1]
                rw [hgd] at hc0
                have hfz := hs.row.frozenAt k
                have a1 := getD_lt HL.out k
                obtain ⟨s, hse⟩ : ∃ s, c + 10 * L.getD k 0 = s := ⟨_, rfl⟩
                have HN := Lib.hid (hs.step hk1 HL.out hse HG.out)
                clear hs hgd hlen
                generalize L.getD k 0 = x at *
                have h64 : s < 18446744073709551616 := by omega
                have hsI : (c : Int) + (x : Int) * 10 = (s : Int) := by omega
                clear hse
                go_wp2_with fail
                go_roundw
                case rel => exact ⟨k + 1, s / 4294967296, _, by omega, by go_num, by go_num, HN.out⟩
                case measure => simp only [RowKit.intOf]; omega
              · obtain rfl : k = L.length := by omega
                obtain ⟨hrow, hv⟩ := hs.done
                have HV := Lib.hid hv
                have HT := Lib.hid hs.lt
                have HBI := Lib.hid hs.below
                have HR := Lib.hid hrow
                have HDL := Lib.hid hs.len
                by_cases hc0 : c = 0
                · subst hc0
                  have HN := Lib.hid (RPAt.next (L1 := done) HS.out HD.out hp (HBB.out ▸ HDD.out) h9 (by rw [HDL.out]; exact HR.out) HT.out (by have := HV.out; omega) (by have := HDL.out; omega) HBI.out)
                  clear hs hrow hv HS HDD HV HT HBI HR
                  go_wp2_with fail
                  go_roundw
                  case rel => exact ⟨p + 1, done, by omega, by go_num, HN.out⟩
                  case measure => simp only [RowKit.intOf]; omega
                · have hc1 : (0 : Int) < (c : Int) := by omega
                  have hrow2 := ahead_base2 hrow (.cells #[.int .u32 (c : Int)] 46)
                  have hsz := hs.below.size
                  have hsz0 := HSZ.out
                  clear hs hrow hv hc0
                  go_wp2_with ((at_builtin; (refine wpList_append_own _ rfl _ _ 22 rfl W0.heap.size 46 i0 (.int .u32 0) 1 4 Tryd.underlying22 HI.out hz0 hz1 hz2 rfl (by decide) (.slice (some ⟨g, 0, none⟩) L.length cap) L.length (ws done) rfl hrow2 ⟨wr.heap.size, 0, none⟩ 1 1 [.int .u32 (c : Int)] rfl rfl (new_word wr c) (by intro u hu; simp at hu; subst hu; rfl) (by simp only [maxLen]; omega) (by have := HSZ.out; omega) (by simp; omega) ?_); intro v3 w3 hown3 hgrow3 hnil3))
                  have hsize := HSZ.out
                  have HN := Lib.hid (RPAt.next (L1 := done ++ [c]) HS.out HD.out hp (HBB.out ▸ HDD.out) h9 (by rw [List.length_append, HDL.out, ws_append]; exact hown3)
                    (by
                      intro x hx
                      rcases List.mem_append.1 hx with hx | hx
                      · exact HT.out x hx
                      · rw [List.mem_singleton] at hx; omega)
                    (by rw [val_snoc]; exact HV.out) (by have := HDL.out; simp; omega)
                    ((HBI.out.alloc (by omega) _).grown hgrow3 (by simp; omega) (fun k hk => by have hk2 : g = k := Option.some.inj hk; have := HG.out; omega)))
                  clear hown3 hgrow3 hnil3 hrow2 HS HDD HV HT HBI HR
                  go_wp2_with fail
                  go_roundw
                  case rel => exact ⟨p + 1, done ++ [c], by omega, by go_num, HN.out⟩
                  case measure => simp only [RowKit.intOf]; omega
    · obtain rfl : p = l.length := by omega
      have hbl := body_len HD.out
      have hu := U32.of_own HS.out.at'.lt HS.out.at'.row
      obtain ⟨A0, c0, hvm, -⟩ := hu.form
      subst hvm
      have HU := Lib.hid hu
      have HZ : Hid (ival true L = numD l) := by
        have h1 := HS.out.at'.eq
        rw [← hbl, List.take_length] at h1
        have h2 := ival_numD l L h1
        rw [HNG.out] at h2
        exact h2
      have HLN : Hid (L.length ≤ 2000) := by have := HS.out.at'.len; unfold Hid; omega
      have BW := Lib.hid (Box.below B_r.out HS.out.at'.below HSR.out)
      have HBW := Lib.hid (HB.out.trans (HS.out.at'.below.mono HB.out.size))
      clear hbl hu HS B_r HB HSR
      go_wp2_with fail
      refine (RNorm_rd (n1 := L.length) (z1 := numD l) ⟨true, _, L, rfl, HU.out, HZ.out, Nat.le_refl _⟩ (by have := HLN.out; omega)).mono ?_
      rintro e w2 ⟨v2, rfl, hc, bb⟩
      obtain ⟨sx, Ax, kx, cx, rfl⟩ := hc.shape
      have B2 := Lib.hid (Box.below BW.out bb BW.out.lt)
      have HB2 := Lib.hid (nextw HBW.out bb)
      have hb3 : Below w2.heap.size w2 (w2.alloc (.cells #[.bool sx, .slice Ax kx cx] 24)) := (Below.refl _ _).alloc (Nat.le_refl _) _
      have bx := Box.new w2 sx (.slice Ax kx cx)
      have BX3 := Lib.hid bx
      have HC3 := Lib.hid (Rc.below hc hb3)
      have B3 := Lib.hid (Box.below B2.out hb3 B2.out.lt)
      have HB3 := Lib.hid (nextw HB2.out hb3)
      have HSX := Lib.hid (show w.heap.size < w2.heap.size from B2.out.lt)
      clear hc bb hb3 bx HU HZ BW HBW B2 HB2
      have c0x := BX3.out.c0
      have c1x := BX3.out.c1
      go_wp2_with fail
      clear c0x c1x
      generalize hW3 : w2.alloc (.cells #[.bool sx, .slice Ax kx cx] 24) = W3 at *
      have HXA := Lib.hid BX3.out.lt
      refine (RText_rd (Rc.rd HC3.out) (by have := HLN.out; omega)).mono ?_
      rintro e w4 ⟨rfl, bb⟩
      have BX4 := Lib.hid (Box.below BX3.out bb HXA.out)
      have B4 := Lib.hid (Box.below B3.out bb B3.out.lt)
      have HC4 := Lib.hid (Rc.below HC3.out bb)
      have HB4 := Lib.hid (nextw HB3.out bb)
      clear bb BX3 B3 HC3 HB3 hW3
      by_cases hg : goodD l
      · have HG := Lib.hid hg
        have HW := Lib.hid (numD_words l hn hg.1)
        rw [text_numD l hg]
        clear hg
        have bS := Box.store B4.out sx (.slice Ax kx cx)
        have s0 := bS.c0
        have s1 := bS.c1
        have K_r := Lib.hid (Box.keepsRc B4.out (show Rc w4 _ _ 223 from ⟨HC4.out.1, HW.out⟩) sx (.slice Ax kx cx))
        have HBF := Lib.hid (Below.store HB4.out (x := w.heap.size) (by omega) (.bool sx) (.slice Ax kx cx))
        clear bS
        have c0r := B4.out.c0
        have c1r := B4.out.c1
        have f0r := B4.out.f0
        have f1r := B4.out.f1
        have c0x := BX4.out.c0
        have c1x := BX4.out.c1
        go_wp2_with fail
        exact bodyPost_ret (v := .tuple #[.agg #[.bool sx, .slice Ax kx cx], .int .i64 0]) (by simp [results, Tryd.results34, go_sem, s0, s1]) rfl (Or.inl ⟨HG.out, _, rfl, K_r.out, HBF.out⟩)
      · have HG := Lib.hid hg
        have hne := text_ne hg (numD l)
        clear hg
        have BX := B4
        have HBX := HB4
        have bS := Box.store BX.out false (.slice none 0 0)
        have s0 := bS.c0
        have s1 := bS.c1
        have HBF := Lib.hid (Below.store HBX.out (x := w.heap.size) (by omega) (.bool false) (.slice none 0 0))
        clear bS
        have c0r := BX.out.c0
        have c1r := BX.out.c1
        have f0r := BX.out.f0
        have f1r := BX.out.f1
        go_wp2_with fail
        exact bodyPost_ret (v := .tuple #[.agg #[.bool false, .slice none 0 0], .int .i64 3]) (by simp [results, Tryd.results34, go_sem, s0, s1]) rfl (Or.inr ⟨HG.out, rfl, HBF.out⟩)

theorem RParse_any (l : List UInt8) (w : World) (hn : l.length ≤ 2000) : Calls Tryd.prog 34 #[.string ⟨l.toArray⟩] w (RPost w l) := by
  rcases Nat.eq_zero_or_pos l.length with h | h
  · exact RParse_nil l w hn h
  · rcases hneg : negD l with _ | _
    · exact RParse_plus l w hn h hneg
    · exact RParse_minus l w hn h hneg
end Go.Proofs.YthfkahccnpkgjaaDoor
