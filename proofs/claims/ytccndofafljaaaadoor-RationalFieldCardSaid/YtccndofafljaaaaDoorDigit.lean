/- integer.appendDigit, value, decimal. -/
import Derived.Test.YtccndofafljaaaaDoorRefC
import Derived.Test.YtccndofafljaaaaDoorRText

set_option linter.unusedVariables false
set_option linter.unusedSimpArgs false

namespace Go.Proofs.YtccndofafljaaaaDoor
open Go Go.RowKit Num

/-- What holds at the head of appendDigit's loop. -/
structure ADAt (base : Nat) (w wr : World) (v : Value) (l : List Nat) (d k c : Nat) (done : List Nat) : Prop where
  row : wr.ownsRow base 35 1 v l.length (ws (done ++ l.drop k))
  len : done.length = k
  lt : ∀ x ∈ done, x < 4294967296
  carry : c ≤ 9
  eq : val done + 4294967296 ^ k * c = 10 * val (l.take k) + d
  below : Below base w wr
theorem ten_step {D P c a d x : Nat} (e : D + P * c = 10 * a + d) : D + P * ((c + 10 * x) % 4294967296) + P * 4294967296 * ((c + 10 * x) / 4294967296) = 10 * (a + P * x) + d := by
  rw [Nat.add_assoc, carry_join, Nat.mul_add, Nat.mul_add, Nat.mul_left_comm P 10 x]
  omega
theorem ADAt.step {base : Nat} {w wr : World} {g cap : Nat} {l : List Nat} {d k c : Nat} {done : List Nat} (h : ADAt base w wr (.slice (some ⟨g, 0, none⟩) l.length cap) l d k c done) (hk : k < l.length) (hl : ∀ x ∈ l, x < 4294967296) {s : Nat} (hs : c + 10 * l.getD k 0 = s) (hb : base ≤ g) :
    ADAt base w (wr.setCell ⟨g, k, none⟩ (.int .u32 ((s % 4294967296 : Nat) : Int))) (.slice (some ⟨g, 0, none⟩) l.length cap) l d (k + 1) (s / 4294967296) (done ++ [s % 4294967296]) := by
  have a1 := getD_lt hl k
  have hc := h.carry
  refine ⟨?_, by simp [h.len], ?_, by omega, ?_, h.below.setCell hb _⟩
  · have e := (h.row.stored k (.int .u32 ((s % 4294967296 : Nat) : Int))).1
    have hd : l.drop k = l.getD k 0 :: l.drop (k + 1) := by
      rw [List.drop_eq_getElem_cons hk]; simp [List.getD, hk]
    have hs2 := set_done done (l.getD k 0) (s % 4294967296) (l.drop (k + 1))
    rw [h.len] at hs2
    rw [hd] at e
    rw [show (ws (done ++ l.getD k 0 :: l.drop (k + 1))).set k (.int .u32 ((s % 4294967296 : Nat) : Int)) = ws (done ++ [s % 4294967296] ++ l.drop (k + 1)) by
      rw [List.append_assoc, List.singleton_append, ← hs2]; simp [ws, List.map_set]] at e
    exact e
  · intro x hx
    rcases List.mem_append.1 hx with hx | hx
    · exact h.lt x hx
    · rw [List.mem_singleton] at hx; omega
  · subst hs
    rw [val_snoc, h.len, val_take_succ, Nat.pow_succ]
    exact ten_step h.eq
theorem ADAt.start {base : Nat} {w : World} {v : Value} {l : List Nat} {d : Nat} (h : w.ownsRow base 35 1 v l.length (ws l)) (hd : d ≤ 9) : ADAt base w w v l d 0 d [] :=
  ⟨by simpa using h, rfl, by simp, hd, by simp [val], Below.refl _ _⟩
theorem ADAt.done {base : Nat} {w wr : World} {v : Value} {l : List Nat} {d c : Nat} {done : List Nat} (h : ADAt base w wr v l d l.length c done) : wr.ownsRow base 35 1 v l.length (ws done) ∧ val done + 4294967296 ^ done.length * c = 10 * val l + d := by
  have h1 := h.row
  have h2 := h.eq
  rw [List.drop_length, List.append_nil] at h1
  rw [List.take_length] at h2
  rw [h.len]
  exact ⟨h1, h2⟩
theorem ahead_base2 {wr : World} {base n : Nat} {v : Value} {l : List Nat} (h : wr.ownsRow base 35 1 v n (ws l)) (o : Obj) : (wr.alloc o).ownsRow base 35 1 v n (ws l) := h.alloc o
theorem ahead_base {wr : World} {base : Nat} {v : Value} {l : List Nat} (h : wr.ownsRow base 35 1 v l.length (ws l)) (o : Obj) : (wr.alloc o).ownsRow base 35 1 v l.length (ws l) := h.alloc o

/-- What appendDigit leaves. -/
def Digited (base : Nat) (l : List Nat) (d : Nat) (w : World) (e : Ending) (w' : World) : Prop := ∃ (v' : Value) (l' : List Nat), e = .returned v' ∧ w'.ownsRow base 35 1 v' l'.length (ws l') ∧ (∀ x ∈ l', x < 4294967296) ∧ val l' = 10 * val l + d ∧ l'.length ≤ l.length + 1 ∧ Below base w w'

set_option maxRecDepth 100000 in
set_option maxHeartbeats 4000000 in
theorem appendDigit_any (base : Nat) (v : Value) (l : List Nat) (d : Nat) (w : World) (h : w.ownsRow base 35 1 v l.length (ws l)) (hl : ∀ x ∈ l, x < 4294967296) (hd : d ≤ 9) (hbase : base ≤ w.heap.size) (hn : l.length ≤ 100000) :
    Calls Tryd.prog 88 #[v, .int .u32 d] w fun e w' => Digited base l d w e w' := by
  obtain ⟨i0, hi, hz0, hz1, hz2⟩ := info_parts info32
  have HI := Lib.hid hi
  have hs0 := ADAt.start h hd
  have HL := Lib.hid hl
  rcases h.2 with ⟨rfl, h0⟩ | ⟨g, cap, cur, rfl, hg, hh, hnc, hcm, hcs, htake⟩
  · obtain rfl : l = [] := List.eq_nil_of_length_eq_zero h0
    have hrow2 := ahead_base h (.cells #[.int .u32 (d : Int)] 35)
    simp only [List.length_nil] at hrow2
    have HH := Lib.hid h
    clear hs0 h hi h0 hl
    by_cases hd0 : d = 0
    · subst hd0
      go_enter Tryd.func88, Tryd.ntmps88
      go_wp2_with fail
      refine wp_loop_rounds 1 ?_
      rw [rounds_succ]
      go_wp2_with fail
      go_ret
      exact ⟨_, [], rfl, HH.out, by simp, by simp [val], by simp, Below.refl _ _⟩
    · have hd1 : ((d : Int) == 0) = false := by rw [beq_eq_false_iff_ne]; omega
      clear hd0
      go_enter Tryd.func88, Tryd.ntmps88
      go_wp2_with fail
      refine wp_loop_rounds 1 ?_
      rw [rounds_succ]
      go_wp2_with ((at_builtin; refine wpList_append_own _ rfl _ _ 22 rfl base 35 i0 (.int .u32 0) 1 4 Tryd.underlying22 HI.out hz0 hz1 hz2 rfl (by decide) (.slice none 0 0) 0 [] rfl hrow2 ⟨w.heap.size, 0, none⟩ 1 1 [.int .u32 (d : Int)] rfl rfl (new_word w d) (by intro u hu; simp at hu; subst hu; rfl) (by simp [maxLen]) (by omega) (by simp; omega) ?_; intro v3 w3 hown3 hgrow3 hnil3))
      have HX := Lib.hid (And.intro hown3 hgrow3)
      clear hown3 hgrow3 hnil3 hrow2
      go_ret
      refine ⟨_, [d], rfl, HX.out.1, by simp; omega, by simp [val], by simp, ?_⟩
      exact ((Below.refl _ _).alloc hbase _).grown HX.out.2 (by simp; omega) (fun k hk => by cases hk)
  · have hnc' := hnc
    unfold maxLen at hcm
    have HG := Lib.hid hg
    have hgl : g < w.heap.size := by
      rcases Nat.lt_or_ge g w.heap.size with h1 | h1
      · exact h1
      · rw [Array.getElem?_eq_none h1] at hh; cases hh
    have HGL := Lib.hid hgl
    have HS := Lib.hid hs0
    clear hi hs0 h hh hcs htake hgl hl
    go_enter Tryd.func88, Tryd.ntmps88
    go_wp2_with fail
    go_loopw [5, 6, 7, 12] (fun cy _ _ i wr => ∃ (k c : Nat) (done : List Nat), k ≤ l.length ∧ cy = .int .u64 c ∧ i = .int .i64 k ∧ ADAt base w wr (.slice (some ⟨g, 0, none⟩) l.length cap) l d k c done) (fun _ _ _ i _ => l.length - (RowKit.intOf i).toNat)
    case atStart => exact ⟨0, d, [], by omega, rfl, rfl, HS.out⟩
    case round =>
      clear HS
      obtain ⟨k, c, done, hk, rfl, rfl, hs⟩ := hrel
      have hcy := hs.carry
      by_cases hk1 : k < l.length
      · have hc0 := hs.row.cellAt k (by omega)
        have hlen := hs.len
        have hgd : (ws (done ++ l.drop k))[k]? = some (.int .u32 (l.getD k 0 : Nat)) := by
          rw [ws_getElem?, List.getElem?_append_right (by omega), hlen, Nat.sub_self, List.getElem?_drop, Nat.add_zero]
          simp [List.getD, hk1]
        rw [hgd] at hc0
        have hfz := hs.row.frozenAt k
        have a1 := getD_lt HL.out k
        obtain ⟨s, hse⟩ : ∃ s, c + 10 * l.getD k 0 = s := ⟨_, rfl⟩
        have HN := Lib.hid (hs.step hk1 HL.out hse HG.out)
        clear hs hgd hlen
        generalize l.getD k 0 = x at *
        have h64 : s < 18446744073709551616 := by omega
        have hsI : (c : Int) + 10 * (x : Int) = (s : Int) := by omega
        clear hse
        go_wp2_with fail
        go_roundw
        case rel => exact ⟨k + 1, s / 4294967296, _, by omega, by go_num, by go_num, HN.out⟩
        case measure => simp only [RowKit.intOf]; omega
      · obtain rfl : k = l.length := by omega
        obtain ⟨hrow, hv⟩ := hs.done
        have hdl := hs.len
        have HV := Lib.hid hv
        have HB := Lib.hid hs.below
        have HT := Lib.hid hs.lt
        have HR := Lib.hid hrow
        by_cases hc0 : c = 0
        · subst hc0
          have HD := Lib.hid hdl
          clear hs hrow hv hdl
          go_wp2_with fail
          go_ret
          exact ⟨_, done, rfl, by rw [HD.out]; exact HR.out, HT.out, by have := HV.out; omega, by have := HD.out; omega, HB.out⟩
        · have hcb : ((c : Int) == 0) = false := by rw [beq_eq_false_iff_ne]; omega
          have hrow2 := ahead_base2 hrow (.cells #[.int .u32 (c : Int)] 35)
          have hsz := hs.below.size
          have HD := Lib.hid hdl
          clear hs hrow hv hc0 hdl
          go_wp2_with ((at_builtin; (refine wpList_append_own _ rfl _ _ 22 rfl base 35 i0 (.int .u32 0) 1 4 Tryd.underlying22 HI.out hz0 hz1 hz2 rfl (by decide) (.slice (some ⟨g, 0, none⟩) l.length cap) l.length (ws done) rfl hrow2 ⟨wr.heap.size, 0, none⟩ 1 1 [.int .u32 (c : Int)] rfl rfl (new_word wr c) (by intro u hu; simp at hu; subst hu; rfl) (by simp only [maxLen]; omega) (by omega) (by simp; omega) ?_); intro v3 w3 hown3 hgrow3 hnil3))
          have HX := Lib.hid (And.intro hown3 hgrow3)
          clear hown3 hgrow3 hnil3 hrow2
          go_ret
          refine ⟨_, done ++ [c], rfl, by rw [List.length_append, HD.out, ws_append]; exact HX.out.1, ?_, ?_, by have := HD.out; simp; omega, ?_⟩
          · intro x hx
            rcases List.mem_append.1 hx with hx | hx
            · exact HT.out x hx
            · rw [List.mem_singleton] at hx; omega
          · rw [val_snoc]; exact HV.out
          · exact (HB.out.alloc (by omega) _).grown HX.out.2 (by simp; omega) (fun k hk => by have hk2 : g = k := Option.some.inj hk; have := HG.out; omega)
end Go.Proofs.YtccndofafljaaaaDoor
