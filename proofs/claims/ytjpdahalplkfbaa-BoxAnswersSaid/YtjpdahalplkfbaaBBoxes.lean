/- wayfinderbase.Boxes. -/
import Derived.Test.YtjpdahalplkfbaaBRow
set_option linter.unusedVariables false
set_option linter.unusedSimpArgs false
namespace Go.Proofs.Ytjpdahalplkfbaa
open Go Go.RowKit Hd

set_option maxRecDepth 100000 in
set_option maxHeartbeats 2000000 in
theorem Boxes_same {v1 v2 : Value} {l : List I6} {w : World} (h1 : AR6 w v1 l) (h2 : AR6 w v2 l) (hm : l.length ≤ 100000) :
    Calls Try.prog 21 #[v1, v2] w fun e w' => e = .returned (.bool true) ∧ Below w.heap.size w w' := by
  obtain ⟨A1, c1, rfl, hh1⟩ := h1
  obtain ⟨A2, c2, rfl, hh2⟩ := h2
  by_cases hl0 : l = []
  · subst hl0
    clear hh1 hh2 hm
    simp only [List.length_nil]
    go_enter Try.func21, Try.ntmps21
    go_wp2_with fail
    refine wp_loop_rounds 1 ?_
    rw [rounds_succ]
    go_wp2
    go_ret
    exact ⟨rfl, Below.refl _ _⟩
  · obtain ⟨g, o, rfl, -, hc1⟩ := hh1 hl0
    obtain ⟨p, o2, rfl, -, hc2⟩ := hh2 hl0
    have H1 := Lib.hid hc1
    have H2 := Lib.hid hc2
    have HB := Lib.hid (Below.refl w.heap.size w)
    clear hc1 hc2 hh1 hh2 hl0
    obtain ⟨n, hn⟩ : ∃ n, l.length = n := ⟨_, rfl⟩
    have HN := Lib.hid hn
    rw [hn] at hm ⊢
    clear hn
    go_enter Try.func21, Try.ntmps21
    go_wp2_with fail
    go_loopw [5] (fun i wr => ∃ k : Nat, k ≤ n ∧ i = .int .i64 k ∧ Hid (∀ i, i < l.length → At6 wr g o i (l.getD i z6)) ∧ Hid (∀ i, i < l.length → At6 wr p o2 i (l.getD i z6)) ∧ Hid (Below w.heap.size w wr)) (fun i _ => n - (intOf i).toNat)
    case atStart => exact ⟨0, by omega, rfl, H1, H2, HB⟩
    case round =>
      clear H1 H2 HB
      obtain ⟨k, hk, rfl, H1, H2, HB⟩ := hrel
      by_cases hlt : k < n
      · obtain ⟨e0, e1, e2, e3, e4, e5⟩ := H1.out k (by rw [HN.out]; exact hlt)
        obtain ⟨d0, d1, d2, d3, d4, d5⟩ := H2.out k (by rw [HN.out]; exact hlt)
        generalize l.getD k z6 = r at *
        obtain ⟨x0, x1, x2, x3, x4, x5⟩ := r
        go_wp2_with fail
        go_quiet (fail)
        go_wp2
        go_roundw
        case rel => exact ⟨k + 1, by omega, by go_num, H1, H2, Lib.hid (bel_drewN HB.out _)⟩
        case measure => simp only [intOf]; omega
      · obtain rfl : k = n := by omega
        go_wp2
        go_ret
        exact ⟨rfl, HB.out⟩
end Go.Proofs.Ytjpdahalplkfbaa
