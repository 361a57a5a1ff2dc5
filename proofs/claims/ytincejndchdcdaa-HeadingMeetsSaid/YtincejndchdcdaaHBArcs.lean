/- wayfinderbase.Arcs. -/
import Derived.Test.YtincejndchdcdaaHMeet2
namespace Go.Proofs.Ytincejndchdcdaa
open Go Go.RowKit Hd

set_option maxRecDepth 100000 in
set_option maxHeartbeats 1000000 in
theorem Arcs_same {v1 v2 : Value} {l : List (Int × Int)} {w : World} (h1 : AR w v1 l) (h2 : AR w v2 l) (hm : l.length ≤ 100000) :
    Calls Try.prog 44 #[v1, v2] w fun e w' => e = .returned (.bool true) ∧ Below w.heap.size w w' := by
  obtain ⟨A1, c1, rfl, hh1⟩ := h1
  obtain ⟨A2, c2, rfl, hh2⟩ := h2
  by_cases hl0 : l = []
  · subst hl0
    clear hh1 hh2 hm
    simp only [List.length_nil]
    go_enter Try.func44, Try.ntmps44
    go_wp2_with fail
    refine wp_loop_rounds 1 ?_
    rw [rounds_succ]
    go_wp2
    go_ret
    exact ⟨rfl, Below.refl _ _⟩
  · obtain ⟨g, rfl, -, hc1⟩ := hh1 hl0
    obtain ⟨p, rfl, -, hc2⟩ := hh2 hl0
    have H1 := Lib.hid hc1
    have H2 := Lib.hid hc2
    have HB := Lib.hid (Below.refl w.heap.size w)
    clear hc1 hc2 hh1 hh2 hl0
    obtain ⟨n, hn⟩ : ∃ n, l.length = n := ⟨_, rfl⟩
    have HN := Lib.hid hn
    rw [hn] at hm ⊢
    clear hn
    go_enter Try.func44, Try.ntmps44
    go_wp2_with fail
    go_loopw [5] (fun i wr => ∃ k : Nat, k ≤ n ∧ i = .int .i64 k ∧ Hid (∀ i, i < l.length → wr.cell? ⟨g, i * 2, none⟩ = some (.int .i64 (l.getD i (0, 0)).1) ∧ wr.cell? ⟨g, i * 2 + 1, none⟩ = some (.int .i64 (l.getD i (0, 0)).2)) ∧ Hid (∀ i, i < l.length → wr.cell? ⟨p, i * 2, none⟩ = some (.int .i64 (l.getD i (0, 0)).1) ∧ wr.cell? ⟨p, i * 2 + 1, none⟩ = some (.int .i64 (l.getD i (0, 0)).2)) ∧ Hid (Below w.heap.size w wr)) (fun i _ => n - (intOf i).toNat)
    case atStart => exact ⟨0, by omega, rfl, H1, H2, HB⟩
    case round =>
      clear H1 H2 HB
      obtain ⟨k, hk, rfl, H1, H2, HB⟩ := hrel
      by_cases hlt : k < n
      · obtain ⟨e1, e2⟩ := H1.out k (by rw [HN.out]; exact hlt)
        obtain ⟨e3, e4⟩ := H2.out k (by rw [HN.out]; exact hlt)
        generalize (l.getD k (0, 0)).1 = x at *
        generalize (l.getD k (0, 0)).2 = y at *
        go_wp2_with fail
        go_quiet (fail)
        go_wp2
        go_roundw
        case rel => exact ⟨k + 1, by omega, by go_num, H1, H2, Lib.hid (bel_drewN HB.out _)⟩
        case measure => simp only [intOf]; omega
      · obtain rfl : k = n := by omega
        go_wp2
        go_ret
        exact ⟨rfl, HB.out⟩
end Go.Proofs.Ytincejndchdcdaa
