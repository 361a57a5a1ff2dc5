/- Points, Corners; Split and Rectangle case by case. -/
import Derived.Test.YtjpdahalplkfbaaB4q
import Derived.Test.YtjpdahalplkfbaaB5
import Derived.Test.YtjpdahalplkfbaaHMeet2
set_option linter.unusedVariables false
set_option linter.unusedSimpArgs false
namespace Go.Proofs.Ytjpdahalplkfbaa
open Go Go.RowKit Hd

set_option maxRecDepth 100000 in
set_option maxHeartbeats 2000000 in
theorem Points_same {v1 v2 : Value} {l : List (Int × Int)} {w : World} (h1 : AR w v1 l) (h2 : AR w v2 l) (hm : l.length ≤ 100000) :
    Calls Try.prog 30 #[v1, v2] w fun e w' => e = .returned (.bool true) ∧ Below w.heap.size w w' := by
  obtain ⟨A1, c1, rfl, hh1⟩ := h1
  obtain ⟨A2, c2, rfl, hh2⟩ := h2
  by_cases hl0 : l = []
  · subst hl0
    clear hh1 hh2 hm
    simp only [List.length_nil]
    go_enter Try.func30, Try.ntmps30
    go_wp2_with fail
    refine wp_loop_rounds 1 ?_
    rw [rounds_succ]
    go_wp2
    go_ret
    exact ⟨rfl, Below.refl _ _⟩
  · obtain ⟨g, rfl, -, hc1⟩ := hh1 hl0
    obtain ⟨p, rfl, -, hc2⟩ := hh2 hl0
    have H1 := Lib.hid hc1
    have H2 := Lib.hid hc2
    have HB := Lib.hid (Below.refl w.heap.size w)
    clear hc1 hc2 hh1 hh2 hl0
    obtain ⟨n, hn⟩ : ∃ n, l.length = n := ⟨_, rfl⟩
    have HN := Lib.hid hn
    rw [hn] at hm ⊢
    clear hn
    go_enter Try.func30, Try.ntmps30
    go_wp2_with fail
    go_loopw [5] (fun i wr => ∃ k : Nat, k ≤ n ∧ i = .int .i64 k ∧ Hid (∀ i, i < l.length → wr.cell? ⟨g, i * 2, none⟩ = some (.int .i64 (l.getD i (0, 0)).1) ∧ wr.cell? ⟨g, i * 2 + 1, none⟩ = some (.int .i64 (l.getD i (0, 0)).2)) ∧ Hid (∀ i, i < l.length → wr.cell? ⟨p, i * 2, none⟩ = some (.int .i64 (l.getD i (0, 0)).1) ∧ wr.cell? ⟨p, i * 2 + 1, none⟩ = some (.int .i64 (l.getD i (0, 0)).2)) ∧ Hid (Below w.heap.size w wr)) (fun i _ => n - (intOf i).toNat)
    case atStart => exact ⟨0, by omega, rfl, H1, H2, HB⟩
    case round =>
      clear H1 H2 HB
      obtain ⟨k, hk, rfl, H1, H2, HB⟩ := hrel
      by_cases hlt : k < n
      · obtain ⟨e0, e1⟩ := H1.out k (by rw [HN.out]; exact hlt)
        obtain ⟨d0, d1⟩ := H2.out k (by rw [HN.out]; exact hlt)
        generalize (l.getD k (0, 0)).1 = x0 at *
        generalize (l.getD k (0, 0)).2 = x1 at *
        go_wp2_with fail
        go_quiet (fail)
        go_wp2
        go_roundw
        case rel => exact ⟨k + 1, by omega, by go_num, H1, H2, Lib.hid (bel_drewN HB.out _)⟩
        case measure => simp only [intOf]; omega
      · obtain rfl : k = n := by omega
        go_wp2
        go_ret
        exact ⟨rfl, HB.out⟩

theorem ar_four (w : World) (t : TypeId) (a0 a1 a2 a3 a4 a5 a6 a7 : Int) : AR (w.alloc (.cells #[.int .i64 a0, .int .i64 a1, .int .i64 a2, .int .i64 a3, .int .i64 a4, .int .i64 a5, .int .i64 a6, .int .i64 a7] t)) (.slice (some ⟨w.heap.size, 0, none⟩) 4 4) [(a0, a1), (a2, a3), (a4, a5), (a6, a7)] := by
  refine ⟨_, 4, rfl, fun _ => ⟨w.heap.size, rfl, by simp, fun i hi => ?_⟩⟩
  have c := fun o => cell_of_row (w.alloc (.cells #[.int .i64 a0, .int .i64 a1, .int .i64 a2, .int .i64 a3, .int .i64 a4, .int .i64 a5, .int .i64 a6, .int .i64 a7] t)) w.heap.size o _ _ (0, 0) (heap_alloc_new w _)
  have hi : i < 4 := hi
  match i, hi with
  | 0, _ => exact ⟨(c 0).trans rfl, (c 1).trans rfl⟩
  | 1, _ => exact ⟨(c 2).trans rfl, (c 3).trans rfl⟩
  | 2, _ => exact ⟨(c 4).trans rfl, (c 5).trans rfl⟩
  | 3, _ => exact ⟨(c 6).trans rfl, (c 7).trans rfl⟩

set_option maxRecDepth 100000 in
set_option maxHeartbeats 1000000 in
theorem Corners_yes {x0 y0 x1 y1 f c : Int} (h : OkB x0 y0 x1 y1 f c) (w : World) :
    Calls Try.prog 31 #[.agg #[.int .i64 x0, .int .i64 y0, .int .i64 x1, .int .i64 y1, .int .i64 f, .int .i64 c]] w fun e w' => ∃ v, e = .returned v ∧ AR w' v [(x0, y0), (x1, y0), (x0, y1), (x1, y1)] ∧ Below w.heap.size w w' := by
  have H0 := Lib.hid (fun w => Valid_yes h w)
  obtain ⟨HB, B_z0⟩ := box1 w 23 #[.int .i64 x0, .int .i64 y0, .int .i64 x1, .int .i64 y1, .int .i64 f, .int .i64 c]
  go_enter Try.func31, Try.ntmps31
  go_upto_region 1 with (fail)
  generalize w.alloc (.cells #[.int .i64 x0, .int .i64 y0, .int .i64 x1, .int .i64 y1, .int .i64 f, .int .i64 c] 23) = W0 at *
  obtain ⟨c0z0, c1z0, c2z0, c3z0, c4z0, c5z0⟩ := cells6 B_z0
  go_wp2_with fail
  refine (H0.out _).mono ?_
  clear c0z0 c1z0 c2z0 c3z0 c4z0 c5z0
  rintro e w1 ⟨rfl, bb⟩
  replace bb := nextw (w0 := W0) (by exact sm) bb
  replace B_z0 := mv B_z0 bb
  replace HB := nx HB bb
  clear bb
  obtain ⟨c0z0, c1z0, c2z0, c3z0, c4z0, c5z0⟩ := cells6 B_z0
  go_wp2
  go_ret
  exact ⟨_, rfl, ar_four _ _ _ _ _ _ _ _ _ _, nextw HB.out (alB _ _)⟩

set_option maxRecDepth 100000 in
set_option maxHeartbeats 1000000 in
theorem Corners_no {x0 y0 x1 y1 f c : Int} (h : ¬ OkB x0 y0 x1 y1 f c) (w : World) :
    Calls Try.prog 31 #[.agg #[.int .i64 x0, .int .i64 y0, .int .i64 x1, .int .i64 y1, .int .i64 f, .int .i64 c]] w fun e w' => e = .returned (.slice none 0 0) ∧ Below w.heap.size w w' := by
  have H0 := Lib.hid (fun w => Valid_no h w)
  obtain ⟨HB, B_z0⟩ := box1 w 23 #[.int .i64 x0, .int .i64 y0, .int .i64 x1, .int .i64 y1, .int .i64 f, .int .i64 c]
  go_enter Try.func31, Try.ntmps31
  go_upto_region 1 with (fail)
  generalize w.alloc (.cells #[.int .i64 x0, .int .i64 y0, .int .i64 x1, .int .i64 y1, .int .i64 f, .int .i64 c] 23) = W0 at *
  obtain ⟨c0z0, c1z0, c2z0, c3z0, c4z0, c5z0⟩ := cells6 B_z0
  go_wp2_with fail
  refine (H0.out _).mono ?_
  clear c0z0 c1z0 c2z0 c3z0 c4z0 c5z0
  rintro e w1 ⟨rfl, bb⟩
  replace bb := nextw (w0 := W0) (by exact sm) bb
  replace B_z0 := mv B_z0 bb
  replace HB := nx HB bb
  clear bb
  go_wp2
  go_ret
  exact ⟨rfl, nextw HB.out (by exact sm)⟩

set_option maxRecDepth 100000 in
set_option maxHeartbeats 1000000 in
theorem RCorners_yes {x0 y0 x1 y1 f c : Int} (h : OkB x0 y0 x1 y1 f c) (w : World) :
    Calls Try.prog 32 #[.agg #[.int .i64 x0, .int .i64 y0, .int .i64 x1, .int .i64 y1, .int .i64 f, .int .i64 c]] w fun e w' => ∃ v, e = .returned v ∧ AR w' v [(x0, y0), (x1, y0), (x0, y1), (x1, y1)] ∧ Below w.heap.size w w' := by
  have H0 := Lib.hid (fun w => BBox_yes h w)
  obtain ⟨HB, B_z0⟩ := box1 w 23 #[.int .i64 x0, .int .i64 y0, .int .i64 x1, .int .i64 y1, .int .i64 f, .int .i64 c]
  go_enter Try.func32, Try.ntmps32
  go_upto_region 1 with (fail)
  generalize w.alloc (.cells #[.int .i64 x0, .int .i64 y0, .int .i64 x1, .int .i64 y1, .int .i64 f, .int .i64 c] 23) = W0 at *
  obtain ⟨c0z0, c1z0, c2z0, c3z0, c4z0, c5z0⟩ := cells6 B_z0
  go_wp2_with fail
  refine (H0.out _).mono ?_
  clear c0z0 c1z0 c2z0 c3z0 c4z0 c5z0
  rintro e w1 ⟨rfl, bb⟩
  replace bb := nextw (w0 := W0) (by exact sm) bb
  replace B_z0 := mv B_z0 bb
  replace HB := nx HB bb
  clear bb
  obtain ⟨c0z0, c1z0, c2z0, c3z0, c4z0, c5z0⟩ := cells6 B_z0
  go_wp2
  go_ret
  exact ⟨_, rfl, ar_four _ _ _ _ _ _ _ _ _ _, nextw HB.out (alB _ _)⟩

set_option maxRecDepth 100000 in
set_option maxHeartbeats 1000000 in
theorem RCorners_no {x0 y0 x1 y1 f c : Int} (h : ¬ OkB x0 y0 x1 y1 f c) (w : World) :
    Calls Try.prog 32 #[.agg #[.int .i64 x0, .int .i64 y0, .int .i64 x1, .int .i64 y1, .int .i64 f, .int .i64 c]] w fun e w' => e = .returned (.slice none 0 0) ∧ Below w.heap.size w w' := by
  have H0 := Lib.hid (fun w => BBox_no h w)
  obtain ⟨HB, B_z0⟩ := box1 w 23 #[.int .i64 x0, .int .i64 y0, .int .i64 x1, .int .i64 y1, .int .i64 f, .int .i64 c]
  go_enter Try.func32, Try.ntmps32
  go_upto_region 1 with (fail)
  generalize w.alloc (.cells #[.int .i64 x0, .int .i64 y0, .int .i64 x1, .int .i64 y1, .int .i64 f, .int .i64 c] 23) = W0 at *
  obtain ⟨c0z0, c1z0, c2z0, c3z0, c4z0, c5z0⟩ := cells6 B_z0
  go_wp2_with fail
  refine (H0.out _).mono ?_
  clear c0z0 c1z0 c2z0 c3z0 c4z0 c5z0
  rintro e w1 ⟨rfl, bb⟩
  replace bb := nextw (w0 := W0) (by exact sm) bb
  replace B_z0 := mv B_z0 bb
  replace HB := nx HB bb
  clear bb
  go_wp2
  go_ret
  exact ⟨rfl, nextw HB.out (by exact sm)⟩

theorem Split_bad {x0 y0 x1 y1 f c : Int} (h : ¬ OkB x0 y0 x1 y1 f c) (w : World) : Calls Try.prog 26 #[.agg #[.int .i64 x0, .int .i64 y0, .int .i64 x1, .int .i64 y1, .int .i64 f, .int .i64 c]] w fun e w' => e = .returned (.tuple #[.agg #[.int .i64 0, .int .i64 0, .int .i64 0, .int .i64 0, .int .i64 0, .int .i64 0], .agg #[.int .i64 0, .int .i64 0, .int .i64 0, .int .i64 0, .int .i64 0, .int .i64 0], .bool false]) ∧ Below w.heap.size w w' := by
  have e := Split_is x0 y0 x1 y1 f c w; unfold splitV at e; rwa [if_neg h] at e

theorem Split_one {x0 y0 x1 y1 f c : Int} (h : OkB x0 y0 x1 y1 f c) (h1 : oneP x0 y0 x1 y1 c) (w : World) : Calls Try.prog 26 #[.agg #[.int .i64 x0, .int .i64 y0, .int .i64 x1, .int .i64 y1, .int .i64 f, .int .i64 c]] w fun e w' => e = .returned (.tuple #[.agg #[.int .i64 0, .int .i64 0, .int .i64 0, .int .i64 0, .int .i64 0, .int .i64 0], .agg #[.int .i64 0, .int .i64 0, .int .i64 0, .int .i64 0, .int .i64 0, .int .i64 0], .bool false]) ∧ Below w.heap.size w w' := by
  have e := Split_is x0 y0 x1 y1 f c w; unfold splitV at e; rwa [if_pos h, if_pos h1] at e

theorem Split_x {x0 y0 x1 y1 f c : Int} (h : OkB x0 y0 x1 y1 f c) (h1 : ¬ oneP x0 y0 x1 y1 c) (h2 : spX x0 y0 x1 y1 c) (w : World) : Calls Try.prog 26 #[.agg #[.int .i64 x0, .int .i64 y0, .int .i64 x1, .int .i64 y1, .int .i64 f, .int .i64 c]] w fun e w' => e = .returned (.tuple #[.agg #[.int .i64 x0, .int .i64 y0, .int .i64 (x0 + (x1 - x0 + 1) / 2 - 1), .int .i64 y1, .int .i64 f, .int .i64 c], .agg #[.int .i64 (x0 + (x1 - x0 + 1) / 2), .int .i64 y0, .int .i64 x1, .int .i64 y1, .int .i64 f, .int .i64 c], .bool true]) ∧ Below w.heap.size w w' := by
  have e := Split_is x0 y0 x1 y1 f c w; unfold splitV at e; rwa [if_pos h, if_neg h1, if_pos h2] at e

theorem Split_y {x0 y0 x1 y1 f c : Int} (h : OkB x0 y0 x1 y1 f c) (h1 : ¬ oneP x0 y0 x1 y1 c) (h2 : ¬ spX x0 y0 x1 y1 c) (h3 : spY y0 y1 c) (w : World) : Calls Try.prog 26 #[.agg #[.int .i64 x0, .int .i64 y0, .int .i64 x1, .int .i64 y1, .int .i64 f, .int .i64 c]] w fun e w' => e = .returned (.tuple #[.agg #[.int .i64 x0, .int .i64 y0, .int .i64 x1, .int .i64 (y0 + (y1 - y0 + 1) / 2 - 1), .int .i64 f, .int .i64 c], .agg #[.int .i64 x0, .int .i64 (y0 + (y1 - y0 + 1) / 2), .int .i64 x1, .int .i64 y1, .int .i64 f, .int .i64 c], .bool true]) ∧ Below w.heap.size w w' := by
  have e := Split_is x0 y0 x1 y1 f c w; unfold splitV at e; rwa [if_pos h, if_neg h1, if_neg h2, if_pos h3] at e

theorem Split_h {x0 y0 x1 y1 f c : Int} (h : OkB x0 y0 x1 y1 f c) (h1 : ¬ oneP x0 y0 x1 y1 c) (h2 : ¬ spX x0 y0 x1 y1 c) (h3 : ¬ spY y0 y1 c) (w : World) : Calls Try.prog 26 #[.agg #[.int .i64 x0, .int .i64 y0, .int .i64 x1, .int .i64 y1, .int .i64 f, .int .i64 c]] w fun e w' => e = .returned (.tuple #[.agg #[.int .i64 x0, .int .i64 y0, .int .i64 x1, .int .i64 y1, .int .i64 f, .int .i64 (c / 2)], .agg #[.int .i64 x0, .int .i64 y0, .int .i64 x1, .int .i64 y1, .int .i64 ((f + c / 2) % 256), .int .i64 (c - c / 2)], .bool true]) ∧ Below w.heap.size w w' := by
  have e := Split_is x0 y0 x1 y1 f c w; unfold splitV at e; rwa [if_pos h, if_neg h1, if_neg h2, if_neg h3] at e

theorem RSplit_bad {x0 y0 x1 y1 f c : Int} (h : ¬ OkB x0 y0 x1 y1 f c) (w : World) : Calls Try.prog 27 #[.agg #[.int .i64 x0, .int .i64 y0, .int .i64 x1, .int .i64 y1, .int .i64 f, .int .i64 c]] w fun e w' => e = .returned (.tuple #[.agg #[.int .i64 0, .int .i64 0, .int .i64 0, .int .i64 0, .int .i64 0, .int .i64 0], .agg #[.int .i64 0, .int .i64 0, .int .i64 0, .int .i64 0, .int .i64 0, .int .i64 0], .bool false]) ∧ Below w.heap.size w w' := by
  have e := RSplit_is x0 y0 x1 y1 f c w; unfold splitV at e; rwa [if_neg h] at e

theorem RSplit_one {x0 y0 x1 y1 f c : Int} (h : OkB x0 y0 x1 y1 f c) (h1 : oneP x0 y0 x1 y1 c) (w : World) : Calls Try.prog 27 #[.agg #[.int .i64 x0, .int .i64 y0, .int .i64 x1, .int .i64 y1, .int .i64 f, .int .i64 c]] w fun e w' => e = .returned (.tuple #[.agg #[.int .i64 0, .int .i64 0, .int .i64 0, .int .i64 0, .int .i64 0, .int .i64 0], .agg #[.int .i64 0, .int .i64 0, .int .i64 0, .int .i64 0, .int .i64 0, .int .i64 0], .bool false]) ∧ Below w.heap.size w w' := by
  have e := RSplit_is x0 y0 x1 y1 f c w; unfold splitV at e; rwa [if_pos h, if_pos h1] at e

theorem RSplit_x {x0 y0 x1 y1 f c : Int} (h : OkB x0 y0 x1 y1 f c) (h1 : ¬ oneP x0 y0 x1 y1 c) (h2 : spX x0 y0 x1 y1 c) (w : World) : Calls Try.prog 27 #[.agg #[.int .i64 x0, .int .i64 y0, .int .i64 x1, .int .i64 y1, .int .i64 f, .int .i64 c]] w fun e w' => e = .returned (.tuple #[.agg #[.int .i64 x0, .int .i64 y0, .int .i64 (x0 + (x1 - x0 + 1) / 2 - 1), .int .i64 y1, .int .i64 f, .int .i64 c], .agg #[.int .i64 (x0 + (x1 - x0 + 1) / 2), .int .i64 y0, .int .i64 x1, .int .i64 y1, .int .i64 f, .int .i64 c], .bool true]) ∧ Below w.heap.size w w' := by
  have e := RSplit_is x0 y0 x1 y1 f c w; unfold splitV at e; rwa [if_pos h, if_neg h1, if_pos h2] at e

theorem RSplit_y {x0 y0 x1 y1 f c : Int} (h : OkB x0 y0 x1 y1 f c) (h1 : ¬ oneP x0 y0 x1 y1 c) (h2 : ¬ spX x0 y0 x1 y1 c) (h3 : spY y0 y1 c) (w : World) : Calls Try.prog 27 #[.agg #[.int .i64 x0, .int .i64 y0, .int .i64 x1, .int .i64 y1, .int .i64 f, .int .i64 c]] w fun e w' => e = .returned (.tuple #[.agg #[.int .i64 x0, .int .i64 y0, .int .i64 x1, .int .i64 (y0 + (y1 - y0 + 1) / 2 - 1), .int .i64 f, .int .i64 c], .agg #[.int .i64 x0, .int .i64 (y0 + (y1 - y0 + 1) / 2), .int .i64 x1, .int .i64 y1, .int .i64 f, .int .i64 c], .bool true]) ∧ Below w.heap.size w w' := by
  have e := RSplit_is x0 y0 x1 y1 f c w; unfold splitV at e; rwa [if_pos h, if_neg h1, if_neg h2, if_pos h3] at e

theorem RSplit_h {x0 y0 x1 y1 f c : Int} (h : OkB x0 y0 x1 y1 f c) (h1 : ¬ oneP x0 y0 x1 y1 c) (h2 : ¬ spX x0 y0 x1 y1 c) (h3 : ¬ spY y0 y1 c) (w : World) : Calls Try.prog 27 #[.agg #[.int .i64 x0, .int .i64 y0, .int .i64 x1, .int .i64 y1, .int .i64 f, .int .i64 c]] w fun e w' => e = .returned (.tuple #[.agg #[.int .i64 x0, .int .i64 y0, .int .i64 x1, .int .i64 y1, .int .i64 f, .int .i64 (c / 2)], .agg #[.int .i64 x0, .int .i64 y0, .int .i64 x1, .int .i64 y1, .int .i64 ((f + c / 2) % 256), .int .i64 (c - c / 2)], .bool true]) ∧ Below w.heap.size w w' := by
  have e := RSplit_is x0 y0 x1 y1 f c w; unfold splitV at e; rwa [if_pos h, if_neg h1, if_neg h2, if_neg h3] at e

theorem Rect_no {x0 y0 x1 y1 f c : Int} (h : ¬ OkB x0 y0 x1 y1 f c) (w : World) : Calls Try.prog 28 #[.agg #[.int .i64 x0, .int .i64 y0, .int .i64 x1, .int .i64 y1, .int .i64 f, .int .i64 c]] w fun e w' => e = .returned (.agg #[.int .i64 0, .int .i64 0, .int .i64 0, .int .i64 0]) ∧ Below w.heap.size w w' := by
  have e := Rect_any x0 y0 x1 y1 f c w; unfold RectV at e; rwa [if_neg h] at e

theorem Rect_yes {x0 y0 x1 y1 f c : Int} (h : OkB x0 y0 x1 y1 f c) (w : World) : Calls Try.prog 28 #[.agg #[.int .i64 x0, .int .i64 y0, .int .i64 x1, .int .i64 y1, .int .i64 f, .int .i64 c]] w fun e w' => e = .returned (.agg #[.int .i64 x0, .int .i64 y0, .int .i64 x1, .int .i64 y1]) ∧ Below w.heap.size w w' := by
  have e := Rect_any x0 y0 x1 y1 f c w; unfold RectV at e; rwa [if_pos h] at e

theorem RRect_no {x0 y0 x1 y1 f c : Int} (h : ¬ OkB x0 y0 x1 y1 f c) (w : World) : Calls Try.prog 29 #[.agg #[.int .i64 x0, .int .i64 y0, .int .i64 x1, .int .i64 y1, .int .i64 f, .int .i64 c]] w fun e w' => e = .returned (.agg #[.int .i64 0, .int .i64 0, .int .i64 0, .int .i64 0]) ∧ Below w.heap.size w w' := by
  have e := RRect_any x0 y0 x1 y1 f c w; unfold RRectV at e; rwa [if_neg h] at e

theorem RRect_yes {x0 y0 x1 y1 f c : Int} (h : OkB x0 y0 x1 y1 f c) (w : World) : Calls Try.prog 29 #[.agg #[.int .i64 x0, .int .i64 y0, .int .i64 x1, .int .i64 y1, .int .i64 f, .int .i64 c]] w fun e w' => e = .returned (.agg #[.int .i64 x0, .int .i64 y0, .int .i64 x1, .int .i64 y1]) ∧ Below w.heap.size w w' := by
  have e := RRect_any x0 y0 x1 y1 f c w; unfold RRectV at e; rwa [if_pos h] at e
end Go.Proofs.Ytjpdahalplkfbaa
