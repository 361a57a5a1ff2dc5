/- plan.Swept. -/
import Derived.Test.YtkhcogfajihecaaY11
set_option linter.unusedVariables false
set_option linter.unusedSimpArgs false
namespace Go.Proofs.Ytkhcogfajihecaa
open Go Go.RowKit Hd

/-- The error of a sweep. -/
def swE (x0 y0 x1 y1 x y d lo hi : Int) : Int := if OkQ x0 y0 x1 y1 ∧ OkV x y d then if 0 ≤ lo ∧ lo ≤ hi ∧ hi ≤ 2048 then if x1 - x0 ≤ 1024 ∧ y1 - y0 ≤ 1024 then 0 else 6 else 2 else 1
/-- Its cells. -/
def swV (x0 y0 x1 y1 x y d lo hi : Int) : List P2 := if swE x0 y0 x1 y1 x y d lo hi = 0 then swX x0 y0 x1 y1 x y d lo hi else []
theorem swE_ok {x0 y0 x1 y1 x y d lo hi : Int} (h1 : OkQ x0 y0 x1 y1) (h2 : OkV x y d) (h3 : 0 ≤ lo) (h4 : lo ≤ hi) (h5 : hi ≤ 2048) (h6 : x1 - x0 ≤ 1024) (h7 : y1 - y0 ≤ 1024) : swE x0 y0 x1 y1 x y d lo hi = 0 := by
  unfold swE; rw [if_pos ⟨h1, h2⟩, if_pos ⟨h3, h4, h5⟩, if_pos ⟨h6, h7⟩]
theorem swE_1 {x0 y0 x1 y1 x y d lo hi : Int} (h : ¬ (OkQ x0 y0 x1 y1 ∧ OkV x y d)) : swE x0 y0 x1 y1 x y d lo hi = 1 := by
  unfold swE; rw [if_neg h]
theorem swE_2 {x0 y0 x1 y1 x y d lo hi : Int} (h1 : OkQ x0 y0 x1 y1) (h2 : OkV x y d) (h : ¬ (0 ≤ lo ∧ lo ≤ hi ∧ hi ≤ 2048)) : swE x0 y0 x1 y1 x y d lo hi = 2 := by
  unfold swE; rw [if_pos ⟨h1, h2⟩, if_neg h]
theorem swE_6 {x0 y0 x1 y1 x y d lo hi : Int} (h1 : OkQ x0 y0 x1 y1) (h2 : OkV x y d) (h3 : 0 ≤ lo) (h4 : lo ≤ hi) (h5 : hi ≤ 2048) (h : ¬ (x1 - x0 ≤ 1024 ∧ y1 - y0 ≤ 1024)) : swE x0 y0 x1 y1 x y d lo hi = 6 := by
  unfold swE; rw [if_pos ⟨h1, h2⟩, if_pos ⟨h3, h4, h5⟩, if_neg h]
theorem swV_nil {x0 y0 x1 y1 x y d lo hi : Int} {e : Int} (h : swE x0 y0 x1 y1 x y d lo hi = e) (he : e ≠ 0) : swV x0 y0 x1 y1 x y d lo hi = [] := by
  unfold swV; rw [if_neg (by omega)]
theorem swV_ok {x0 y0 x1 y1 x y d lo hi : Int} (h : swE x0 y0 x1 y1 x y d lo hi = 0) : swV x0 y0 x1 y1 x y d lo hi = swX x0 y0 x1 y1 x y d lo hi := by
  unfold swV; rw [if_pos h]

set_option maxRecDepth 100000 in
set_option maxHeartbeats 4000000 in
theorem Swept_is (x0 y0 x1 y1 x y d lo hi : Int)   (w : World) :
    Calls Try.prog 43 #[.agg #[.int .i64 x0, .int .i64 y0, .int .i64 x1, .int .i64 y1], .agg #[.int .i64 x, .int .i64 y, .int .i64 d], .int .i64 lo, .int .i64 hi] w fun e w' => ∃ A c, e = .returned (.tuple #[.slice A (swV x0 y0 x1 y1 x y d lo hi).length c, .int .i64 (swE x0 y0 x1 y1 x y d lo hi)]) ∧ PL w' w.heap.size w'.heap.size A (swV x0 y0 x1 y1 x y d lo hi).length c (swV x0 y0 x1 y1 x y d lo hi) ∧ Below w.heap.size w w' := by
  by_cases dd0 : OkQ x0 y0 x1 y1
  · skip
    obtain ⟨⟨dd0a, dd0b⟩, ⟨dd0c, dd0d⟩, ⟨dd0e, dd0f⟩, ⟨dd0g, dd0h⟩, dd0i, dd0j⟩ := (id dd0 : OkQ x0 y0 x1 y1)
    by_cases dd1 : OkV x y d
    · skip
      have dd1l := dd1.lo
      have dd1h := dd1.hi
      obtain ⟨dd1x1, dd1x2⟩ := dd1.bx
      obtain ⟨dd1y1, dd1y2⟩ := dd1.by_
      by_cases dd2 : lo < 0
      · skip
        have H0 := Lib.hid (fun w => validRect_is x0 y0 x1 y1 w)
        have H1 := Lib.hid (fun w => HValid_is x y d w)
        obtain ⟨HB, B_z0, B_z1⟩ := box2 w 45 #[.int .i64 x0, .int .i64 y0, .int .i64 x1, .int .i64 y1] 59 #[.int .i64 x, .int .i64 y, .int .i64 d]
        go_enter Try.func43, Try.ntmps43
        go_upto_region 1 with (fail)
        generalize (w.alloc (.cells #[.int .i64 x0, .int .i64 y0, .int .i64 x1, .int .i64 y1] 45)).alloc (.cells #[.int .i64 x, .int .i64 y, .int .i64 d] 59) = W0 at *
        obtain ⟨c0z0, c1z0, c2z0, c3z0⟩ := cells4 B_z0
        go_wp2_with fail
        refine (H0.out _).mono ?_
        clear c0z0 c1z0 c2z0 c3z0
        rintro e w1 ⟨rfl, bb⟩
        replace bb := nextw (w0 := W0) (by exact sm) bb
        replace B_z0 := mv B_z0 bb
        replace B_z1 := mv B_z1 bb
        replace HB := nx HB bb
        clear bb
        obtain ⟨c0z1, c1z1, c2z1⟩ := cells3 B_z1
        go_wp2_with fail
        refine (H1.out _).mono ?_
        clear c0z1 c1z1 c2z1
        rintro e w2 ⟨rfl, bb⟩
        replace bb := nextw (w0 := w1) (by exact sm) bb
        replace B_z0 := mv B_z0 bb
        replace B_z1 := mv B_z1 bb
        replace HB := nx HB bb
        clear bb
        have HEr : Hid (swE x0 y0 x1 y1 x y d lo hi = 2) := swE_2 dd0 dd1 (by omega)
        have HV : Hid (swV x0 y0 x1 y1 x y d lo hi = []) := swV_nil HEr.out (by decide)
        go_wp2_with fail
        exact bodyPost_ret (v := .tuple #[.slice none 0 0, .int .i64 2]) (by simp [results, Try.results43, go_sem]) rfl ⟨none, 0, (by rw [HV.out, HEr.out]; rfl), (by rw [HV.out]; exact pl_nil _ _), nextw HB.out (by exact sm)⟩
      · skip
        replace dd2 : 0 ≤ lo := by omega
        by_cases dd3 : hi < lo
        · skip
          have H2 := Lib.hid (fun w => validRect_is x0 y0 x1 y1 w)
          have H3 := Lib.hid (fun w => HValid_is x y d w)
          obtain ⟨HB, B_z0, B_z1⟩ := box2 w 45 #[.int .i64 x0, .int .i64 y0, .int .i64 x1, .int .i64 y1] 59 #[.int .i64 x, .int .i64 y, .int .i64 d]
          go_enter Try.func43, Try.ntmps43
          go_upto_region 1 with (fail)
          generalize (w.alloc (.cells #[.int .i64 x0, .int .i64 y0, .int .i64 x1, .int .i64 y1] 45)).alloc (.cells #[.int .i64 x, .int .i64 y, .int .i64 d] 59) = W0 at *
          obtain ⟨c0z0, c1z0, c2z0, c3z0⟩ := cells4 B_z0
          go_wp2_with fail
          refine (H2.out _).mono ?_
          clear c0z0 c1z0 c2z0 c3z0
          rintro e w3 ⟨rfl, bb⟩
          replace bb := nextw (w0 := W0) (by exact sm) bb
          replace B_z0 := mv B_z0 bb
          replace B_z1 := mv B_z1 bb
          replace HB := nx HB bb
          clear bb
          obtain ⟨c0z1, c1z1, c2z1⟩ := cells3 B_z1
          go_wp2_with fail
          refine (H3.out _).mono ?_
          clear c0z1 c1z1 c2z1
          rintro e w4 ⟨rfl, bb⟩
          replace bb := nextw (w0 := w3) (by exact sm) bb
          replace B_z0 := mv B_z0 bb
          replace B_z1 := mv B_z1 bb
          replace HB := nx HB bb
          clear bb
          have HEr : Hid (swE x0 y0 x1 y1 x y d lo hi = 2) := swE_2 dd0 dd1 (by omega)
          have HV : Hid (swV x0 y0 x1 y1 x y d lo hi = []) := swV_nil HEr.out (by decide)
          go_wp2_with fail
          exact bodyPost_ret (v := .tuple #[.slice none 0 0, .int .i64 2]) (by simp [results, Try.results43, go_sem]) rfl ⟨none, 0, (by rw [HV.out, HEr.out]; rfl), (by rw [HV.out]; exact pl_nil _ _), nextw HB.out (by exact sm)⟩
        · skip
          replace dd3 : lo ≤ hi := by omega
          by_cases dd4 : 2048 < hi
          · skip
            have H4 := Lib.hid (fun w => validRect_is x0 y0 x1 y1 w)
            have H5 := Lib.hid (fun w => HValid_is x y d w)
            obtain ⟨HB, B_z0, B_z1⟩ := box2 w 45 #[.int .i64 x0, .int .i64 y0, .int .i64 x1, .int .i64 y1] 59 #[.int .i64 x, .int .i64 y, .int .i64 d]
            go_enter Try.func43, Try.ntmps43
            go_upto_region 1 with (fail)
            generalize (w.alloc (.cells #[.int .i64 x0, .int .i64 y0, .int .i64 x1, .int .i64 y1] 45)).alloc (.cells #[.int .i64 x, .int .i64 y, .int .i64 d] 59) = W0 at *
            obtain ⟨c0z0, c1z0, c2z0, c3z0⟩ := cells4 B_z0
            go_wp2_with fail
            refine (H4.out _).mono ?_
            clear c0z0 c1z0 c2z0 c3z0
            rintro e w5 ⟨rfl, bb⟩
            replace bb := nextw (w0 := W0) (by exact sm) bb
            replace B_z0 := mv B_z0 bb
            replace B_z1 := mv B_z1 bb
            replace HB := nx HB bb
            clear bb
            obtain ⟨c0z1, c1z1, c2z1⟩ := cells3 B_z1
            go_wp2_with fail
            refine (H5.out _).mono ?_
            clear c0z1 c1z1 c2z1
            rintro e w6 ⟨rfl, bb⟩
            replace bb := nextw (w0 := w5) (by exact sm) bb
            replace B_z0 := mv B_z0 bb
            replace B_z1 := mv B_z1 bb
            replace HB := nx HB bb
            clear bb
            have HEr : Hid (swE x0 y0 x1 y1 x y d lo hi = 2) := swE_2 dd0 dd1 (by omega)
            have HV : Hid (swV x0 y0 x1 y1 x y d lo hi = []) := swV_nil HEr.out (by decide)
            go_wp2_with fail
            exact bodyPost_ret (v := .tuple #[.slice none 0 0, .int .i64 2]) (by simp [results, Try.results43, go_sem]) rfl ⟨none, 0, (by rw [HV.out, HEr.out]; rfl), (by rw [HV.out]; exact pl_nil _ _), nextw HB.out (by exact sm)⟩
          · skip
            replace dd4 : hi ≤ 2048 := by omega
            by_cases dd5 : 1024 < (x1 - x0)
            · skip
              have H6 := Lib.hid (fun w => validRect_is x0 y0 x1 y1 w)
              have H7 := Lib.hid (fun w => HValid_is x y d w)
              obtain ⟨HB, B_z0, B_z1⟩ := box2 w 45 #[.int .i64 x0, .int .i64 y0, .int .i64 x1, .int .i64 y1] 59 #[.int .i64 x, .int .i64 y, .int .i64 d]
              go_enter Try.func43, Try.ntmps43
              go_upto_region 1 with (fail)
              generalize (w.alloc (.cells #[.int .i64 x0, .int .i64 y0, .int .i64 x1, .int .i64 y1] 45)).alloc (.cells #[.int .i64 x, .int .i64 y, .int .i64 d] 59) = W0 at *
              obtain ⟨c0z0, c1z0, c2z0, c3z0⟩ := cells4 B_z0
              go_wp2_with fail
              refine (H6.out _).mono ?_
              clear c0z0 c1z0 c2z0 c3z0
              rintro e w7 ⟨rfl, bb⟩
              replace bb := nextw (w0 := W0) (by exact sm) bb
              replace B_z0 := mv B_z0 bb
              replace B_z1 := mv B_z1 bb
              replace HB := nx HB bb
              clear bb
              obtain ⟨c0z1, c1z1, c2z1⟩ := cells3 B_z1
              go_wp2_with fail
              refine (H7.out _).mono ?_
              clear c0z1 c1z1 c2z1
              rintro e w8 ⟨rfl, bb⟩
              replace bb := nextw (w0 := w7) (by exact sm) bb
              replace B_z0 := mv B_z0 bb
              replace B_z1 := mv B_z1 bb
              replace HB := nx HB bb
              clear bb
              obtain ⟨c0z0, c1z0, c2z0, c3z0⟩ := cells4 B_z0
              have HEr : Hid (swE x0 y0 x1 y1 x y d lo hi = 6) := swE_6 dd0 dd1 (by omega) (by omega) (by omega) (by omega)
              have HV : Hid (swV x0 y0 x1 y1 x y d lo hi = []) := swV_nil HEr.out (by decide)
              go_wp2_with fail
              exact bodyPost_ret (v := .tuple #[.slice none 0 0, .int .i64 6]) (by simp [results, Try.results43, go_sem]) rfl ⟨none, 0, (by rw [HV.out, HEr.out]; rfl), (by rw [HV.out]; exact pl_nil _ _), nextw HB.out (by exact sm)⟩
            · skip
              replace dd5 : (x1 - x0) ≤ 1024 := by omega
              by_cases dd6 : 1024 < (y1 - y0)
              · skip
                have H8 := Lib.hid (fun w => validRect_is x0 y0 x1 y1 w)
                have H9 := Lib.hid (fun w => HValid_is x y d w)
                obtain ⟨HB, B_z0, B_z1⟩ := box2 w 45 #[.int .i64 x0, .int .i64 y0, .int .i64 x1, .int .i64 y1] 59 #[.int .i64 x, .int .i64 y, .int .i64 d]
                go_enter Try.func43, Try.ntmps43
                go_upto_region 1 with (fail)
                generalize (w.alloc (.cells #[.int .i64 x0, .int .i64 y0, .int .i64 x1, .int .i64 y1] 45)).alloc (.cells #[.int .i64 x, .int .i64 y, .int .i64 d] 59) = W0 at *
                obtain ⟨c0z0, c1z0, c2z0, c3z0⟩ := cells4 B_z0
                go_wp2_with fail
                refine (H8.out _).mono ?_
                clear c0z0 c1z0 c2z0 c3z0
                rintro e w9 ⟨rfl, bb⟩
                replace bb := nextw (w0 := W0) (by exact sm) bb
                replace B_z0 := mv B_z0 bb
                replace B_z1 := mv B_z1 bb
                replace HB := nx HB bb
                clear bb
                obtain ⟨c0z1, c1z1, c2z1⟩ := cells3 B_z1
                go_wp2_with fail
                refine (H9.out _).mono ?_
                clear c0z1 c1z1 c2z1
                rintro e w10 ⟨rfl, bb⟩
                replace bb := nextw (w0 := w9) (by exact sm) bb
                replace B_z0 := mv B_z0 bb
                replace B_z1 := mv B_z1 bb
                replace HB := nx HB bb
                clear bb
                obtain ⟨c0z0, c1z0, c2z0, c3z0⟩ := cells4 B_z0
                have HEr : Hid (swE x0 y0 x1 y1 x y d lo hi = 6) := swE_6 dd0 dd1 (by omega) (by omega) (by omega) (by omega)
                have HV : Hid (swV x0 y0 x1 y1 x y d lo hi = []) := swV_nil HEr.out (by decide)
                go_wp2_with fail
                exact bodyPost_ret (v := .tuple #[.slice none 0 0, .int .i64 6]) (by simp [results, Try.results43, go_sem]) rfl ⟨none, 0, (by rw [HV.out, HEr.out]; rfl), (by rw [HV.out]; exact pl_nil _ _), nextw HB.out (by exact sm)⟩
              · skip
                replace dd6 : (y1 - y0) ≤ 1024 := by omega
                have HO : Hid (SwO x0 y0 x1 y1 x y d lo hi) := Lib.hid ⟨dd1, by omega, by omega, by omega, by omega, by omega, by omega, by omega⟩
                obtain ⟨⟨hr1, hr2⟩, hr3, hr4⟩ := HO.out.rows
                obtain ⟨N, hN⟩ : ∃ N, (covL lo d hi d y1 y + 1 - covF lo d hi d y0 y).toNat = N := ⟨_, rfl⟩
                have HE := Lib.hid hN
                have HN : Hid (N ≤ 100) := by unfold Hid; omega
                clear hN
                have H10 := Lib.hid (fun w => validRect_is x0 y0 x1 y1 w)
                have H11 := Lib.hid (fun w => HValid_is x y d w)
                have H12 := Lib.hid (fun w => covered_is lo d hi d y0 y1 y ⟨by omega, by omega⟩ ⟨by omega, by omega⟩ ⟨by omega, by omega⟩ ⟨by omega, by omega⟩ ⟨by omega, by omega⟩ ⟨by omega, by omega⟩ ⟨by omega, by omega⟩ w)
                obtain ⟨HB, B_z0, B_z1⟩ := box2 w 45 #[.int .i64 x0, .int .i64 y0, .int .i64 x1, .int .i64 y1] 59 #[.int .i64 x, .int .i64 y, .int .i64 d]
                go_enter Try.func43, Try.ntmps43
                go_upto_region 1 with (fail)
                generalize (w.alloc (.cells #[.int .i64 x0, .int .i64 y0, .int .i64 x1, .int .i64 y1] 45)).alloc (.cells #[.int .i64 x, .int .i64 y, .int .i64 d] 59) = W0 at *
                obtain ⟨c0z0, c1z0, c2z0, c3z0⟩ := cells4 B_z0
                go_wp2_with fail
                refine (H10.out _).mono ?_
                clear c0z0 c1z0 c2z0 c3z0
                rintro e w11 ⟨rfl, bb⟩
                replace bb := nextw (w0 := W0) (by exact sm) bb
                replace B_z0 := mv B_z0 bb
                replace B_z1 := mv B_z1 bb
                replace HB := nx HB bb
                clear bb
                obtain ⟨c0z1, c1z1, c2z1⟩ := cells3 B_z1
                go_wp2_with fail
                refine (H11.out _).mono ?_
                clear c0z1 c1z1 c2z1
                rintro e w12 ⟨rfl, bb⟩
                replace bb := nextw (w0 := w11) (by exact sm) bb
                replace B_z0 := mv B_z0 bb
                replace B_z1 := mv B_z1 bb
                replace HB := nx HB bb
                clear bb
                obtain ⟨c0z0, c1z0, c2z0, c3z0⟩ := cells4 B_z0
                obtain ⟨c0z1, c1z1, c2z1⟩ := cells3 B_z1
                have lt_z2z0 := B_z0.out.lt
                have lt_z2z1 := B_z1.out.lt
                obtain ⟨bb, B_z2⟩ := box1 w12 101 #[.int .i64 lo, .int .i64 d, .int .i64 hi, .int .i64 d]
                replace bb := bb.out
                replace B_z0 := mv B_z0 bb
                replace B_z1 := mv B_z1 bb
                replace HB := nx HB bb
                clear bb
                go_upto_region 8 with (fail)
                clear c0z0 c1z0 c2z0 c3z0 c0z1 c1z1 c2z1
                generalize w12.alloc (.cells #[.int .i64 lo, .int .i64 d, .int .i64 hi, .int .i64 d] 101) = WN7x216 at *
                obtain ⟨c0z2, c1z2, c2z2, c3z2⟩ := cells4 B_z2
                obtain ⟨c0z0, c1z0, c2z0, c3z0⟩ := cells4 B_z0
                obtain ⟨c0z1, c1z1, c2z1⟩ := cells3 B_z1
                go_wp2_with fail
                refine (H12.out _).mono ?_
                clear c0z2 c1z2 c2z2 c3z2 c0z0 c1z0 c2z0 c3z0 c0z1 c1z1 c2z1
                rintro e w13 ⟨rfl, bb⟩
                replace bb := nextw (w0 := WN7x216) (by exact sm) bb
                replace B_z0 := mv B_z0 bb
                replace B_z1 := mv B_z1 bb
                replace B_z2 := mv B_z2 bb
                replace HB := nx HB bb
                clear bb
                have lt_z3z0 := B_z0.out.lt
                have lt_z3z1 := B_z1.out.lt
                have lt_z3z2 := B_z2.out.lt
                obtain ⟨bb, B_z3⟩ := box1 w13 91 #[.int .i64 (covF lo d hi d y0 y), .int .i64 (covL lo d hi d y1 y)]
                replace bb := bb.out
                replace B_z0 := mv B_z0 bb
                replace B_z1 := mv B_z1 bb
                replace B_z2 := mv B_z2 bb
                replace HB := nx HB bb
                clear bb
                go_upto_region 9 with (fail)
                generalize w13.alloc (.cells #[.int .i64 (covF lo d hi d y0 y), .int .i64 (covL lo d hi d y1 y)] 91) = WN8x240 at *
                obtain ⟨c0z3, c1z3⟩ := cells2 B_z3
                go_wp2_with fail
                clear c0z3 c1z3
                obtain ⟨base, hbase⟩ : ∃ base, base = WN8x240.heap.size := ⟨_, rfl⟩
                have HW : Hid (w.heap.size ≤ base) := by have := HB.out.size; unfold Hid; omega
                have LT_z0 : Hid (w.heap.size < base) := by have := B_z0.out.lt; unfold Hid; omega
                have LT_z1 : Hid (w.heap.size + 1 < base) := by have := B_z1.out.lt; unfold Hid; omega
                have LT_z2 : Hid (w12.heap.size < base) := by have := B_z2.out.lt; unfold Hid; omega
                have LT_z3 : Hid (w13.heap.size < base) := by have := B_z3.out.lt; unfold Hid; omega
                have VR : Hid (OwnP WN8x240 base (.slice none 0 0) []) := Lib.hid (own_nil _ _)
                have HBS : Hid (base ≤ WN8x240.heap.size) := by unfold Hid; omega
                clear hbase
                go_loopw [12, 13] (fun a0 kk wx => ∃ (k : Nat), k ≤ N ∧ kk = .int .i64 ((covF lo d hi d y0 y) + ((k : Nat) : Int)) ∧ Hid (OwnP wx base a0 (swK x0 y0 x1 y1 x y d lo hi (covF lo d hi d y0 y) k)) ∧ Hid (base ≤ wx.heap.size) ∧ Hid (Bx wx (w.heap.size) 45 #[.int .i64 x0, .int .i64 y0, .int .i64 x1, .int .i64 y1]) ∧ Hid (Bx wx (w.heap.size + 1) 59 #[.int .i64 x, .int .i64 y, .int .i64 d]) ∧ Hid (Bx wx (w12.heap.size) 101 #[.int .i64 lo, .int .i64 d, .int .i64 hi, .int .i64 d]) ∧ Hid (Bx wx (w13.heap.size) 91 #[.int .i64 (covF lo d hi d y0 y), .int .i64 (covL lo d hi d y1 y)]) ∧ Hid (Below w.heap.size w wx)) (fun _ kk _ => (covL lo d hi d y1 y + 1 - intOf kk).toNat)
                case atStart => exact ⟨0, by omega, congrArg (Value.int .i64) (by omega), VR, HBS, B_z0, B_z1, B_z2, B_z3, HB⟩
                case round =>
                  clear VR HBS B_z0 B_z1 B_z2 B_z3 HB
                  obtain ⟨k, hk, rfl, VR, HBS, B_z0, B_z1, B_z2, B_z3, HB⟩ := hrel
                  by_cases hlt : k < N
                  · skip
                    have hle0 : covF lo d hi d y0 y + ((k : Nat) : Int) ≤ covL lo d hi d y1 y := by have := HE.out; omega
                    obtain ⟨cb1, cb2⟩ := HO.out.cols (Y := covF lo d hi d y0 y + ((k : Nat) : Int)) (by omega) hle0
                    obtain ⟨pa1, pa2, pe1, pe2⟩ := HO.out.parts (Y := covF lo d hi d y0 y + ((k : Nat) : Int)) (by omega) hle0
                    have hlk := HO.out.len k (by omega)
                    have HSK : Hid (swK x0 y0 x1 y1 x y d lo hi (covF lo d hi d y0 y) (k + 1) = swK x0 y0 x1 y1 x y d lo hi (covF lo d hi d y0 y) k ++ rowK (covF lo d hi d y0 y + ((k : Nat) : Int)) (swF x0 y0 y1 x y d lo hi (covF lo d hi d y0 y + ((k : Nat) : Int))) (swL x1 y0 y1 x y d lo hi (covF lo d hi d y0 y + ((k : Nat) : Int)) + 1 - swF x0 y0 y1 x y d lo hi (covF lo d hi d y0 y + ((k : Nat) : Int))).toNat) := rfl
                    obtain ⟨Y, hY⟩ : ∃ Y, covF lo d hi d y0 y + ((k : Nat) : Int) = Y := ⟨_, rfl⟩
                    rw [hY] at HSK cb1 cb2 pa1 pa2 pe1 pe2 hle0 ⊢
                    have HY := Lib.hid hY
                    have hYb1 : -32768 ≤ Y := by omega
                    have hYb2 : Y ≤ 32768 := by omega
                    clear hY
                    obtain ⟨CFX, hCF⟩ : ∃ q, swF x0 y0 y1 x y d lo hi Y = q := ⟨_, rfl⟩
                    obtain ⟨CLX, hCL⟩ : ∃ q, swL x1 y0 y1 x y d lo hi Y = q := ⟨_, rfl⟩
                    rw [hCF] at HSK cb1
                    rw [hCL] at HSK cb2
                    have hCF0 := hCF
                    have hCL0 := hCL
                    clear hCF hCL
                    obtain ⟨cb11, cb12⟩ := cb1
                    obtain ⟨cb21, cb22⟩ := cb2
                    have wx0 := HO.out.wx
                    have HIR := Lib.hid (fun w => inRow_is lo d hi d Y x0 y0 x1 y1 y ⟨by omega, by omega⟩ ⟨by omega, by omega⟩ ⟨by omega, by omega⟩ ⟨by omega, by omega⟩ ⟨by omega, by omega⟩ ⟨by omega, by omega⟩ ⟨by omega, by omega⟩ ⟨by omega, by omega⟩ w)
                    obtain ⟨QA, hQA⟩ : ∃ q, iaN lo d (64 * Y - y1) (64 * (Y + 1) - y0) y = q := ⟨_, rfl⟩
                    obtain ⟨QB, hQB⟩ : ∃ q, iaD lo d (64 * Y - y1) (64 * (Y + 1) - y0) y = q := ⟨_, rfl⟩
                    obtain ⟨QC, hQC⟩ : ∃ q, ieN hi d (64 * Y - y1) (64 * (Y + 1) - y0) y = q := ⟨_, rfl⟩
                    obtain ⟨QD, hQD⟩ : ∃ q, ieD hi d (64 * Y - y1) (64 * (Y + 1) - y0) y = q := ⟨_, rfl⟩
                    unfold swF at hCF0
                    unfold swL at hCL0
                    rw [hQA] at HIR pa1 hCF0 hCL0
                    rw [hQB] at HIR pa1 hCF0 hCL0 pa2
                    rw [hQC] at HIR pe1 hCF0 hCL0
                    rw [hQD] at HIR pe1 hCF0 hCL0 pe2
                    clear hQA hQB hQC hQD
                    have a2 := pa1.small (by omega) pa2
                    have e2 := pe1.small (by omega) pe2
                    obtain ⟨pb1, pb2, pb3, -⟩ := pa1
                    obtain ⟨pf1, pf2, pf3, -⟩ := pe1
                    have HCV := Lib.hid (fun w => covered_is QA QB QC QD x0 x1 x ⟨by omega, by omega⟩ ⟨by omega, by omega⟩ ⟨by omega, by omega⟩ ⟨by omega, by omega⟩ ⟨by omega, by omega⟩ ⟨by omega, by omega⟩ ⟨by omega, by omega⟩ w)
                    rw [hCF0, hCL0] at HCV
                    clear hCF0 hCL0
                    obtain ⟨LK, hLK⟩ : ∃ l, swK x0 y0 x1 y1 x y d lo hi (covF lo d hi d y0 y) k = l := ⟨_, rfl⟩
                    rw [hLK] at VR HSK hlk
                    clear hLK
                    have hlk2 : LK.length ≤ 100000 := by have := HN.out; omega
                    have H13 := Lib.hid (fun w => (HIR.out w))
                    have H14 := Lib.hid (fun w => (HCV.out w))
                    obtain ⟨c0z3, c1z3⟩ := cells2 B_z3
                    go_upto_region 13 with (fail)
                    clear c0z3 c1z3
                    obtain ⟨c0z2, c1z2, c2z2, c3z2⟩ := cells4 B_z2
                    obtain ⟨c0z0, c1z0, c2z0, c3z0⟩ := cells4 B_z0
                    obtain ⟨c0z1, c1z1, -⟩ := cells3 B_z1
                    have tk1x0 : True := trivial
                    go_region_held3 (fun w' => w'.cell? ⟨w12.heap.size, 0, none⟩ = some (.int .i64 lo) ∧ w'.cell? ⟨w12.heap.size, 1, none⟩ = some (.int .i64 d) ∧ w'.cell? ⟨w12.heap.size, 2, none⟩ = some (.int .i64 hi) ∧ w'.cell? ⟨w12.heap.size, 3, none⟩ = some (.int .i64 d) ∧ w'.cell? ⟨w.heap.size, 0, none⟩ = some (.int .i64 x0) ∧ w'.cell? ⟨w.heap.size, 1, none⟩ = some (.int .i64 y0) ∧ w'.cell? ⟨w.heap.size, 2, none⟩ = some (.int .i64 x1) ∧ w'.cell? ⟨w.heap.size, 3, none⟩ = some (.int .i64 y1) ∧ w'.cell? ⟨w.heap.size + 1, 0, none⟩ = some (.int .i64 x) ∧ w'.cell? ⟨w.heap.size + 1, 1, none⟩ = some (.int .i64 y)) (((try dsimp only); (repeat' apply And.intro) <;> (first | (with_reducible assumption) | ((repeat (first | (with_reducible refine Eq.trans (cell_drew1 _ _) ?_) | (with_reducible refine Eq.trans (cell_far (by omega) _ _ _) ?_) | (with_reducible refine Eq.trans (World.cell?_alloc_lt _ _ _ (by first | (dsimp only; omega) | (simp only [World.size_alloc, World.size_setCell]; omega))) ?_))); with_reducible assumption) | assumption | go_keep)))
    (first
      | (clear tk1x0; go_at_call 79; refine (H13.out _).mono ?_; rintro e w14 ⟨rfl, bb⟩; replace bb := nextw (w0 := wr) (by exact sm) bb; replace B_z0 := mv B_z0 bb; replace B_z1 := mv B_z1 bb; replace B_z2 := mv B_z2 bb; replace B_z3 := mv B_z3 bb; replace VR := Lib.hid (OwnP.below VR.out bb); replace HBS := Lib.hid (lebel HBS.out bb); replace HB := nx HB bb; clear bb c0z2 c1z2 c2z2 c3z2 c0z0 c1z0 c2z0 c3z0 c0z1 c1z1; have c0z2 : w14.cell? ⟨w12.heap.size, 0, none⟩ = some (.int .i64 lo) := B_z2.out.cell 0 rfl; have c1z2 : w14.cell? ⟨w12.heap.size, 1, none⟩ = some (.int .i64 d) := B_z2.out.cell 1 rfl; have c2z2 : w14.cell? ⟨w12.heap.size, 2, none⟩ = some (.int .i64 hi) := B_z2.out.cell 2 rfl; have c3z2 : w14.cell? ⟨w12.heap.size, 3, none⟩ = some (.int .i64 d) := B_z2.out.cell 3 rfl; have c0z0 : w14.cell? ⟨w.heap.size, 0, none⟩ = some (.int .i64 x0) := B_z0.out.cell 0 rfl; have c1z0 : w14.cell? ⟨w.heap.size, 1, none⟩ = some (.int .i64 y0) := B_z0.out.cell 1 rfl; have c2z0 : w14.cell? ⟨w.heap.size, 2, none⟩ = some (.int .i64 x1) := B_z0.out.cell 2 rfl; have c3z0 : w14.cell? ⟨w.heap.size, 3, none⟩ = some (.int .i64 y1) := B_z0.out.cell 3 rfl; have c0z1 : w14.cell? ⟨w.heap.size + 1, 0, none⟩ = some (.int .i64 x) := B_z1.out.cell 0 rfl; have c1z1 : w14.cell? ⟨w.heap.size + 1, 1, none⟩ = some (.int .i64 y) := B_z1.out.cell 1 rfl; have tk1x1 : True := trivial)
      | (clear tk1x1; go_at_call 78; refine (H14.out _).mono ?_; rintro e w15 ⟨rfl, bb⟩; replace bb := nextw (w0 := w14) (by exact sm) bb; replace B_z0 := mv B_z0 bb; replace B_z1 := mv B_z1 bb; replace B_z2 := mv B_z2 bb; replace B_z3 := mv B_z3 bb; replace VR := Lib.hid (OwnP.below VR.out bb); replace HBS := Lib.hid (lebel HBS.out bb); replace HB := nx HB bb; clear bb c0z2 c1z2 c2z2 c3z2 c0z0 c1z0 c2z0 c3z0 c0z1 c1z1; have c0z2 : w15.cell? ⟨w12.heap.size, 0, none⟩ = some (.int .i64 lo) := B_z2.out.cell 0 rfl; have c1z2 : w15.cell? ⟨w12.heap.size, 1, none⟩ = some (.int .i64 d) := B_z2.out.cell 1 rfl; have c2z2 : w15.cell? ⟨w12.heap.size, 2, none⟩ = some (.int .i64 hi) := B_z2.out.cell 2 rfl; have c3z2 : w15.cell? ⟨w12.heap.size, 3, none⟩ = some (.int .i64 d) := B_z2.out.cell 3 rfl; have c0z0 : w15.cell? ⟨w.heap.size, 0, none⟩ = some (.int .i64 x0) := B_z0.out.cell 0 rfl; have c1z0 : w15.cell? ⟨w.heap.size, 1, none⟩ = some (.int .i64 y0) := B_z0.out.cell 1 rfl; have c2z0 : w15.cell? ⟨w.heap.size, 2, none⟩ = some (.int .i64 x1) := B_z0.out.cell 2 rfl; have c3z0 : w15.cell? ⟨w.heap.size, 3, none⟩ = some (.int .i64 y1) := B_z0.out.cell 3 rfl; have c0z1 : w15.cell? ⟨w.heap.size + 1, 0, none⟩ = some (.int .i64 x) := B_z1.out.cell 0 rfl; have c1z1 : w15.cell? ⟨w.heap.size + 1, 1, none⟩ = some (.int .i64 y) := B_z1.out.cell 1 rfl; have tk1x2 : True := trivial)
      | (clear tk1x2; go_at_call 73; refine (appendRow_is u12 base LK Y CFX CLX ⟨by omega, by omega⟩ ⟨by omega, by omega⟩ (by omega) (by omega) _ VR.out HBS.out).mono ?_; rintro e w16 ⟨vw16, rfl, VRn, bb⟩; replace B_z0 := Lib.hid (Bx.below B_z0.out bb LT_z0.out); replace B_z1 := Lib.hid (Bx.below B_z1.out bb LT_z1.out); replace B_z2 := Lib.hid (Bx.below B_z2.out bb LT_z2.out); replace B_z3 := Lib.hid (Bx.below B_z3.out bb LT_z3.out); replace HB := Lib.hid (HB.out.trans (bb.mono HW.out)); replace HBS := Lib.hid (Nat.le_trans HBS.out bb.size); clear VR bb; have VR := Lib.hid VRn; clear VRn; clear c0z2 c1z2 c2z2 c3z2 c0z0 c1z0 c2z0 c3z0 c0z1 c1z1; have c0z2 : w16.cell? ⟨w12.heap.size, 0, none⟩ = some (.int .i64 lo) := B_z2.out.cell 0 rfl; have c1z2 : w16.cell? ⟨w12.heap.size, 1, none⟩ = some (.int .i64 d) := B_z2.out.cell 1 rfl; have c2z2 : w16.cell? ⟨w12.heap.size, 2, none⟩ = some (.int .i64 hi) := B_z2.out.cell 2 rfl; have c3z2 : w16.cell? ⟨w12.heap.size, 3, none⟩ = some (.int .i64 d) := B_z2.out.cell 3 rfl; have c0z0 : w16.cell? ⟨w.heap.size, 0, none⟩ = some (.int .i64 x0) := B_z0.out.cell 0 rfl; have c1z0 : w16.cell? ⟨w.heap.size, 1, none⟩ = some (.int .i64 y0) := B_z0.out.cell 1 rfl; have c2z0 : w16.cell? ⟨w.heap.size, 2, none⟩ = some (.int .i64 x1) := B_z0.out.cell 2 rfl; have c3z0 : w16.cell? ⟨w.heap.size, 3, none⟩ = some (.int .i64 y1) := B_z0.out.cell 3 rfl; have c0z1 : w16.cell? ⟨w.heap.size + 1, 0, none⟩ = some (.int .i64 x) := B_z1.out.cell 0 rfl; have c1z1 : w16.cell? ⟨w.heap.size + 1, 1, none⟩ = some (.int .i64 y) := B_z1.out.cell 1 rfl; have tk1x3 : True := trivial))
                    clear c0z2 c1z2 c2z2 c3z2 c0z0 c1z0 c2z0 c3z0 c0z1 c1z1
                    go_wp2_with fail
                    go_roundw
                    case rel => exact ⟨k + 1, by omega, congrArg (Value.int .i64) (by have := HY.out; omega), (by rw [HSK.out]; exact VR), HBS, B_z0, B_z1, B_z2, B_z3, HB⟩
                    case measure => simp only [intOf]; have := HY.out; omega
                  · skip
                    have hkn : N = k := by omega
                    subst hkn
                    have hgt : ¬ (covF lo d hi d y0 y + ((N : Nat) : Int) ≤ covL lo d hi d y1 y) := by have := HE.out; omega
                    obtain ⟨c0z3, c1z3⟩ := cells2 B_z3
                    have HEr : Hid (swE x0 y0 x1 y1 x y d lo hi = 0) := swE_ok dd0 dd1 (by omega) (by omega) (by omega) (by omega) (by omega)
                    have HV : Hid (swV x0 y0 x1 y1 x y d lo hi = swK x0 y0 x1 y1 x y d lo hi (covF lo d hi d y0 y) N) := by unfold Hid; rw [swV_ok HEr.out]; unfold swX; rw [HE.out]
                    obtain ⟨AR, cR, e1, p1, -⟩ := VR.out.pl
                    subst e1
                    have P1 := Lib.hid p1
                    clear p1
                    go_wp2_with fail
                    exact bodyPost_ret (v := .tuple #[.slice AR (swK x0 y0 x1 y1 x y d lo hi (covF lo d hi d y0 y) N).length cR, .int .i64 0]) (by simp [results, Try.results43, go_sem]) rfl ⟨AR, cR, (by rw [HV.out, HEr.out]), (by rw [HV.out]; exact PL.outw (PL.below P1.out (by exact sm)) HW.out), nextw HB.out (by exact sm)⟩
    · skip
      have H16 := Lib.hid (fun w => validRect_is x0 y0 x1 y1 w)
      have H17 := Lib.hid (fun w => HValid_is x y d w)
      obtain ⟨HB, B_z0, B_z1⟩ := box2 w 45 #[.int .i64 x0, .int .i64 y0, .int .i64 x1, .int .i64 y1] 59 #[.int .i64 x, .int .i64 y, .int .i64 d]
      go_enter Try.func43, Try.ntmps43
      go_upto_region 1 with (fail)
      generalize (w.alloc (.cells #[.int .i64 x0, .int .i64 y0, .int .i64 x1, .int .i64 y1] 45)).alloc (.cells #[.int .i64 x, .int .i64 y, .int .i64 d] 59) = W0 at *
      obtain ⟨c0z0, c1z0, c2z0, c3z0⟩ := cells4 B_z0
      go_wp2_with fail
      refine (H16.out _).mono ?_
      clear c0z0 c1z0 c2z0 c3z0
      rintro e w17 ⟨rfl, bb⟩
      replace bb := nextw (w0 := W0) (by exact sm) bb
      replace B_z0 := mv B_z0 bb
      replace B_z1 := mv B_z1 bb
      replace HB := nx HB bb
      clear bb
      obtain ⟨c0z1, c1z1, c2z1⟩ := cells3 B_z1
      go_wp2_with fail
      refine (H17.out _).mono ?_
      clear c0z1 c1z1 c2z1
      rintro e w18 ⟨rfl, bb⟩
      replace bb := nextw (w0 := w17) (by exact sm) bb
      replace B_z0 := mv B_z0 bb
      replace B_z1 := mv B_z1 bb
      replace HB := nx HB bb
      clear bb
      have HEr : Hid (swE x0 y0 x1 y1 x y d lo hi = 1) := swE_1 (fun h => dd1 h.2)
      have HV : Hid (swV x0 y0 x1 y1 x y d lo hi = []) := swV_nil HEr.out (by decide)
      go_wp2_with fail
      exact bodyPost_ret (v := .tuple #[.slice none 0 0, .int .i64 1]) (by simp [results, Try.results43, go_sem]) rfl ⟨none, 0, (by rw [HV.out, HEr.out]; rfl), (by rw [HV.out]; exact pl_nil _ _), nextw HB.out (by exact sm)⟩
  · skip
    have H18 := Lib.hid (fun w => validRect_is x0 y0 x1 y1 w)
    obtain ⟨HB, B_z0, B_z1⟩ := box2 w 45 #[.int .i64 x0, .int .i64 y0, .int .i64 x1, .int .i64 y1] 59 #[.int .i64 x, .int .i64 y, .int .i64 d]
    go_enter Try.func43, Try.ntmps43
    go_upto_region 1 with (fail)
    generalize (w.alloc (.cells #[.int .i64 x0, .int .i64 y0, .int .i64 x1, .int .i64 y1] 45)).alloc (.cells #[.int .i64 x, .int .i64 y, .int .i64 d] 59) = W0 at *
    obtain ⟨c0z0, c1z0, c2z0, c3z0⟩ := cells4 B_z0
    go_wp2_with fail
    refine (H18.out _).mono ?_
    clear c0z0 c1z0 c2z0 c3z0
    rintro e w19 ⟨rfl, bb⟩
    replace bb := nextw (w0 := W0) (by exact sm) bb
    replace B_z0 := mv B_z0 bb
    replace B_z1 := mv B_z1 bb
    replace HB := nx HB bb
    clear bb
    have HEr : Hid (swE x0 y0 x1 y1 x y d lo hi = 1) := swE_1 (fun h => dd0 h.1)
    have HV : Hid (swV x0 y0 x1 y1 x y d lo hi = []) := swV_nil HEr.out (by decide)
    go_wp2_with fail
    exact bodyPost_ret (v := .tuple #[.slice none 0 0, .int .i64 1]) (by simp [results, Try.results43, go_sem]) rfl ⟨none, 0, (by rw [HV.out, HEr.out]; rfl), (by rw [HV.out]; exact pl_nil _ _), nextw HB.out (by exact sm)⟩
end Go.Proofs.Ytkhcogfajihecaa
