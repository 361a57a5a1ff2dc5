/- the reference's Swept. -/
import Derived.Test.YtkhcogfajihecaaY21
import Derived.Test.YtkhcogfajihecaaYM4
set_option linter.unusedVariables false
set_option linter.unusedSimpArgs false
namespace Go.Proofs.Ytkhcogfajihecaa
open Go Go.RowKit Hd

theorem RMeets_sp (x0 y0 x1 y1 x y d lo hi X Y : Int) (w : World) : Calls Try.prog 82 #[.agg #[.int .i64 0, .int .i64 0], .agg #[.int .i64 x, .int .i64 y, .int .i64 d], .int .i64 lo, .int .i64 hi, .agg #[.int .i64 ((X * 64) - x1), .int .i64 ((Y * 64) - y1), .int .i64 (((X * 64) + 64) - x0), .int .i64 (((Y * 64) + 64) - y0)]] w fun e w' => e = .returned (.bool (spB x0 y0 x1 y1 x y d lo hi X Y)) ∧ Below w.heap.size w w' := RMeets_any 0 0 x y d lo hi ((X * 64) - x1) ((Y * 64) - y1) (((X * 64) + 64) - x0) (((Y * 64) + 64) - y0) w

set_option maxRecDepth 100000 in
set_option maxHeartbeats 4000000 in
theorem RSwept_is (x0 y0 x1 y1 x y d lo hi : Int)   (w : World) :
    Calls Try.prog 44 #[.agg #[.int .i64 x0, .int .i64 y0, .int .i64 x1, .int .i64 y1], .agg #[.int .i64 x, .int .i64 y, .int .i64 d], .int .i64 lo, .int .i64 hi] w fun e w' => ∃ A c, e = .returned (.tuple #[.slice A (swV x0 y0 x1 y1 x y d lo hi).length c, .int .i64 (swE x0 y0 x1 y1 x y d lo hi)]) ∧ PL w' w.heap.size w'.heap.size A (swV x0 y0 x1 y1 x y d lo hi).length c (swV x0 y0 x1 y1 x y d lo hi) ∧ Below w.heap.size w w' := by
  obtain ⟨i0, hi0, hz0, hz1, hz2⟩ := info_parts info2
  have HI := Lib.hid hi0
  clear hi0
  by_cases dd0 : OkQ x0 y0 x1 y1
  · skip
    obtain ⟨⟨dd0a, dd0b⟩, ⟨dd0c, dd0d⟩, ⟨dd0e, dd0f⟩, ⟨dd0g, dd0h⟩, dd0i, dd0j⟩ := (id dd0 : OkQ x0 y0 x1 y1)
    by_cases dd1 : OkV x y d
    · skip
      have dd1l := dd1.lo
      have dd1h := dd1.hi
      obtain ⟨dd1x1, dd1x2⟩ := dd1.bx
      obtain ⟨dd1y1, dd1y2⟩ := dd1.by_
      by_cases dd2 : lo < 0
      · skip
        have H0 := Lib.hid (fun w => right_is x0 y0 x1 y1 w)
        have H1 := Lib.hid (fun w => BVector_is x y d w)
        obtain ⟨HB, B_z0, B_z1⟩ := box2 w 45 #[.int .i64 x0, .int .i64 y0, .int .i64 x1, .int .i64 y1] 59 #[.int .i64 x, .int .i64 y, .int .i64 d]
        go_enter Try.func44, Try.ntmps44
        go_upto_region 1 with (fail)
        generalize (w.alloc (.cells #[.int .i64 x0, .int .i64 y0, .int .i64 x1, .int .i64 y1] 45)).alloc (.cells #[.int .i64 x, .int .i64 y, .int .i64 d] 59) = W0 at *
        obtain ⟨c0z0, c1z0, c2z0, c3z0⟩ := cells4 B_z0
        go_wp2_with fail
        refine (H0.out _).mono ?_
        clear c0z0 c1z0 c2z0 c3z0
        rintro e w1 ⟨rfl, bb⟩
        replace bb := nextw (w0 := W0) (by exact sm) bb
        replace B_z0 := mv B_z0 bb
        replace B_z1 := mv B_z1 bb
        replace HB := nx HB bb
        clear bb
        obtain ⟨c0z1, c1z1, c2z1⟩ := cells3 B_z1
        go_wp2_with fail
        refine (H1.out _).mono ?_
        clear c0z1 c1z1 c2z1
        rintro e w2 ⟨rfl, bb⟩
        replace bb := nextw (w0 := w1) (by exact sm) bb
        replace B_z0 := mv B_z0 bb
        replace B_z1 := mv B_z1 bb
        replace HB := nx HB bb
        clear bb
        have HEr : Hid (swE x0 y0 x1 y1 x y d lo hi = 2) := swE_2 dd0 dd1 (by omega)
        have HV : Hid (swV x0 y0 x1 y1 x y d lo hi = []) := swV_nil HEr.out (by decide)
        go_wp2_with fail
        exact bodyPost_ret (v := .tuple #[.slice none 0 0, .int .i64 2]) (by simp [results, Try.results44, go_sem]) rfl ⟨none, 0, (by rw [HV.out, HEr.out]; rfl), (by rw [HV.out]; exact pl_nil _ _), nextw HB.out (by exact sm)⟩
      · skip
        replace dd2 : 0 ≤ lo := by omega
        by_cases dd3 : hi < lo
        · skip
          have H2 := Lib.hid (fun w => right_is x0 y0 x1 y1 w)
          have H3 := Lib.hid (fun w => BVector_is x y d w)
          obtain ⟨HB, B_z0, B_z1⟩ := box2 w 45 #[.int .i64 x0, .int .i64 y0, .int .i64 x1, .int .i64 y1] 59 #[.int .i64 x, .int .i64 y, .int .i64 d]
          go_enter Try.func44, Try.ntmps44
          go_upto_region 1 with (fail)
          generalize (w.alloc (.cells #[.int .i64 x0, .int .i64 y0, .int .i64 x1, .int .i64 y1] 45)).alloc (.cells #[.int .i64 x, .int .i64 y, .int .i64 d] 59) = W0 at *
          obtain ⟨c0z0, c1z0, c2z0, c3z0⟩ := cells4 B_z0
          go_wp2_with fail
          refine (H2.out _).mono ?_
          clear c0z0 c1z0 c2z0 c3z0
          rintro e w3 ⟨rfl, bb⟩
          replace bb := nextw (w0 := W0) (by exact sm) bb
          replace B_z0 := mv B_z0 bb
          replace B_z1 := mv B_z1 bb
          replace HB := nx HB bb
          clear bb
          obtain ⟨c0z1, c1z1, c2z1⟩ := cells3 B_z1
          go_wp2_with fail
          refine (H3.out _).mono ?_
          clear c0z1 c1z1 c2z1
          rintro e w4 ⟨rfl, bb⟩
          replace bb := nextw (w0 := w3) (by exact sm) bb
          replace B_z0 := mv B_z0 bb
          replace B_z1 := mv B_z1 bb
          replace HB := nx HB bb
          clear bb
          have HEr : Hid (swE x0 y0 x1 y1 x y d lo hi = 2) := swE_2 dd0 dd1 (by omega)
          have HV : Hid (swV x0 y0 x1 y1 x y d lo hi = []) := swV_nil HEr.out (by decide)
          go_wp2_with fail
          exact bodyPost_ret (v := .tuple #[.slice none 0 0, .int .i64 2]) (by simp [results, Try.results44, go_sem]) rfl ⟨none, 0, (by rw [HV.out, HEr.out]; rfl), (by rw [HV.out]; exact pl_nil _ _), nextw HB.out (by exact sm)⟩
        · skip
          replace dd3 : lo ≤ hi := by omega
          by_cases dd4 : 2048 < hi
          · skip
            have H4 := Lib.hid (fun w => right_is x0 y0 x1 y1 w)
            have H5 := Lib.hid (fun w => BVector_is x y d w)
            obtain ⟨HB, B_z0, B_z1⟩ := box2 w 45 #[.int .i64 x0, .int .i64 y0, .int .i64 x1, .int .i64 y1] 59 #[.int .i64 x, .int .i64 y, .int .i64 d]
            go_enter Try.func44, Try.ntmps44
            go_upto_region 1 with (fail)
            generalize (w.alloc (.cells #[.int .i64 x0, .int .i64 y0, .int .i64 x1, .int .i64 y1] 45)).alloc (.cells #[.int .i64 x, .int .i64 y, .int .i64 d] 59) = W0 at *
            obtain ⟨c0z0, c1z0, c2z0, c3z0⟩ := cells4 B_z0
            go_wp2_with fail
            refine (H4.out _).mono ?_
            clear c0z0 c1z0 c2z0 c3z0
            rintro e w5 ⟨rfl, bb⟩
            replace bb := nextw (w0 := W0) (by exact sm) bb
            replace B_z0 := mv B_z0 bb
            replace B_z1 := mv B_z1 bb
            replace HB := nx HB bb
            clear bb
            obtain ⟨c0z1, c1z1, c2z1⟩ := cells3 B_z1
            go_wp2_with fail
            refine (H5.out _).mono ?_
            clear c0z1 c1z1 c2z1
            rintro e w6 ⟨rfl, bb⟩
            replace bb := nextw (w0 := w5) (by exact sm) bb
            replace B_z0 := mv B_z0 bb
            replace B_z1 := mv B_z1 bb
            replace HB := nx HB bb
            clear bb
            have HEr : Hid (swE x0 y0 x1 y1 x y d lo hi = 2) := swE_2 dd0 dd1 (by omega)
            have HV : Hid (swV x0 y0 x1 y1 x y d lo hi = []) := swV_nil HEr.out (by decide)
            go_wp2_with fail
            exact bodyPost_ret (v := .tuple #[.slice none 0 0, .int .i64 2]) (by simp [results, Try.results44, go_sem]) rfl ⟨none, 0, (by rw [HV.out, HEr.out]; rfl), (by rw [HV.out]; exact pl_nil _ _), nextw HB.out (by exact sm)⟩
          · skip
            replace dd4 : hi ≤ 2048 := by omega
            by_cases dd5 : 1024 < (x1 - x0)
            · skip
              have H6 := Lib.hid (fun w => right_is x0 y0 x1 y1 w)
              have H7 := Lib.hid (fun w => BVector_is x y d w)
              obtain ⟨HB, B_z0, B_z1⟩ := box2 w 45 #[.int .i64 x0, .int .i64 y0, .int .i64 x1, .int .i64 y1] 59 #[.int .i64 x, .int .i64 y, .int .i64 d]
              go_enter Try.func44, Try.ntmps44
              go_upto_region 1 with (fail)
              generalize (w.alloc (.cells #[.int .i64 x0, .int .i64 y0, .int .i64 x1, .int .i64 y1] 45)).alloc (.cells #[.int .i64 x, .int .i64 y, .int .i64 d] 59) = W0 at *
              obtain ⟨c0z0, c1z0, c2z0, c3z0⟩ := cells4 B_z0
              go_wp2_with fail
              refine (H6.out _).mono ?_
              clear c0z0 c1z0 c2z0 c3z0
              rintro e w7 ⟨rfl, bb⟩
              replace bb := nextw (w0 := W0) (by exact sm) bb
              replace B_z0 := mv B_z0 bb
              replace B_z1 := mv B_z1 bb
              replace HB := nx HB bb
              clear bb
              obtain ⟨c0z1, c1z1, c2z1⟩ := cells3 B_z1
              go_wp2_with fail
              refine (H7.out _).mono ?_
              clear c0z1 c1z1 c2z1
              rintro e w8 ⟨rfl, bb⟩
              replace bb := nextw (w0 := w7) (by exact sm) bb
              replace B_z0 := mv B_z0 bb
              replace B_z1 := mv B_z1 bb
              replace HB := nx HB bb
              clear bb
              obtain ⟨c0z0, c1z0, c2z0, c3z0⟩ := cells4 B_z0
              have HEr : Hid (swE x0 y0 x1 y1 x y d lo hi = 6) := swE_6 dd0 dd1 (by omega) (by omega) (by omega) (by omega)
              have HV : Hid (swV x0 y0 x1 y1 x y d lo hi = []) := swV_nil HEr.out (by decide)
              go_wp2_with fail
              exact bodyPost_ret (v := .tuple #[.slice none 0 0, .int .i64 6]) (by simp [results, Try.results44, go_sem]) rfl ⟨none, 0, (by rw [HV.out, HEr.out]; rfl), (by rw [HV.out]; exact pl_nil _ _), nextw HB.out (by exact sm)⟩
            · skip
              replace dd5 : (x1 - x0) ≤ 1024 := by omega
              by_cases dd6 : 1024 < (y1 - y0)
              · skip
                have H8 := Lib.hid (fun w => right_is x0 y0 x1 y1 w)
                have H9 := Lib.hid (fun w => BVector_is x y d w)
                obtain ⟨HB, B_z0, B_z1⟩ := box2 w 45 #[.int .i64 x0, .int .i64 y0, .int .i64 x1, .int .i64 y1] 59 #[.int .i64 x, .int .i64 y, .int .i64 d]
                go_enter Try.func44, Try.ntmps44
                go_upto_region 1 with (fail)
                generalize (w.alloc (.cells #[.int .i64 x0, .int .i64 y0, .int .i64 x1, .int .i64 y1] 45)).alloc (.cells #[.int .i64 x, .int .i64 y, .int .i64 d] 59) = W0 at *
                obtain ⟨c0z0, c1z0, c2z0, c3z0⟩ := cells4 B_z0
                go_wp2_with fail
                refine (H8.out _).mono ?_
                clear c0z0 c1z0 c2z0 c3z0
                rintro e w9 ⟨rfl, bb⟩
                replace bb := nextw (w0 := W0) (by exact sm) bb
                replace B_z0 := mv B_z0 bb
                replace B_z1 := mv B_z1 bb
                replace HB := nx HB bb
                clear bb
                obtain ⟨c0z1, c1z1, c2z1⟩ := cells3 B_z1
                go_wp2_with fail
                refine (H9.out _).mono ?_
                clear c0z1 c1z1 c2z1
                rintro e w10 ⟨rfl, bb⟩
                replace bb := nextw (w0 := w9) (by exact sm) bb
                replace B_z0 := mv B_z0 bb
                replace B_z1 := mv B_z1 bb
                replace HB := nx HB bb
                clear bb
                obtain ⟨c0z0, c1z0, c2z0, c3z0⟩ := cells4 B_z0
                have HEr : Hid (swE x0 y0 x1 y1 x y d lo hi = 6) := swE_6 dd0 dd1 (by omega) (by omega) (by omega) (by omega)
                have HV : Hid (swV x0 y0 x1 y1 x y d lo hi = []) := swV_nil HEr.out (by decide)
                go_wp2_with fail
                exact bodyPost_ret (v := .tuple #[.slice none 0 0, .int .i64 6]) (by simp [results, Try.results44, go_sem]) rfl ⟨none, 0, (by rw [HV.out, HEr.out]; rfl), (by rw [HV.out]; exact pl_nil _ _), nextw HB.out (by exact sm)⟩
              · skip
                replace dd6 : (y1 - y0) ≤ 1024 := by omega
                have HO : Hid (SwO x0 y0 x1 y1 x y d lo hi) := Lib.hid ⟨dd1, by omega, by omega, by omega, by omega, by omega, by omega, by omega⟩
                obtain ⟨sAX1, sAX2⟩ := fl_small (t := lo) (x := x) (d := d) (by omega) (by omega) (by omega) (by omega) (by omega)
                have kAX := wi_mul (a := lo) (b := x) (A := 2048) (B := 67108864) ⟨by omega, by omega⟩ ⟨by omega, by omega⟩
                obtain ⟨kAX1, kAX2⟩ := kAX
                have HAX := Lib.hid (fun w => BFloor_is (lo * x) d ⟨by omega, by omega⟩ ⟨by omega, by omega⟩ w)
                obtain ⟨AX, hAX⟩ : ∃ q, fl (lo * x) d = q := ⟨_, rfl⟩
                rw [hAX] at sAX1 sAX2 HAX
                have HFX := Lib.hid hAX
                clear hAX
                obtain ⟨sBX1, sBX2⟩ := fl_small (t := hi) (x := x) (d := d) (by omega) (by omega) (by omega) (by omega) (by omega)
                have kBX := wi_mul (a := hi) (b := x) (A := 2048) (B := 67108864) ⟨by omega, by omega⟩ ⟨by omega, by omega⟩
                obtain ⟨kBX1, kBX2⟩ := kBX
                have HBX := Lib.hid (fun w => BFloor_is (hi * x) d ⟨by omega, by omega⟩ ⟨by omega, by omega⟩ w)
                obtain ⟨BX, hBX⟩ : ∃ q, fl (hi * x) d = q := ⟨_, rfl⟩
                rw [hBX] at sBX1 sBX2 HBX
                have HGX := Lib.hid hBX
                clear hBX
                obtain ⟨sAY1, sAY2⟩ := fl_small (t := lo) (x := y) (d := d) (by omega) (by omega) (by omega) (by omega) (by omega)
                have kAY := wi_mul (a := lo) (b := y) (A := 2048) (B := 67108864) ⟨by omega, by omega⟩ ⟨by omega, by omega⟩
                obtain ⟨kAY1, kAY2⟩ := kAY
                have HAY := Lib.hid (fun w => BFloor_is (lo * y) d ⟨by omega, by omega⟩ ⟨by omega, by omega⟩ w)
                obtain ⟨AY, hAY⟩ : ∃ q, fl (lo * y) d = q := ⟨_, rfl⟩
                rw [hAY] at sAY1 sAY2 HAY
                have HFY := Lib.hid hAY
                clear hAY
                obtain ⟨sBY1, sBY2⟩ := fl_small (t := hi) (x := y) (d := d) (by omega) (by omega) (by omega) (by omega) (by omega)
                have kBY := wi_mul (a := hi) (b := y) (A := 2048) (B := 67108864) ⟨by omega, by omega⟩ ⟨by omega, by omega⟩
                obtain ⟨kBY1, kBY2⟩ := kBY
                have HBY := Lib.hid (fun w => BFloor_is (hi * y) d ⟨by omega, by omega⟩ ⟨by omega, by omega⟩ w)
                obtain ⟨BY, hBY⟩ : ∃ q, fl (hi * y) d = q := ⟨_, rfl⟩
                rw [hBY] at sBY1 sBY2 HBY
                have HGY := Lib.hid hBY
                clear hBY
                obtain ⟨MX0, mx0⟩ : ∃ m, (if BX < AX then BX else AX) = m := ⟨_, rfl⟩
                obtain ⟨MX1, mx1⟩ : ∃ m, (if BY < AY then BY else AY) = m := ⟨_, rfl⟩
                obtain ⟨MX2, mx2⟩ : ∃ m, (if AX < BX then BX else AX) = m := ⟨_, rfl⟩
                obtain ⟨MX3, mx3⟩ : ∃ m, (if AY < BY then BY else AY) = m := ⟨_, rfl⟩
                replace mx0 := Lib.hid mx0
                replace mx1 := Lib.hid mx1
                replace mx2 := Lib.hid mx2
                replace mx3 := Lib.hid mx3
                have H10 := Lib.hid (fun w => right_is x0 y0 x1 y1 w)
                have H11 := Lib.hid (fun w => BVector_is x y d w)
                have H12 := Lib.hid (fun w => (HAX.out w))
                have H13 := Lib.hid (fun w => (HBX.out w))
                have H14 := Lib.hid (fun w => (HAY.out w))
                have H15 := Lib.hid (fun w => (HBY.out w))
                have mnxMX0 : min AX BX = MX0 := by rw [← mx0.out, Int.min_def]; split <;> split <;> omega
                have bMX0 : MX0 ≤ AX ∧ MX0 ≤ BX ∧ (MX0 = AX ∨ MX0 = BX) := by rw [← mx0.out]; split <;> omega
                obtain ⟨bMX01, bMX02, bMX03⟩ := bMX0
                have mnxMX1 : min AY BY = MX1 := by rw [← mx1.out, Int.min_def]; split <;> split <;> omega
                have bMX1 : MX1 ≤ AY ∧ MX1 ≤ BY ∧ (MX1 = AY ∨ MX1 = BY) := by rw [← mx1.out]; split <;> omega
                obtain ⟨bMX11, bMX12, bMX13⟩ := bMX1
                have mnxMX2 : max AX BX = MX2 := by rw [← mx2.out, Int.max_def]; split <;> split <;> omega
                have bMX2 : AX ≤ MX2 ∧ BX ≤ MX2 ∧ (MX2 = AX ∨ MX2 = BX) := by rw [← mx2.out]; split <;> omega
                obtain ⟨bMX21, bMX22, bMX23⟩ := bMX2
                have mnxMX3 : max AY BY = MX3 := by rw [← mx3.out, Int.max_def]; split <;> split <;> omega
                have bMX3 : AY ≤ MX3 ∧ BY ≤ MX3 ∧ (MX3 = AY ∨ MX3 = BY) := by rw [← mx3.out]; split <;> omega
                obtain ⟨bMX31, bMX32, bMX33⟩ := bMX3
                have bMX0l : -2049 ≤ MX0 := by omega
                have bMX1l : -2049 ≤ MX1 := by omega
                have bMX2l : -2049 ≤ MX2 := by omega
                have bMX3l : -2049 ≤ MX3 := by omega
                have bMX0h : MX0 ≤ 2049 := by omega
                have bMX1h : MX1 ≤ 2049 := by omega
                have bMX2h : MX2 ≤ 2049 := by omega
                have bMX3h : MX3 ≤ 2049 := by omega
                clear bMX03 bMX13 bMX23 bMX33
                obtain ⟨fa0, fb0⟩ := fl64 (x0 + MX0)
                obtain ⟨fa1, fb1⟩ := fl64 (y0 + MX1)
                obtain ⟨fa2, fb2⟩ := fl64 ((x1 + MX2) + 1)
                obtain ⟨fa3, fb3⟩ := fl64 ((y1 + MX3) + 1)
                have HAR := Lib.hid (fun w => around_w0 (x0 + MX0) (y0 + MX1) ((x1 + MX2) + 1) ((y1 + MX3) + 1) (by omega) (by omega) (by omega) (by omega) (by omega) (by omega) (by omega) (by omega) w)
                obtain ⟨KX0, hKX0⟩ : ∃ q, (fl (x0 + MX0) 64) - 1 = q := ⟨_, rfl⟩
                obtain ⟨KY0, hKY0⟩ : ∃ q, (fl (y0 + MX1) 64) - 1 = q := ⟨_, rfl⟩
                obtain ⟨KX1, hKX1⟩ : ∃ q, (fl ((x1 + MX2) + 1) 64) + 1 = q := ⟨_, rfl⟩
                obtain ⟨KY1, hKY1⟩ : ∃ q, (fl ((y1 + MX3) + 1) 64) + 1 = q := ⟨_, rfl⟩
                rw [hKX0, hKY0, hKX1, hKY1] at HAR
                have kx1 : 64 * (KX0 + 1) ≤ x0 + MX0 := by omega
                have kx2 : x0 + MX0 < 64 * (KX0 + 2) := by omega
                have ky1 : 64 * (KY0 + 1) ≤ y0 + MX1 := by omega
                have ky2 : y0 + MX1 < 64 * (KY0 + 2) := by omega
                have kx4 : x1 + MX2 + 1 < 64 * KX1 := by omega
                have kx3 : 64 * (KX1 - 1) ≤ x1 + MX2 + 1 := by omega
                have ky4 : y1 + MX3 + 1 < 64 * KY1 := by omega
                have ky3 : 64 * (KY1 - 1) ≤ y1 + MX3 + 1 := by omega
                clear hKX0 hKY0 hKX1 hKY1 fa0 fb0 fa1 fb1 fa2 fb2 fa3 fb3
                obtain ⟨NX, hNX⟩ : ∃ N, (KX1 + 1 - KX0).toNat = N := ⟨_, rfl⟩
                obtain ⟨NY, hNY⟩ : ∃ N, (KY1 + 1 - KY0).toNat = N := ⟨_, rfl⟩
                have hx1 : NX ≤ 200 := by omega
                have hy1 : NY ≤ 200 := by omega
                have hgl : ∀ k, k ≤ NY → k * NX ≤ 40000 := fun k hk => Nat.le_trans (Nat.mul_le_mul (Nat.le_trans hk hy1) hx1) (by decide)
                have HNX := Lib.hid hNX
                have HNY := Lib.hid hNY
                have HGL := Lib.hid hgl
                have HGS : Hid (gridF (spB x0 y0 x1 y1 x y d lo hi) KX0 KY0 NX NY = swX x0 y0 x1 y1 x y d lo hi) := Lib.hid (grid_sw HO.out (by rw [HFX.out]; omega) (by rw [HGX.out]; omega) (by rw [HFX.out]; omega) (by rw [HGX.out]; omega) (by rw [HFY.out]; omega) (by rw [HGY.out]; omega) (by rw [HFY.out]; omega) (by rw [HGY.out]; omega) bMX0l bMX2h bMX1l bMX3h kx1 kx2 ky1 ky2 kx4 kx3 ky4 ky3 hNX hNY)
                clear hNX hNY hgl
                have H16 := Lib.hid (fun w => (HAR.out w))
                obtain ⟨HB, B_z0, B_z1⟩ := box2 w 45 #[.int .i64 x0, .int .i64 y0, .int .i64 x1, .int .i64 y1] 59 #[.int .i64 x, .int .i64 y, .int .i64 d]
                go_enter Try.func44, Try.ntmps44
                go_upto_region 1 with (fail)
                generalize (w.alloc (.cells #[.int .i64 x0, .int .i64 y0, .int .i64 x1, .int .i64 y1] 45)).alloc (.cells #[.int .i64 x, .int .i64 y, .int .i64 d] 59) = W0 at *
                obtain ⟨c0z0, c1z0, c2z0, c3z0⟩ := cells4 B_z0
                go_wp2_with fail
                refine (H10.out _).mono ?_
                clear c0z0 c1z0 c2z0 c3z0
                rintro e w11 ⟨rfl, bb⟩
                replace bb := nextw (w0 := W0) (by exact sm) bb
                replace B_z0 := mv B_z0 bb
                replace B_z1 := mv B_z1 bb
                replace HB := nx HB bb
                clear bb
                obtain ⟨c0z1, c1z1, c2z1⟩ := cells3 B_z1
                go_wp2_with fail
                refine (H11.out _).mono ?_
                clear c0z1 c1z1 c2z1
                rintro e w12 ⟨rfl, bb⟩
                replace bb := nextw (w0 := w11) (by exact sm) bb
                replace B_z0 := mv B_z0 bb
                replace B_z1 := mv B_z1 bb
                replace HB := nx HB bb
                clear bb
                obtain ⟨c0z0, c1z0, c2z0, c3z0⟩ := cells4 B_z0
                go_upto_region 7 with (fail)
                clear c0z0 c1z0 c2z0 c3z0
                have wq7x0 : IntKind.i64.wrap (lo * x) = lo * x := by rw [IntKind.wrap_i64]; omega
                have wq7x1 : IntKind.i64.wrap (hi * x) = hi * x := by rw [IntKind.wrap_i64]; omega
                obtain ⟨c0z1, -, c2z1⟩ := cells3 B_z1
                have tk1x0 : True := trivial
                go_region_held3 (fun w' => w'.cell? ⟨w.heap.size + 1, 0, none⟩ = some (.int .i64 x) ∧ w'.cell? ⟨w.heap.size + 1, 2, none⟩ = some (.int .i64 d)) (((try dsimp only); (repeat' apply And.intro) <;> (first | (with_reducible assumption) | ((repeat (first | (with_reducible refine Eq.trans (cell_drew1 _ _) ?_) | (with_reducible refine Eq.trans (cell_far (by omega) _ _ _) ?_) | (with_reducible refine Eq.trans (World.cell?_alloc_lt _ _ _ (by first | (dsimp only; omega) | (simp only [World.size_alloc, World.size_setCell]; omega))) ?_))); with_reducible assumption) | assumption | go_keep)))
    (first
      | (clear tk1x0; go_at_call 68; refine (H12.out _).mono ?_; rintro e w13 ⟨rfl, bb⟩; replace bb := nextw (w0 := w12) (by exact sm) bb; replace B_z0 := mv B_z0 bb; replace B_z1 := mv B_z1 bb; replace HB := nx HB bb; clear bb c0z1 c2z1; have c0z1 : w13.cell? ⟨w.heap.size + 1, 0, none⟩ = some (.int .i64 x) := B_z1.out.cell 0 rfl; have c2z1 : w13.cell? ⟨w.heap.size + 1, 2, none⟩ = some (.int .i64 d) := B_z1.out.cell 2 rfl; have tk1x1 : True := trivial)
      | (clear tk1x1; go_at_call 68; refine (H13.out _).mono ?_; rintro e w14 ⟨rfl, bb⟩; replace bb := nextw (w0 := w13) (by exact sm) bb; replace B_z0 := mv B_z0 bb; replace B_z1 := mv B_z1 bb; replace HB := nx HB bb; clear bb c0z1 c2z1; have c0z1 : w14.cell? ⟨w.heap.size + 1, 0, none⟩ = some (.int .i64 x) := B_z1.out.cell 0 rfl; have c2z1 : w14.cell? ⟨w.heap.size + 1, 2, none⟩ = some (.int .i64 d) := B_z1.out.cell 2 rfl; have tk1x2 : True := trivial))
                clear c0z1 c2z1
                go_upto_region 8 with (fail)
                have wq8x0 : IntKind.i64.wrap (lo * y) = lo * y := by rw [IntKind.wrap_i64]; omega
                have wq8x1 : IntKind.i64.wrap (hi * y) = hi * y := by rw [IntKind.wrap_i64]; omega
                obtain ⟨-, c1z1, c2z1⟩ := cells3 B_z1
                have tk2x0 : True := trivial
                go_region_held3 (fun w' => w'.cell? ⟨w.heap.size + 1, 1, none⟩ = some (.int .i64 y) ∧ w'.cell? ⟨w.heap.size + 1, 2, none⟩ = some (.int .i64 d)) (((try dsimp only); (repeat' apply And.intro) <;> (first | (with_reducible assumption) | ((repeat (first | (with_reducible refine Eq.trans (cell_drew1 _ _) ?_) | (with_reducible refine Eq.trans (cell_far (by omega) _ _ _) ?_) | (with_reducible refine Eq.trans (World.cell?_alloc_lt _ _ _ (by first | (dsimp only; omega) | (simp only [World.size_alloc, World.size_setCell]; omega))) ?_))); with_reducible assumption) | assumption | go_keep)))
    (first
      | (clear tk2x0; go_at_call 68; refine (H14.out _).mono ?_; rintro e w15 ⟨rfl, bb⟩; replace bb := nextw (w0 := w14) (by exact sm) bb; replace B_z0 := mv B_z0 bb; replace B_z1 := mv B_z1 bb; replace HB := nx HB bb; clear bb c1z1 c2z1; have c1z1 : w15.cell? ⟨w.heap.size + 1, 1, none⟩ = some (.int .i64 y) := B_z1.out.cell 1 rfl; have c2z1 : w15.cell? ⟨w.heap.size + 1, 2, none⟩ = some (.int .i64 d) := B_z1.out.cell 2 rfl; have tk2x1 : True := trivial)
      | (clear tk2x1; go_at_call 68; refine (H15.out _).mono ?_; rintro e w16 ⟨rfl, bb⟩; replace bb := nextw (w0 := w15) (by exact sm) bb; replace B_z0 := mv B_z0 bb; replace B_z1 := mv B_z1 bb; replace HB := nx HB bb; clear bb c1z1 c2z1; have c1z1 : w16.cell? ⟨w.heap.size + 1, 1, none⟩ = some (.int .i64 y) := B_z1.out.cell 1 rfl; have c2z1 : w16.cell? ⟨w.heap.size + 1, 2, none⟩ = some (.int .i64 d) := B_z1.out.cell 2 rfl; have tk2x2 : True := trivial))
                clear c1z1 c2z1
                have mxo0 := mx0.out
                have mxo1 := mx1.out
                have mxo2 := mx2.out
                have mxo3 := mx3.out
                obtain ⟨c0z0, c1z0, c2z0, c3z0⟩ := cells4 B_z0
                go_wp2_with fail
                refine (H16.out _).mono ?_
                clear c0z0 c1z0 c2z0 c3z0
                rintro e w17 ⟨rfl, bb⟩
                replace bb := nextw (w0 := w16) (by exact sm) bb
                replace B_z0 := mv B_z0 bb
                replace B_z1 := mv B_z1 bb
                replace HB := nx HB bb
                clear bb
                have lt_z2z0 := B_z0.out.lt
                have lt_z2z1 := B_z1.out.lt
                obtain ⟨bb, B_z2⟩ := box1 w17 45 #[.int .i64 KX0, .int .i64 KY0, .int .i64 KX1, .int .i64 KY1]
                replace bb := bb.out
                replace B_z0 := mv B_z0 bb
                replace B_z1 := mv B_z1 bb
                replace HB := nx HB bb
                clear bb
                go_upto_region 10 with (fail)
                generalize w17.alloc (.cells #[.int .i64 KX0, .int .i64 KY0, .int .i64 KX1, .int .i64 KY1] 45) = WN9x338 at *
                obtain ⟨c0z2, c1z2, c2z2, c3z2⟩ := cells4 B_z2
                go_wp2_with fail
                clear c0z2 c1z2 c2z2 c3z2
                obtain ⟨base, hbase⟩ : ∃ base, base = WN9x338.heap.size := ⟨_, rfl⟩
                have HW : Hid (w.heap.size ≤ base) := by have := HB.out.size; unfold Hid; omega
                have LT_z0 : Hid (w.heap.size < base) := by have := B_z0.out.lt; unfold Hid; omega
                have LT_z1 : Hid (w.heap.size + 1 < base) := by have := B_z1.out.lt; unfold Hid; omega
                have LT_z2 : Hid (w17.heap.size < base) := by have := B_z2.out.lt; unfold Hid; omega
                have VR : Hid (OwnP WN9x338 base (.slice none 0 0) []) := Lib.hid (own_nil _ _)
                have HBS : Hid (base ≤ WN9x338.heap.size) := by unfold Hid; omega
                clear hbase
                go_loopw [15, 16] (fun a0 kk wx => ∃ (k : Nat), k ≤ NY ∧ kk = .int .i64 (KY0 + ((k : Nat) : Int)) ∧ Hid (OwnP wx base a0 (gridF (spB x0 y0 x1 y1 x y d lo hi) KX0 KY0 NX k)) ∧ Hid (base ≤ wx.heap.size) ∧ Hid (Bx wx (w.heap.size) 45 #[.int .i64 x0, .int .i64 y0, .int .i64 x1, .int .i64 y1]) ∧ Hid (Bx wx (w.heap.size + 1) 59 #[.int .i64 x, .int .i64 y, .int .i64 d]) ∧ Hid (Bx wx (w17.heap.size) 45 #[.int .i64 KX0, .int .i64 KY0, .int .i64 KX1, .int .i64 KY1]) ∧ Hid (Below w.heap.size w wx)) (fun _ kk _ => (KY1 + 1 - intOf kk).toNat)
                case atStart => exact ⟨0, by omega, congrArg (Value.int .i64) (by omega), VR, HBS, B_z0, B_z1, B_z2, HB⟩
                case round =>
                  clear VR HBS B_z0 B_z1 B_z2 HB
                  obtain ⟨k, hk, rfl, VR, HBS, B_z0, B_z1, B_z2, HB⟩ := hrel
                  by_cases hlt : k < NY
                  · skip
                    have hle0 : KY0 + ((k : Nat) : Int) ≤ KY1 := by have := HNY.out; omega
                    have hlk2 : (gridF (spB x0 y0 x1 y1 x y d lo hi) KX0 KY0 NX k).length + NX ≤ 40000 := by have h1 := gridF_len (spB x0 y0 x1 y1 x y d lo hi) KX0 KY0 NX k; have h2 := HGL.out (k + 1) hlt; rw [Nat.succ_mul] at h2; omega
                    have HSK : Hid (gridF (spB x0 y0 x1 y1 x y d lo hi) KX0 KY0 NX (k + 1) = gridF (spB x0 y0 x1 y1 x y d lo hi) KX0 KY0 NX k ++ rowF (spB x0 y0 x1 y1 x y d lo hi) (KY0 + ((k : Nat) : Int)) KX0 NX) := rfl
                    obtain ⟨Y, hY⟩ : ∃ Y, KY0 + ((k : Nat) : Int) = Y := ⟨_, rfl⟩
                    have hYa : KY0 ≤ Y := by omega
                    rw [hY] at HSK hle0 ⊢
                    have HY := Lib.hid hY
                    have hYb1 : -32768 ≤ Y := by omega
                    have hYb2 : Y ≤ 32768 := by omega
                    clear hY
                    obtain ⟨LK, hLK⟩ : ∃ l, gridF (spB x0 y0 x1 y1 x y d lo hi) KX0 KY0 NX k = l := ⟨_, rfl⟩
                    rw [hLK] at VR HSK hlk2
                    clear hLK
                    obtain ⟨c0z2, c1z2, c2z2, c3z2⟩ := cells4 B_z2
                    go_wp2_with fail
                    clear c0z2 c1z2 c2z2 c3z2
                    go_loopw [15, 17] (fun a0 kk wx => ∃ (j : Nat), j ≤ NX ∧ kk = .int .i64 (KX0 + ((j : Nat) : Int)) ∧ Hid (OwnP wx base a0 (LK ++ rowF (spB x0 y0 x1 y1 x y d lo hi) Y KX0 j)) ∧ Hid (base ≤ wx.heap.size) ∧ Hid (Bx wx (w.heap.size) 45 #[.int .i64 x0, .int .i64 y0, .int .i64 x1, .int .i64 y1]) ∧ Hid (Bx wx (w.heap.size + 1) 59 #[.int .i64 x, .int .i64 y, .int .i64 d]) ∧ Hid (Bx wx (w17.heap.size) 45 #[.int .i64 KX0, .int .i64 KY0, .int .i64 KX1, .int .i64 KY1]) ∧ Hid (Below w.heap.size w wx)) (fun _ kk _ => (KX1 + 1 - intOf kk).toNat)
                    case atStart => exact ⟨0, by omega, congrArg (Value.int .i64) (by omega), (own_cast VR (by simp [rowF])), HBS, B_z0, B_z1, B_z2, HB⟩
                    case round =>
                      clear VR HBS B_z0 B_z1 B_z2 HB
                      obtain ⟨j, hkj, rfl, VR, HBS, B_z0, B_z1, B_z2, HB⟩ := hrel
                      by_cases hltj : j < NX
                      · skip
                        have hle1 : KX0 + ((j : Nat) : Int) ≤ KX1 := by have := HNX.out; omega
                        have hrl := rowF_len (spB x0 y0 x1 y1 x y d lo hi) Y KX0 j
                        have hll2 : (LK ++ rowF (spB x0 y0 x1 y1 x y d lo hi) Y KX0 j).length ≤ 50000 := by rw [List.length_append]; omega
                        have HSJ : Hid (LK ++ rowF (spB x0 y0 x1 y1 x y d lo hi) Y KX0 (j + 1) = (LK ++ rowF (spB x0 y0 x1 y1 x y d lo hi) Y KX0 j) ++ (if spB x0 y0 x1 y1 x y d lo hi (KX0 + ((j : Nat) : Int)) Y = true then [(KX0 + ((j : Nat) : Int), Y)] else [])) := by unfold Hid; rw [List.append_assoc]; rfl
                        obtain ⟨X, hX⟩ : ∃ X, KX0 + ((j : Nat) : Int) = X := ⟨_, rfl⟩
                        have hXa : KX0 ≤ X := by omega
                        rw [hX] at HSJ hle1 ⊢
                        have HX := Lib.hid hX
                        have hXb1 : -32768 ≤ X := by omega
                        have hXb2 : X ≤ 32768 := by omega
                        clear hX hrl
                        obtain ⟨LJ, hLJ⟩ : ∃ l, LK ++ rowF (spB x0 y0 x1 y1 x y d lo hi) Y KX0 j = l := ⟨_, rfl⟩
                        rw [hLJ] at VR HSJ hll2
                        clear hLJ
                        have hell : LJ.length ≤ 300000 := by omega
                        by_cases dd9 : spB x0 y0 x1 y1 x y d lo hi X Y = true
                        · skip
                          have H17 := Lib.hid (fun w => BSquare_w0 X Y ⟨by omega, by omega⟩ ⟨by omega, by omega⟩ w)
                          have H18 := Lib.hid (fun w => RMinus_ok (X * 64) (Y * 64) ((X * 64) + 64) ((Y * 64) + 64) x0 y0 x1 y1 ⟨by omega, by omega, by omega, by omega, by omega, by omega, by omega, by omega, by omega, by omega⟩ ⟨by omega, by omega, by omega, by omega, by omega, by omega, by omega, by omega, by omega, by omega⟩ ⟨by omega, by omega, by omega, by omega, by omega, by omega, by omega, by omega, by omega, by omega⟩ w)
                          have H19 := Lib.hid (fun w => RMeets_sp x0 y0 x1 y1 x y d lo hi X Y w)
                          obtain ⟨c0z2, c1z2, c2z2, c3z2⟩ := cells4 B_z2
                          have sr_z3VR := Lib.hid (OwnP.lt VR.out)
                          have lt_z3z0 := B_z0.out.lt
                          have lt_z3z1 := B_z1.out.lt
                          have lt_z3z2 := B_z2.out.lt
                          obtain ⟨bb, B_z3⟩ := box1 wr 37 #[.int .i64 X, .int .i64 Y]
                          replace bb := bb.out
                          replace B_z0 := mv B_z0 bb
                          replace B_z1 := mv B_z1 bb
                          replace B_z2 := mv B_z2 bb
                          replace VR := Lib.hid (OwnP.below VR.out bb)
                          replace HBS := Lib.hid (lebel HBS.out bb)
                          replace HB := nx HB bb
                          clear bb
                          go_upto_region 18 with (fail)
                          clear c0z2 c1z2 c2z2 c3z2
                          generalize wr.alloc (.cells #[.int .i64 X, .int .i64 Y] 37) = WN17x410 at *
                          have hszPz4 : Hid (w.heap.size ≤ WN17x410.heap.size) := HB.out.size
                          go_cut [19, 20] (fun sv0 su0 wx => ∃ Pz4 : Nat, sv0 = (.pointer (some ⟨Pz4, 0, none⟩)) ∧ su0 = (.bool true) ∧ Hid (w.heap.size ≠ Pz4) ∧ Hid (w.heap.size + 1 ≠ Pz4) ∧ Hid (w17.heap.size ≠ Pz4) ∧ Hid (wr.heap.size ≠ Pz4) ∧ Hid (w.heap.size ≤ Pz4) ∧ Hid (Bx wx (Pz4) 45 #[.int .i64 ((X * 64) - x1), .int .i64 ((Y * 64) - y1), .int .i64 (((X * 64) + 64) - x0), .int .i64 (((Y * 64) + 64) - y0)]) ∧ Hid (Bx wx (w.heap.size) 45 #[.int .i64 x0, .int .i64 y0, .int .i64 x1, .int .i64 y1]) ∧ Hid (Bx wx (w.heap.size + 1) 59 #[.int .i64 x, .int .i64 y, .int .i64 d]) ∧ Hid (Bx wx (w17.heap.size) 45 #[.int .i64 KX0, .int .i64 KY0, .int .i64 KX1, .int .i64 KY1]) ∧ Hid (Bx wx (wr.heap.size) 37 #[.int .i64 X, .int .i64 Y]) ∧ Hid (OwnP wx base u15 (LJ)) ∧ Hid (base ≤ wx.heap.size) ∧ Hid (Below w.heap.size w wx))
                          case first =>
                            obtain ⟨c0z3, c1z3⟩ := cells2 B_z3
                            obtain ⟨c0z0, c1z0, c2z0, c3z0⟩ := cells4 B_z0
                            have tk3x0 : True := trivial
                            go_region_held3 (fun w' => w'.cell? ⟨wr.heap.size, 0, none⟩ = some (.int .i64 X) ∧ w'.cell? ⟨wr.heap.size, 1, none⟩ = some (.int .i64 Y) ∧ w'.cell? ⟨w.heap.size, 0, none⟩ = some (.int .i64 x0) ∧ w'.cell? ⟨w.heap.size, 1, none⟩ = some (.int .i64 y0) ∧ w'.cell? ⟨w.heap.size, 2, none⟩ = some (.int .i64 x1) ∧ w'.cell? ⟨w.heap.size, 3, none⟩ = some (.int .i64 y1)) (((try dsimp only); (repeat' apply And.intro) <;> (first | (with_reducible assumption) | ((repeat (first | (with_reducible refine Eq.trans (cell_drew1 _ _) ?_) | (with_reducible refine Eq.trans (cell_far (by omega) _ _ _) ?_) | (with_reducible refine Eq.trans (World.cell?_alloc_lt _ _ _ (by first | (dsimp only; omega) | (simp only [World.size_alloc, World.size_setCell]; omega))) ?_))); with_reducible assumption) | assumption | go_keep)))
    (first
      | (clear tk3x0; go_at_call 64; refine (H17.out _).mono ?_; rintro e w18 ⟨rfl, bb⟩; replace bb := nextr (w0 := WN17x410) bb (sm rfl rfl rfl (Nat.le_refl _) (fun _ _ => rfl)); replace B_z0 := mv B_z0 bb; replace B_z1 := mv B_z1 bb; replace B_z2 := mv B_z2 bb; replace B_z3 := mv B_z3 bb; replace VR := Lib.hid (OwnP.below VR.out bb); replace HBS := Lib.hid (lebel HBS.out bb); replace HB := nx HB bb; clear bb c0z3 c1z3 c0z0 c1z0 c2z0 c3z0; have c0z3 : w18.cell? ⟨wr.heap.size, 0, none⟩ = some (.int .i64 X) := B_z3.out.cell 0 rfl; have c1z3 : w18.cell? ⟨wr.heap.size, 1, none⟩ = some (.int .i64 Y) := B_z3.out.cell 1 rfl; have c0z0 : w18.cell? ⟨w.heap.size, 0, none⟩ = some (.int .i64 x0) := B_z0.out.cell 0 rfl; have c1z0 : w18.cell? ⟨w.heap.size, 1, none⟩ = some (.int .i64 y0) := B_z0.out.cell 1 rfl; have c2z0 : w18.cell? ⟨w.heap.size, 2, none⟩ = some (.int .i64 x1) := B_z0.out.cell 2 rfl; have c3z0 : w18.cell? ⟨w.heap.size, 3, none⟩ = some (.int .i64 y1) := B_z0.out.cell 3 rfl; have tk3x1 : True := trivial)
      | (clear tk3x0; go_at_call 64; refine (H17.out _).mono ?_; rintro e w18 ⟨rfl, bb⟩; replace bb := nextr (w0 := WN17x410.alloc (.cells #[.int .i64 0, .int .i64 0, .int .i64 0, .int .i64 0] 45)) bb (sm rfl rfl rfl (Nat.le_refl _) (fun _ _ => rfl)); have NN : Hid (w.heap.size ≤ WN17x410.heap.size ∧ w.heap.size ≠ WN17x410.heap.size ∧ w.heap.size + 1 ≠ WN17x410.heap.size ∧ w17.heap.size ≠ WN17x410.heap.size ∧ wr.heap.size ≠ WN17x410.heap.size) := (by have lx_z0 := B_z0.out.lt; have lx_z1 := B_z1.out.lt; have lx_z2 := B_z2.out.lt; have lx_z3 := B_z3.out.lt; have hs := HB.out.size; unfold Hid; omega); have nnO := NN.out; have SR_VR := Lib.hid (OwnP.lt VR.out); have N := newB bb; replace bb := nextw (alB WN17x410 (.cells #[.int .i64 0, .int .i64 0, .int .i64 0, .int .i64 0] 45)) bb; replace B_z0 := mv B_z0 bb; replace B_z1 := mv B_z1 bb; replace B_z2 := mv B_z2 bb; replace B_z3 := mv B_z3 bb; replace VR := Lib.hid (OwnP.below VR.out bb); replace HBS := Lib.hid (lebel HBS.out bb); replace HB := nx HB bb; clear bb c0z3 c1z3 c0z0 c1z0 c2z0 c3z0; have c0z3 : w18.cell? ⟨wr.heap.size, 0, none⟩ = some (.int .i64 X) := B_z3.out.cell 0 rfl; have c1z3 : w18.cell? ⟨wr.heap.size, 1, none⟩ = some (.int .i64 Y) := B_z3.out.cell 1 rfl; have c0z0 : w18.cell? ⟨w.heap.size, 0, none⟩ = some (.int .i64 x0) := B_z0.out.cell 0 rfl; have c1z0 : w18.cell? ⟨w.heap.size, 1, none⟩ = some (.int .i64 y0) := B_z0.out.cell 1 rfl; have c2z0 : w18.cell? ⟨w.heap.size, 2, none⟩ = some (.int .i64 x1) := B_z0.out.cell 2 rfl; have c3z0 : w18.cell? ⟨w.heap.size, 3, none⟩ = some (.int .i64 y1) := B_z0.out.cell 3 rfl; obtain ⟨cn0, cn1, cn2, cn3⟩ := cells4 N; obtain ⟨fn0, fn1, fn2, fn3⟩ := froz4 N; have tc3x1 : True := trivial)
      | (clear tc3x1; clear cn0 cn1 cn2 cn3 fn0 fn1 fn2 fn3; go_at_call 81; refine (H18.out _).mono ?_; rintro e w19 ⟨rfl, bb⟩; replace bb := nextr (w0 := w18) bb (sm rfl rfl rfl (Nat.le_refl _) (fun _ _ => rfl)); replace N := mv N bb; replace B_z0 := mv B_z0 bb; replace B_z1 := mv B_z1 bb; replace B_z2 := mv B_z2 bb; replace B_z3 := mv B_z3 bb; replace VR := Lib.hid (OwnP.below VR.out bb); replace HBS := Lib.hid (lebel HBS.out bb); replace HB := nx HB bb; clear bb c0z3 c1z3 c0z0 c1z0 c2z0 c3z0; have c0z3 : w19.cell? ⟨wr.heap.size, 0, none⟩ = some (.int .i64 X) := B_z3.out.cell 0 rfl; have c1z3 : w19.cell? ⟨wr.heap.size, 1, none⟩ = some (.int .i64 Y) := B_z3.out.cell 1 rfl; have c0z0 : w19.cell? ⟨w.heap.size, 0, none⟩ = some (.int .i64 x0) := B_z0.out.cell 0 rfl; have c1z0 : w19.cell? ⟨w.heap.size, 1, none⟩ = some (.int .i64 y0) := B_z0.out.cell 1 rfl; have c2z0 : w19.cell? ⟨w.heap.size, 2, none⟩ = some (.int .i64 x1) := B_z0.out.cell 2 rfl; have c3z0 : w19.cell? ⟨w.heap.size, 3, none⟩ = some (.int .i64 y1) := B_z0.out.cell 3 rfl; obtain ⟨cn0, cn1, cn2, cn3⟩ := cells4 N; obtain ⟨fn0, fn1, fn2, fn3⟩ := froz4 N; have tc3x2 : True := trivial)
      | (clear tk3x1; go_at_call 81; refine (H18.out _).mono ?_; rintro e w19 ⟨rfl, bb⟩; replace bb := nextr (w0 := w18) bb (sm rfl rfl rfl (Nat.le_refl _) (fun _ _ => rfl)); replace B_z0 := mv B_z0 bb; replace B_z1 := mv B_z1 bb; replace B_z2 := mv B_z2 bb; replace B_z3 := mv B_z3 bb; replace VR := Lib.hid (OwnP.below VR.out bb); replace HBS := Lib.hid (lebel HBS.out bb); replace HB := nx HB bb; clear bb c0z3 c1z3 c0z0 c1z0 c2z0 c3z0; have c0z3 : w19.cell? ⟨wr.heap.size, 0, none⟩ = some (.int .i64 X) := B_z3.out.cell 0 rfl; have c1z3 : w19.cell? ⟨wr.heap.size, 1, none⟩ = some (.int .i64 Y) := B_z3.out.cell 1 rfl; have c0z0 : w19.cell? ⟨w.heap.size, 0, none⟩ = some (.int .i64 x0) := B_z0.out.cell 0 rfl; have c1z0 : w19.cell? ⟨w.heap.size, 1, none⟩ = some (.int .i64 y0) := B_z0.out.cell 1 rfl; have c2z0 : w19.cell? ⟨w.heap.size, 2, none⟩ = some (.int .i64 x1) := B_z0.out.cell 2 rfl; have c3z0 : w19.cell? ⟨w.heap.size, 3, none⟩ = some (.int .i64 y1) := B_z0.out.cell 3 rfl; have tk3x2 : True := trivial)
      | (clear tk3x1; go_at_call 81; refine (H18.out _).mono ?_; rintro e w19 ⟨rfl, bb⟩; replace bb := nextr (w0 := w18.alloc (.cells #[.int .i64 0, .int .i64 0, .int .i64 0, .int .i64 0] 45)) bb (sm rfl rfl rfl (Nat.le_refl _) (fun _ _ => rfl)); have NN : Hid (w.heap.size ≤ w18.heap.size ∧ w.heap.size ≠ w18.heap.size ∧ w.heap.size + 1 ≠ w18.heap.size ∧ w17.heap.size ≠ w18.heap.size ∧ wr.heap.size ≠ w18.heap.size) := (by have lx_z0 := B_z0.out.lt; have lx_z1 := B_z1.out.lt; have lx_z2 := B_z2.out.lt; have lx_z3 := B_z3.out.lt; have hs := HB.out.size; unfold Hid; omega); have nnO := NN.out; have SR_VR := Lib.hid (OwnP.lt VR.out); have N := newB bb; replace bb := nextw (alB w18 (.cells #[.int .i64 0, .int .i64 0, .int .i64 0, .int .i64 0] 45)) bb; replace B_z0 := mv B_z0 bb; replace B_z1 := mv B_z1 bb; replace B_z2 := mv B_z2 bb; replace B_z3 := mv B_z3 bb; replace VR := Lib.hid (OwnP.below VR.out bb); replace HBS := Lib.hid (lebel HBS.out bb); replace HB := nx HB bb; clear bb c0z3 c1z3 c0z0 c1z0 c2z0 c3z0; have c0z3 : w19.cell? ⟨wr.heap.size, 0, none⟩ = some (.int .i64 X) := B_z3.out.cell 0 rfl; have c1z3 : w19.cell? ⟨wr.heap.size, 1, none⟩ = some (.int .i64 Y) := B_z3.out.cell 1 rfl; have c0z0 : w19.cell? ⟨w.heap.size, 0, none⟩ = some (.int .i64 x0) := B_z0.out.cell 0 rfl; have c1z0 : w19.cell? ⟨w.heap.size, 1, none⟩ = some (.int .i64 y0) := B_z0.out.cell 1 rfl; have c2z0 : w19.cell? ⟨w.heap.size, 2, none⟩ = some (.int .i64 x1) := B_z0.out.cell 2 rfl; have c3z0 : w19.cell? ⟨w.heap.size, 3, none⟩ = some (.int .i64 y1) := B_z0.out.cell 3 rfl; obtain ⟨cn0, cn1, cn2, cn3⟩ := cells4 N; obtain ⟨fn0, fn1, fn2, fn3⟩ := froz4 N; have tc3x2 : True := trivial))
                            all_goals go_wp2_with fail
                            all_goals go_meet
                            all_goals first
                                | (refine ⟨w19.heap.size, rfl, rfl, ?_⟩; have lx_z0 := B_z0.out.lt; have lx_z1 := B_z1.out.lt; have lx_z2 := B_z2.out.lt; have lx_z3 := B_z3.out.lt; obtain ⟨bb, b0⟩ := box1 w19 45 #[.int .i64 ((X * 64) - x1), .int .i64 ((Y * 64) - y1), .int .i64 (((X * 64) + 64) - x0), .int .i64 (((Y * 64) + 64) - y0)]; replace bb := bb.out; have hs := HB.out.size; exact ⟨(by unfold Hid; omega), (by unfold Hid; omega), (by unfold Hid; omega), (by unfold Hid; omega), (by unfold Hid; omega), mv b0 sm, mv (mv B_z0 bb) sm, mv (mv B_z1 bb) sm, mv (mv B_z2 bb) sm, mv (mv B_z3 bb) sm, Lib.hid (OwnP.below (OwnP.below VR.out bb) sm), Lib.hid (lebel (lebel HBS.out bb) sm), nx (nx HB bb) sm⟩)
                                | (refine ⟨WN17x410.heap.size, rfl, rfl, ?_⟩; obtain ⟨hl, h0, h1, h2, h3⟩ := NN.out; exact ⟨Lib.hid h0, Lib.hid h1, Lib.hid h2, Lib.hid h3, Lib.hid hl, mv (stor4 N (.int .i64 ((X * 64) - x1)) (.int .i64 ((Y * 64) - y1)) (.int .i64 (((X * 64) + 64) - x0)) (.int .i64 (((Y * 64) + 64) - y0))) sm, mv (far4 B_z0 h0 0 (.int .i64 ((X * 64) - x1)) 1 (.int .i64 ((Y * 64) - y1)) 2 (.int .i64 (((X * 64) + 64) - x0)) 3 (.int .i64 (((Y * 64) + 64) - y0))) sm, mv (far4 B_z1 h1 0 (.int .i64 ((X * 64) - x1)) 1 (.int .i64 ((Y * 64) - y1)) 2 (.int .i64 (((X * 64) + 64) - x0)) 3 (.int .i64 (((Y * 64) + 64) - y0))) sm, mv (far4 B_z2 h2 0 (.int .i64 ((X * 64) - x1)) 1 (.int .i64 ((Y * 64) - y1)) 2 (.int .i64 (((X * 64) + 64) - x0)) 3 (.int .i64 (((Y * 64) + 64) - y0))) sm, mv (far4 B_z3 h3 0 (.int .i64 ((X * 64) - x1)) 1 (.int .i64 ((Y * 64) - y1)) 2 (.int .i64 (((X * 64) + 64) - x0)) 3 (.int .i64 (((Y * 64) + 64) - y0))) sm, Lib.hid (OwnP.below (OwnP.farS (OwnP.farS (OwnP.farS (OwnP.farS VR.out SR_VR.out (Nat.le_refl _) 0 (.int .i64 ((X * 64) - x1))) SR_VR.out (Nat.le_refl _) 1 (.int .i64 ((Y * 64) - y1))) SR_VR.out (Nat.le_refl _) 2 (.int .i64 (((X * 64) + 64) - x0))) SR_VR.out (Nat.le_refl _) 3 (.int .i64 (((Y * 64) + 64) - y0))) sm), Lib.hid (lebel (lebelS (lebelS (lebelS (lebelS HBS.out ⟨WN17x410.heap.size, 0, none⟩ (.int .i64 ((X * 64) - x1))) ⟨WN17x410.heap.size, 1, none⟩ (.int .i64 ((Y * 64) - y1))) ⟨WN17x410.heap.size, 2, none⟩ (.int .i64 (((X * 64) + 64) - x0))) ⟨WN17x410.heap.size, 3, none⟩ (.int .i64 (((Y * 64) + 64) - y0))) sm), nx (stb4 HB hl 0 (.int .i64 ((X * 64) - x1)) 1 (.int .i64 ((Y * 64) - y1)) 2 (.int .i64 (((X * 64) + 64) - x0)) 3 (.int .i64 (((Y * 64) + 64) - y0))) sm⟩)
                                | (refine ⟨w18.heap.size, rfl, rfl, ?_⟩; obtain ⟨hl, h0, h1, h2, h3⟩ := NN.out; exact ⟨Lib.hid h0, Lib.hid h1, Lib.hid h2, Lib.hid h3, Lib.hid hl, mv (stor4 N (.int .i64 ((X * 64) - x1)) (.int .i64 ((Y * 64) - y1)) (.int .i64 (((X * 64) + 64) - x0)) (.int .i64 (((Y * 64) + 64) - y0))) sm, mv (far4 B_z0 h0 0 (.int .i64 ((X * 64) - x1)) 1 (.int .i64 ((Y * 64) - y1)) 2 (.int .i64 (((X * 64) + 64) - x0)) 3 (.int .i64 (((Y * 64) + 64) - y0))) sm, mv (far4 B_z1 h1 0 (.int .i64 ((X * 64) - x1)) 1 (.int .i64 ((Y * 64) - y1)) 2 (.int .i64 (((X * 64) + 64) - x0)) 3 (.int .i64 (((Y * 64) + 64) - y0))) sm, mv (far4 B_z2 h2 0 (.int .i64 ((X * 64) - x1)) 1 (.int .i64 ((Y * 64) - y1)) 2 (.int .i64 (((X * 64) + 64) - x0)) 3 (.int .i64 (((Y * 64) + 64) - y0))) sm, mv (far4 B_z3 h3 0 (.int .i64 ((X * 64) - x1)) 1 (.int .i64 ((Y * 64) - y1)) 2 (.int .i64 (((X * 64) + 64) - x0)) 3 (.int .i64 (((Y * 64) + 64) - y0))) sm, Lib.hid (OwnP.below (OwnP.farS (OwnP.farS (OwnP.farS (OwnP.farS VR.out SR_VR.out (Nat.le_refl _) 0 (.int .i64 ((X * 64) - x1))) SR_VR.out (Nat.le_refl _) 1 (.int .i64 ((Y * 64) - y1))) SR_VR.out (Nat.le_refl _) 2 (.int .i64 (((X * 64) + 64) - x0))) SR_VR.out (Nat.le_refl _) 3 (.int .i64 (((Y * 64) + 64) - y0))) sm), Lib.hid (lebel (lebelS (lebelS (lebelS (lebelS HBS.out ⟨w18.heap.size, 0, none⟩ (.int .i64 ((X * 64) - x1))) ⟨w18.heap.size, 1, none⟩ (.int .i64 ((Y * 64) - y1))) ⟨w18.heap.size, 2, none⟩ (.int .i64 (((X * 64) + 64) - x0))) ⟨w18.heap.size, 3, none⟩ (.int .i64 (((Y * 64) + 64) - y0))) sm), nx (stb4 HB hl 0 (.int .i64 ((X * 64) - x1)) 1 (.int .i64 ((Y * 64) - y1)) 2 (.int .i64 (((X * 64) + 64) - x0)) 3 (.int .i64 (((Y * 64) + 64) - y0))) sm⟩)
                          case rest =>
                            clear B_z0
                            clear B_z1
                            clear B_z2
                            clear B_z3
                            clear VR
                            clear HBS
                            clear HB
                            rename World => wc20
                            obtain ⟨Pz4, rfl, rfl, noz0Pz4, noz1Pz4, noz2Pz4, noz3Pz4, lePz4, B_z4, B_z0, B_z1, B_z2, B_z3, VR, HBS, HB⟩ := hcut
                            have lePz4' := lePz4.out
                            obtain ⟨c0z1, c1z1, c2z1⟩ := cells3 B_z1
                            obtain ⟨c0z4, c1z4, c2z4, c3z4⟩ := cells4 B_z4
                            go_wp2_with fail
                            refine (H19.out _).mono ?_
                            clear c0z1 c1z1 c2z1 c0z4 c1z4 c2z4 c3z4
                            rintro e w21 ⟨rfl, bb⟩
                            replace bb := nextw (w0 := wc20) (by exact sm) bb
                            replace B_z0 := mv B_z0 bb
                            replace B_z1 := mv B_z1 bb
                            replace B_z2 := mv B_z2 bb
                            replace B_z3 := mv B_z3 bb
                            replace B_z4 := mv B_z4 bb
                            replace VR := Lib.hid (OwnP.below VR.out bb)
                            replace HBS := Lib.hid (lebel HBS.out bb)
                            replace HB := nx HB bb
                            clear bb
                            obtain ⟨c0z3, c1z3⟩ := cells2 B_z3
                            have HG := Lib.hid (fun wzz (hg : (w21.alloc (.cells #[.int .i64 X, .int .i64 Y] 37)).grownBy wzz (Value.ownBlock u15)) => grown_below VR.out HBS.out hg)
                            go_wp2_with (at_builtin; refine wpList_append_own _ rfl _ _ 50 rfl base 37 i0 (.agg #[.int .i64 0, .int .i64 0]) 2 16 Try.underlying50 HI.out hz0 hz1 hz2 rfl (by decide) u15 (LJ).length (pts (LJ)) rfl (VR.out.alloc _) ⟨w21.heap.size, 0, none⟩ 1 1 (pts [(X, Y)]) rfl rfl (new_pt w21 _ _) (pts_one _) (by simp only [maxLen]; omega) (by omega) (by have := HBS.out; simp; omega) ?_; intro va22 wa22 hown3 hgrow3 hnil3; have HX3 := Lib.hid hown3; have HY3 := Lib.hid (HG.out _ hgrow3); clear hown3 hgrow3 hnil3)
                            have VRn : Hid (OwnP wa22 base va22 (LJ ++ [(X, Y)])) := by have h := HX3.out; rw [pts_append] at h; unfold Hid OwnP; rw [List.length_append]; exact h
                            replace B_z0 := Lib.hid (Bx.below B_z0.out HY3.out LT_z0.out)
                            replace B_z1 := Lib.hid (Bx.below B_z1.out HY3.out LT_z1.out)
                            replace B_z2 := Lib.hid (Bx.below B_z2.out HY3.out LT_z2.out)
                            replace HB := Lib.hid (HB.out.trans (HY3.out.mono HW.out))
                            replace HBS := Lib.hid (Nat.le_trans HBS.out HY3.out.size)
                            clear HX3 HY3 HG
                            clear B_z3
                            clear B_z4
                            clear VR
                            have VR := VRn
                            clear VRn
                            go_wp2_with fail
                            go_roundw
                            case rel => exact ⟨j + 1, by omega, congrArg (Value.int .i64) (by have := HX.out; omega), (own_cast VR (by rw [HSJ.out, if_pos dd9])), HBS, B_z0, B_z1, B_z2, HB⟩
                            case measure => simp only [intOf]; have := HX.out; omega
                        · skip
                          have H20 := Lib.hid (fun w => BSquare_w0 X Y ⟨by omega, by omega⟩ ⟨by omega, by omega⟩ w)
                          have H21 := Lib.hid (fun w => RMinus_ok (X * 64) (Y * 64) ((X * 64) + 64) ((Y * 64) + 64) x0 y0 x1 y1 ⟨by omega, by omega, by omega, by omega, by omega, by omega, by omega, by omega, by omega, by omega⟩ ⟨by omega, by omega, by omega, by omega, by omega, by omega, by omega, by omega, by omega, by omega⟩ ⟨by omega, by omega, by omega, by omega, by omega, by omega, by omega, by omega, by omega, by omega⟩ w)
                          have H22 := Lib.hid (fun w => RMeets_sp x0 y0 x1 y1 x y d lo hi X Y w)
                          obtain ⟨c0z2, c1z2, c2z2, c3z2⟩ := cells4 B_z2
                          have sr_z3VR := Lib.hid (OwnP.lt VR.out)
                          have lt_z3z0 := B_z0.out.lt
                          have lt_z3z1 := B_z1.out.lt
                          have lt_z3z2 := B_z2.out.lt
                          obtain ⟨bb, B_z3⟩ := box1 wr 37 #[.int .i64 X, .int .i64 Y]
                          replace bb := bb.out
                          replace B_z0 := mv B_z0 bb
                          replace B_z1 := mv B_z1 bb
                          replace B_z2 := mv B_z2 bb
                          replace VR := Lib.hid (OwnP.below VR.out bb)
                          replace HBS := Lib.hid (lebel HBS.out bb)
                          replace HB := nx HB bb
                          clear bb
                          go_upto_region 18 with (fail)
                          clear c0z2 c1z2 c2z2 c3z2
                          generalize wr.alloc (.cells #[.int .i64 X, .int .i64 Y] 37) = WN17x488 at *
                          have hszPz4 : Hid (w.heap.size ≤ WN17x488.heap.size) := HB.out.size
                          go_cut [19, 20] (fun sv0 su0 wx => ∃ Pz4 : Nat, sv0 = (.pointer (some ⟨Pz4, 0, none⟩)) ∧ su0 = (.bool true) ∧ Hid (w.heap.size ≠ Pz4) ∧ Hid (w.heap.size + 1 ≠ Pz4) ∧ Hid (w17.heap.size ≠ Pz4) ∧ Hid (wr.heap.size ≠ Pz4) ∧ Hid (w.heap.size ≤ Pz4) ∧ Hid (Bx wx (Pz4) 45 #[.int .i64 ((X * 64) - x1), .int .i64 ((Y * 64) - y1), .int .i64 (((X * 64) + 64) - x0), .int .i64 (((Y * 64) + 64) - y0)]) ∧ Hid (Bx wx (w.heap.size) 45 #[.int .i64 x0, .int .i64 y0, .int .i64 x1, .int .i64 y1]) ∧ Hid (Bx wx (w.heap.size + 1) 59 #[.int .i64 x, .int .i64 y, .int .i64 d]) ∧ Hid (Bx wx (w17.heap.size) 45 #[.int .i64 KX0, .int .i64 KY0, .int .i64 KX1, .int .i64 KY1]) ∧ Hid (Bx wx (wr.heap.size) 37 #[.int .i64 X, .int .i64 Y]) ∧ Hid (OwnP wx base u15 (LJ)) ∧ Hid (base ≤ wx.heap.size) ∧ Hid (Below w.heap.size w wx))
                          case first =>
                            obtain ⟨c0z3, c1z3⟩ := cells2 B_z3
                            obtain ⟨c0z0, c1z0, c2z0, c3z0⟩ := cells4 B_z0
                            have tk4x0 : True := trivial
                            go_region_held3 (fun w' => w'.cell? ⟨wr.heap.size, 0, none⟩ = some (.int .i64 X) ∧ w'.cell? ⟨wr.heap.size, 1, none⟩ = some (.int .i64 Y) ∧ w'.cell? ⟨w.heap.size, 0, none⟩ = some (.int .i64 x0) ∧ w'.cell? ⟨w.heap.size, 1, none⟩ = some (.int .i64 y0) ∧ w'.cell? ⟨w.heap.size, 2, none⟩ = some (.int .i64 x1) ∧ w'.cell? ⟨w.heap.size, 3, none⟩ = some (.int .i64 y1)) (((try dsimp only); (repeat' apply And.intro) <;> (first | (with_reducible assumption) | ((repeat (first | (with_reducible refine Eq.trans (cell_drew1 _ _) ?_) | (with_reducible refine Eq.trans (cell_far (by omega) _ _ _) ?_) | (with_reducible refine Eq.trans (World.cell?_alloc_lt _ _ _ (by first | (dsimp only; omega) | (simp only [World.size_alloc, World.size_setCell]; omega))) ?_))); with_reducible assumption) | assumption | go_keep)))
    (first
      | (clear tk4x0; go_at_call 64; refine (H20.out _).mono ?_; rintro e w23 ⟨rfl, bb⟩; replace bb := nextr (w0 := WN17x488) bb (sm rfl rfl rfl (Nat.le_refl _) (fun _ _ => rfl)); replace B_z0 := mv B_z0 bb; replace B_z1 := mv B_z1 bb; replace B_z2 := mv B_z2 bb; replace B_z3 := mv B_z3 bb; replace VR := Lib.hid (OwnP.below VR.out bb); replace HBS := Lib.hid (lebel HBS.out bb); replace HB := nx HB bb; clear bb c0z3 c1z3 c0z0 c1z0 c2z0 c3z0; have c0z3 : w23.cell? ⟨wr.heap.size, 0, none⟩ = some (.int .i64 X) := B_z3.out.cell 0 rfl; have c1z3 : w23.cell? ⟨wr.heap.size, 1, none⟩ = some (.int .i64 Y) := B_z3.out.cell 1 rfl; have c0z0 : w23.cell? ⟨w.heap.size, 0, none⟩ = some (.int .i64 x0) := B_z0.out.cell 0 rfl; have c1z0 : w23.cell? ⟨w.heap.size, 1, none⟩ = some (.int .i64 y0) := B_z0.out.cell 1 rfl; have c2z0 : w23.cell? ⟨w.heap.size, 2, none⟩ = some (.int .i64 x1) := B_z0.out.cell 2 rfl; have c3z0 : w23.cell? ⟨w.heap.size, 3, none⟩ = some (.int .i64 y1) := B_z0.out.cell 3 rfl; have tk4x1 : True := trivial)
      | (clear tk4x0; go_at_call 64; refine (H20.out _).mono ?_; rintro e w23 ⟨rfl, bb⟩; replace bb := nextr (w0 := WN17x488.alloc (.cells #[.int .i64 0, .int .i64 0, .int .i64 0, .int .i64 0] 45)) bb (sm rfl rfl rfl (Nat.le_refl _) (fun _ _ => rfl)); have NN : Hid (w.heap.size ≤ WN17x488.heap.size ∧ w.heap.size ≠ WN17x488.heap.size ∧ w.heap.size + 1 ≠ WN17x488.heap.size ∧ w17.heap.size ≠ WN17x488.heap.size ∧ wr.heap.size ≠ WN17x488.heap.size) := (by have lx_z0 := B_z0.out.lt; have lx_z1 := B_z1.out.lt; have lx_z2 := B_z2.out.lt; have lx_z3 := B_z3.out.lt; have hs := HB.out.size; unfold Hid; omega); have nnO := NN.out; have SR_VR := Lib.hid (OwnP.lt VR.out); have N := newB bb; replace bb := nextw (alB WN17x488 (.cells #[.int .i64 0, .int .i64 0, .int .i64 0, .int .i64 0] 45)) bb; replace B_z0 := mv B_z0 bb; replace B_z1 := mv B_z1 bb; replace B_z2 := mv B_z2 bb; replace B_z3 := mv B_z3 bb; replace VR := Lib.hid (OwnP.below VR.out bb); replace HBS := Lib.hid (lebel HBS.out bb); replace HB := nx HB bb; clear bb c0z3 c1z3 c0z0 c1z0 c2z0 c3z0; have c0z3 : w23.cell? ⟨wr.heap.size, 0, none⟩ = some (.int .i64 X) := B_z3.out.cell 0 rfl; have c1z3 : w23.cell? ⟨wr.heap.size, 1, none⟩ = some (.int .i64 Y) := B_z3.out.cell 1 rfl; have c0z0 : w23.cell? ⟨w.heap.size, 0, none⟩ = some (.int .i64 x0) := B_z0.out.cell 0 rfl; have c1z0 : w23.cell? ⟨w.heap.size, 1, none⟩ = some (.int .i64 y0) := B_z0.out.cell 1 rfl; have c2z0 : w23.cell? ⟨w.heap.size, 2, none⟩ = some (.int .i64 x1) := B_z0.out.cell 2 rfl; have c3z0 : w23.cell? ⟨w.heap.size, 3, none⟩ = some (.int .i64 y1) := B_z0.out.cell 3 rfl; obtain ⟨cn0, cn1, cn2, cn3⟩ := cells4 N; obtain ⟨fn0, fn1, fn2, fn3⟩ := froz4 N; have tc4x1 : True := trivial)
      | (clear tc4x1; clear cn0 cn1 cn2 cn3 fn0 fn1 fn2 fn3; go_at_call 81; refine (H21.out _).mono ?_; rintro e w24 ⟨rfl, bb⟩; replace bb := nextr (w0 := w23) bb (sm rfl rfl rfl (Nat.le_refl _) (fun _ _ => rfl)); replace N := mv N bb; replace B_z0 := mv B_z0 bb; replace B_z1 := mv B_z1 bb; replace B_z2 := mv B_z2 bb; replace B_z3 := mv B_z3 bb; replace VR := Lib.hid (OwnP.below VR.out bb); replace HBS := Lib.hid (lebel HBS.out bb); replace HB := nx HB bb; clear bb c0z3 c1z3 c0z0 c1z0 c2z0 c3z0; have c0z3 : w24.cell? ⟨wr.heap.size, 0, none⟩ = some (.int .i64 X) := B_z3.out.cell 0 rfl; have c1z3 : w24.cell? ⟨wr.heap.size, 1, none⟩ = some (.int .i64 Y) := B_z3.out.cell 1 rfl; have c0z0 : w24.cell? ⟨w.heap.size, 0, none⟩ = some (.int .i64 x0) := B_z0.out.cell 0 rfl; have c1z0 : w24.cell? ⟨w.heap.size, 1, none⟩ = some (.int .i64 y0) := B_z0.out.cell 1 rfl; have c2z0 : w24.cell? ⟨w.heap.size, 2, none⟩ = some (.int .i64 x1) := B_z0.out.cell 2 rfl; have c3z0 : w24.cell? ⟨w.heap.size, 3, none⟩ = some (.int .i64 y1) := B_z0.out.cell 3 rfl; obtain ⟨cn0, cn1, cn2, cn3⟩ := cells4 N; obtain ⟨fn0, fn1, fn2, fn3⟩ := froz4 N; have tc4x2 : True := trivial)
      | (clear tk4x1; go_at_call 81; refine (H21.out _).mono ?_; rintro e w24 ⟨rfl, bb⟩; replace bb := nextr (w0 := w23) bb (sm rfl rfl rfl (Nat.le_refl _) (fun _ _ => rfl)); replace B_z0 := mv B_z0 bb; replace B_z1 := mv B_z1 bb; replace B_z2 := mv B_z2 bb; replace B_z3 := mv B_z3 bb; replace VR := Lib.hid (OwnP.below VR.out bb); replace HBS := Lib.hid (lebel HBS.out bb); replace HB := nx HB bb; clear bb c0z3 c1z3 c0z0 c1z0 c2z0 c3z0; have c0z3 : w24.cell? ⟨wr.heap.size, 0, none⟩ = some (.int .i64 X) := B_z3.out.cell 0 rfl; have c1z3 : w24.cell? ⟨wr.heap.size, 1, none⟩ = some (.int .i64 Y) := B_z3.out.cell 1 rfl; have c0z0 : w24.cell? ⟨w.heap.size, 0, none⟩ = some (.int .i64 x0) := B_z0.out.cell 0 rfl; have c1z0 : w24.cell? ⟨w.heap.size, 1, none⟩ = some (.int .i64 y0) := B_z0.out.cell 1 rfl; have c2z0 : w24.cell? ⟨w.heap.size, 2, none⟩ = some (.int .i64 x1) := B_z0.out.cell 2 rfl; have c3z0 : w24.cell? ⟨w.heap.size, 3, none⟩ = some (.int .i64 y1) := B_z0.out.cell 3 rfl; have tk4x2 : True := trivial)
      | (clear tk4x1; go_at_call 81; refine (H21.out _).mono ?_; rintro e w24 ⟨rfl, bb⟩; replace bb := nextr (w0 := w23.alloc (.cells #[.int .i64 0, .int .i64 0, .int .i64 0, .int .i64 0] 45)) bb (sm rfl rfl rfl (Nat.le_refl _) (fun _ _ => rfl)); have NN : Hid (w.heap.size ≤ w23.heap.size ∧ w.heap.size ≠ w23.heap.size ∧ w.heap.size + 1 ≠ w23.heap.size ∧ w17.heap.size ≠ w23.heap.size ∧ wr.heap.size ≠ w23.heap.size) := (by have lx_z0 := B_z0.out.lt; have lx_z1 := B_z1.out.lt; have lx_z2 := B_z2.out.lt; have lx_z3 := B_z3.out.lt; have hs := HB.out.size; unfold Hid; omega); have nnO := NN.out; have SR_VR := Lib.hid (OwnP.lt VR.out); have N := newB bb; replace bb := nextw (alB w23 (.cells #[.int .i64 0, .int .i64 0, .int .i64 0, .int .i64 0] 45)) bb; replace B_z0 := mv B_z0 bb; replace B_z1 := mv B_z1 bb; replace B_z2 := mv B_z2 bb; replace B_z3 := mv B_z3 bb; replace VR := Lib.hid (OwnP.below VR.out bb); replace HBS := Lib.hid (lebel HBS.out bb); replace HB := nx HB bb; clear bb c0z3 c1z3 c0z0 c1z0 c2z0 c3z0; have c0z3 : w24.cell? ⟨wr.heap.size, 0, none⟩ = some (.int .i64 X) := B_z3.out.cell 0 rfl; have c1z3 : w24.cell? ⟨wr.heap.size, 1, none⟩ = some (.int .i64 Y) := B_z3.out.cell 1 rfl; have c0z0 : w24.cell? ⟨w.heap.size, 0, none⟩ = some (.int .i64 x0) := B_z0.out.cell 0 rfl; have c1z0 : w24.cell? ⟨w.heap.size, 1, none⟩ = some (.int .i64 y0) := B_z0.out.cell 1 rfl; have c2z0 : w24.cell? ⟨w.heap.size, 2, none⟩ = some (.int .i64 x1) := B_z0.out.cell 2 rfl; have c3z0 : w24.cell? ⟨w.heap.size, 3, none⟩ = some (.int .i64 y1) := B_z0.out.cell 3 rfl; obtain ⟨cn0, cn1, cn2, cn3⟩ := cells4 N; obtain ⟨fn0, fn1, fn2, fn3⟩ := froz4 N; have tc4x2 : True := trivial))
                            all_goals go_wp2_with fail
                            all_goals go_meet
                            all_goals first
                                | (refine ⟨w24.heap.size, rfl, rfl, ?_⟩; have lx_z0 := B_z0.out.lt; have lx_z1 := B_z1.out.lt; have lx_z2 := B_z2.out.lt; have lx_z3 := B_z3.out.lt; obtain ⟨bb, b0⟩ := box1 w24 45 #[.int .i64 ((X * 64) - x1), .int .i64 ((Y * 64) - y1), .int .i64 (((X * 64) + 64) - x0), .int .i64 (((Y * 64) + 64) - y0)]; replace bb := bb.out; have hs := HB.out.size; exact ⟨(by unfold Hid; omega), (by unfold Hid; omega), (by unfold Hid; omega), (by unfold Hid; omega), (by unfold Hid; omega), mv b0 sm, mv (mv B_z0 bb) sm, mv (mv B_z1 bb) sm, mv (mv B_z2 bb) sm, mv (mv B_z3 bb) sm, Lib.hid (OwnP.below (OwnP.below VR.out bb) sm), Lib.hid (lebel (lebel HBS.out bb) sm), nx (nx HB bb) sm⟩)
                                | (refine ⟨WN17x488.heap.size, rfl, rfl, ?_⟩; obtain ⟨hl, h0, h1, h2, h3⟩ := NN.out; exact ⟨Lib.hid h0, Lib.hid h1, Lib.hid h2, Lib.hid h3, Lib.hid hl, mv (stor4 N (.int .i64 ((X * 64) - x1)) (.int .i64 ((Y * 64) - y1)) (.int .i64 (((X * 64) + 64) - x0)) (.int .i64 (((Y * 64) + 64) - y0))) sm, mv (far4 B_z0 h0 0 (.int .i64 ((X * 64) - x1)) 1 (.int .i64 ((Y * 64) - y1)) 2 (.int .i64 (((X * 64) + 64) - x0)) 3 (.int .i64 (((Y * 64) + 64) - y0))) sm, mv (far4 B_z1 h1 0 (.int .i64 ((X * 64) - x1)) 1 (.int .i64 ((Y * 64) - y1)) 2 (.int .i64 (((X * 64) + 64) - x0)) 3 (.int .i64 (((Y * 64) + 64) - y0))) sm, mv (far4 B_z2 h2 0 (.int .i64 ((X * 64) - x1)) 1 (.int .i64 ((Y * 64) - y1)) 2 (.int .i64 (((X * 64) + 64) - x0)) 3 (.int .i64 (((Y * 64) + 64) - y0))) sm, mv (far4 B_z3 h3 0 (.int .i64 ((X * 64) - x1)) 1 (.int .i64 ((Y * 64) - y1)) 2 (.int .i64 (((X * 64) + 64) - x0)) 3 (.int .i64 (((Y * 64) + 64) - y0))) sm, Lib.hid (OwnP.below (OwnP.farS (OwnP.farS (OwnP.farS (OwnP.farS VR.out SR_VR.out (Nat.le_refl _) 0 (.int .i64 ((X * 64) - x1))) SR_VR.out (Nat.le_refl _) 1 (.int .i64 ((Y * 64) - y1))) SR_VR.out (Nat.le_refl _) 2 (.int .i64 (((X * 64) + 64) - x0))) SR_VR.out (Nat.le_refl _) 3 (.int .i64 (((Y * 64) + 64) - y0))) sm), Lib.hid (lebel (lebelS (lebelS (lebelS (lebelS HBS.out ⟨WN17x488.heap.size, 0, none⟩ (.int .i64 ((X * 64) - x1))) ⟨WN17x488.heap.size, 1, none⟩ (.int .i64 ((Y * 64) - y1))) ⟨WN17x488.heap.size, 2, none⟩ (.int .i64 (((X * 64) + 64) - x0))) ⟨WN17x488.heap.size, 3, none⟩ (.int .i64 (((Y * 64) + 64) - y0))) sm), nx (stb4 HB hl 0 (.int .i64 ((X * 64) - x1)) 1 (.int .i64 ((Y * 64) - y1)) 2 (.int .i64 (((X * 64) + 64) - x0)) 3 (.int .i64 (((Y * 64) + 64) - y0))) sm⟩)
                                | (refine ⟨w23.heap.size, rfl, rfl, ?_⟩; obtain ⟨hl, h0, h1, h2, h3⟩ := NN.out; exact ⟨Lib.hid h0, Lib.hid h1, Lib.hid h2, Lib.hid h3, Lib.hid hl, mv (stor4 N (.int .i64 ((X * 64) - x1)) (.int .i64 ((Y * 64) - y1)) (.int .i64 (((X * 64) + 64) - x0)) (.int .i64 (((Y * 64) + 64) - y0))) sm, mv (far4 B_z0 h0 0 (.int .i64 ((X * 64) - x1)) 1 (.int .i64 ((Y * 64) - y1)) 2 (.int .i64 (((X * 64) + 64) - x0)) 3 (.int .i64 (((Y * 64) + 64) - y0))) sm, mv (far4 B_z1 h1 0 (.int .i64 ((X * 64) - x1)) 1 (.int .i64 ((Y * 64) - y1)) 2 (.int .i64 (((X * 64) + 64) - x0)) 3 (.int .i64 (((Y * 64) + 64) - y0))) sm, mv (far4 B_z2 h2 0 (.int .i64 ((X * 64) - x1)) 1 (.int .i64 ((Y * 64) - y1)) 2 (.int .i64 (((X * 64) + 64) - x0)) 3 (.int .i64 (((Y * 64) + 64) - y0))) sm, mv (far4 B_z3 h3 0 (.int .i64 ((X * 64) - x1)) 1 (.int .i64 ((Y * 64) - y1)) 2 (.int .i64 (((X * 64) + 64) - x0)) 3 (.int .i64 (((Y * 64) + 64) - y0))) sm, Lib.hid (OwnP.below (OwnP.farS (OwnP.farS (OwnP.farS (OwnP.farS VR.out SR_VR.out (Nat.le_refl _) 0 (.int .i64 ((X * 64) - x1))) SR_VR.out (Nat.le_refl _) 1 (.int .i64 ((Y * 64) - y1))) SR_VR.out (Nat.le_refl _) 2 (.int .i64 (((X * 64) + 64) - x0))) SR_VR.out (Nat.le_refl _) 3 (.int .i64 (((Y * 64) + 64) - y0))) sm), Lib.hid (lebel (lebelS (lebelS (lebelS (lebelS HBS.out ⟨w23.heap.size, 0, none⟩ (.int .i64 ((X * 64) - x1))) ⟨w23.heap.size, 1, none⟩ (.int .i64 ((Y * 64) - y1))) ⟨w23.heap.size, 2, none⟩ (.int .i64 (((X * 64) + 64) - x0))) ⟨w23.heap.size, 3, none⟩ (.int .i64 (((Y * 64) + 64) - y0))) sm), nx (stb4 HB hl 0 (.int .i64 ((X * 64) - x1)) 1 (.int .i64 ((Y * 64) - y1)) 2 (.int .i64 (((X * 64) + 64) - x0)) 3 (.int .i64 (((Y * 64) + 64) - y0))) sm⟩)
                          case rest =>
                            clear B_z0
                            clear B_z1
                            clear B_z2
                            clear B_z3
                            clear VR
                            clear HBS
                            clear HB
                            rename World => wc25
                            obtain ⟨Pz4, rfl, rfl, noz0Pz4, noz1Pz4, noz2Pz4, noz3Pz4, lePz4, B_z4, B_z0, B_z1, B_z2, B_z3, VR, HBS, HB⟩ := hcut
                            have lePz4' := lePz4.out
                            obtain ⟨c0z1, c1z1, c2z1⟩ := cells3 B_z1
                            obtain ⟨c0z4, c1z4, c2z4, c3z4⟩ := cells4 B_z4
                            go_wp2_with fail
                            refine (H22.out _).mono ?_
                            clear c0z1 c1z1 c2z1 c0z4 c1z4 c2z4 c3z4
                            rintro e w26 ⟨rfl, bb⟩
                            replace bb := nextw (w0 := wc25) (by exact sm) bb
                            replace B_z0 := mv B_z0 bb
                            replace B_z1 := mv B_z1 bb
                            replace B_z2 := mv B_z2 bb
                            replace B_z3 := mv B_z3 bb
                            replace B_z4 := mv B_z4 bb
                            replace VR := Lib.hid (OwnP.below VR.out bb)
                            replace HBS := Lib.hid (lebel HBS.out bb)
                            replace HB := nx HB bb
                            clear bb
                            go_wp2_with fail
                            go_roundw
                            case rel => exact ⟨j + 1, by omega, congrArg (Value.int .i64) (by have := HX.out; omega), (own_cast VR (by rw [HSJ.out, if_neg dd9, List.append_nil])), HBS, B_z0, B_z1, B_z2, HB⟩
                            case measure => simp only [intOf]; have := HX.out; omega
                      · skip
                        have hkn : NX = j := by omega
                        subst hkn
                        have hgt1 : ¬ (KX0 + ((NX : Nat) : Int) ≤ KX1) := by have := HNX.out; omega
                        obtain ⟨c0z2, c1z2, c2z2, c3z2⟩ := cells4 B_z2
                        go_wp2_with fail
                        clear c0z2 c1z2 c2z2 c3z2
                        go_roundw
                        case rel => exact ⟨k + 1, by omega, congrArg (Value.int .i64) (by have := HY.out; omega), (own_cast VR HSK.out.symm), HBS, B_z0, B_z1, B_z2, HB⟩
                        case measure => simp only [intOf]; have := HY.out; omega
                  · skip
                    have hkn : NY = k := by omega
                    subst hkn
                    have hgt : ¬ (KY0 + ((NY : Nat) : Int) ≤ KY1) := by have := HNY.out; omega
                    obtain ⟨c0z2, c1z2, c2z2, c3z2⟩ := cells4 B_z2
                    have HEr : Hid (swE x0 y0 x1 y1 x y d lo hi = 0) := swE_ok dd0 dd1 (by omega) (by omega) (by omega) (by omega) (by omega)
                    have HV : Hid (swV x0 y0 x1 y1 x y d lo hi = gridF (spB x0 y0 x1 y1 x y d lo hi) KX0 KY0 NX NY) := by unfold Hid; rw [swV_ok HEr.out, HGS.out]
                    obtain ⟨AR, cR, e1, p1, -⟩ := VR.out.pl
                    subst e1
                    have P1 := Lib.hid p1
                    clear p1
                    go_wp2_with fail
                    exact bodyPost_ret (v := .tuple #[.slice AR (gridF (spB x0 y0 x1 y1 x y d lo hi) KX0 KY0 NX NY).length cR, .int .i64 0]) (by simp [results, Try.results44, go_sem]) rfl ⟨AR, cR, (by rw [HV.out, HEr.out]), (by rw [HV.out]; exact PL.outw (PL.below P1.out (by exact sm)) HW.out), nextw HB.out (by exact sm)⟩
    · skip
      have H23 := Lib.hid (fun w => right_is x0 y0 x1 y1 w)
      have H24 := Lib.hid (fun w => BVector_is x y d w)
      obtain ⟨HB, B_z0, B_z1⟩ := box2 w 45 #[.int .i64 x0, .int .i64 y0, .int .i64 x1, .int .i64 y1] 59 #[.int .i64 x, .int .i64 y, .int .i64 d]
      go_enter Try.func44, Try.ntmps44
      go_upto_region 1 with (fail)
      generalize (w.alloc (.cells #[.int .i64 x0, .int .i64 y0, .int .i64 x1, .int .i64 y1] 45)).alloc (.cells #[.int .i64 x, .int .i64 y, .int .i64 d] 59) = W0 at *
      obtain ⟨c0z0, c1z0, c2z0, c3z0⟩ := cells4 B_z0
      go_wp2_with fail
      refine (H23.out _).mono ?_
      clear c0z0 c1z0 c2z0 c3z0
      rintro e w27 ⟨rfl, bb⟩
      replace bb := nextw (w0 := W0) (by exact sm) bb
      replace B_z0 := mv B_z0 bb
      replace B_z1 := mv B_z1 bb
      replace HB := nx HB bb
      clear bb
      obtain ⟨c0z1, c1z1, c2z1⟩ := cells3 B_z1
      go_wp2_with fail
      refine (H24.out _).mono ?_
      clear c0z1 c1z1 c2z1
      rintro e w28 ⟨rfl, bb⟩
      replace bb := nextw (w0 := w27) (by exact sm) bb
      replace B_z0 := mv B_z0 bb
      replace B_z1 := mv B_z1 bb
      replace HB := nx HB bb
      clear bb
      have HEr : Hid (swE x0 y0 x1 y1 x y d lo hi = 1) := swE_1 (fun h => dd1 h.2)
      have HV : Hid (swV x0 y0 x1 y1 x y d lo hi = []) := swV_nil HEr.out (by decide)
      go_wp2_with fail
      exact bodyPost_ret (v := .tuple #[.slice none 0 0, .int .i64 1]) (by simp [results, Try.results44, go_sem]) rfl ⟨none, 0, (by rw [HV.out, HEr.out]; rfl), (by rw [HV.out]; exact pl_nil _ _), nextw HB.out (by exact sm)⟩
  · skip
    have H25 := Lib.hid (fun w => right_is x0 y0 x1 y1 w)
    obtain ⟨HB, B_z0, B_z1⟩ := box2 w 45 #[.int .i64 x0, .int .i64 y0, .int .i64 x1, .int .i64 y1] 59 #[.int .i64 x, .int .i64 y, .int .i64 d]
    go_enter Try.func44, Try.ntmps44
    go_upto_region 1 with (fail)
    generalize (w.alloc (.cells #[.int .i64 x0, .int .i64 y0, .int .i64 x1, .int .i64 y1] 45)).alloc (.cells #[.int .i64 x, .int .i64 y, .int .i64 d] 59) = W0 at *
    obtain ⟨c0z0, c1z0, c2z0, c3z0⟩ := cells4 B_z0
    go_wp2_with fail
    refine (H25.out _).mono ?_
    clear c0z0 c1z0 c2z0 c3z0
    rintro e w29 ⟨rfl, bb⟩
    replace bb := nextw (w0 := W0) (by exact sm) bb
    replace B_z0 := mv B_z0 bb
    replace B_z1 := mv B_z1 bb
    replace HB := nx HB bb
    clear bb
    have HEr : Hid (swE x0 y0 x1 y1 x y d lo hi = 1) := swE_1 (fun h => dd0 h.1)
    have HV : Hid (swV x0 y0 x1 y1 x y d lo hi = []) := swV_nil HEr.out (by decide)
    go_wp2_with fail
    exact bodyPost_ret (v := .tuple #[.slice none 0 0, .int .i64 1]) (by simp [results, Try.results44, go_sem]) rfl ⟨none, 0, (by rw [HV.out, HEr.out]; rfl), (by rw [HV.out]; exact pl_nil _ _), nextw HB.out (by exact sm)⟩
end Go.Proofs.Ytkhcogfajihecaa
