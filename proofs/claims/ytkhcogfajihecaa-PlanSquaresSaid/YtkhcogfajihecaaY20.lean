/- the reference's Cells. -/
import Derived.Test.YtkhcogfajihecaaYL
set_option linter.unusedVariables false
set_option linter.unusedSimpArgs false
namespace Go.Proofs.Ytkhcogfajihecaa
open Go Go.RowKit Hd

set_option maxRecDepth 100000 in
set_option maxHeartbeats 4000000 in
theorem RCells_is (x0 y0 x1 y1 : Int)   (w : World) :
    Calls Try.prog 40 #[.agg #[.int .i64 x0, .int .i64 y0, .int .i64 x1, .int .i64 y1]] w fun e w' => ∃ A c, e = .returned (.tuple #[.slice A (ceV x0 y0 x1 y1).length c, .int .i64 (ceE x0 y0 x1 y1)]) ∧ PL w' w.heap.size w'.heap.size A (ceV x0 y0 x1 y1).length c (ceV x0 y0 x1 y1) ∧ Below w.heap.size w w' := by
  obtain ⟨i0, hi0, hz0, hz1, hz2⟩ := info_parts info2
  have HI := Lib.hid hi0
  clear hi0
  by_cases dd0 : OkQ x0 y0 x1 y1
  · skip
    obtain ⟨⟨dd0a, dd0b⟩, ⟨dd0c, dd0d⟩, ⟨dd0e, dd0f⟩, ⟨dd0g, dd0h⟩, dd0i, dd0j⟩ := (id dd0 : OkQ x0 y0 x1 y1)
    obtain ⟨fx01, fx02⟩ := fl64 x0
    obtain ⟨fy01, fy02⟩ := fl64 y0
    obtain ⟨fx11, fx12⟩ := fl64 x1
    obtain ⟨fy11, fy12⟩ := fl64 y1
    have HAR := Lib.hid (fun w => around_w0 x0 y0 x1 y1 (by omega) (by omega) (by omega) (by omega) (by omega) (by omega) (by omega) (by omega) w)
    obtain ⟨KX0, hKX0⟩ : ∃ q, (fl x0 64) - 1 = q := ⟨_, rfl⟩
    obtain ⟨KY0, hKY0⟩ : ∃ q, (fl y0 64) - 1 = q := ⟨_, rfl⟩
    obtain ⟨KX1, hKX1⟩ : ∃ q, (fl x1 64) + 1 = q := ⟨_, rfl⟩
    obtain ⟨KY1, hKY1⟩ : ∃ q, (fl y1 64) + 1 = q := ⟨_, rfl⟩
    rw [hKX0, hKY0, hKX1, hKY1] at HAR
    have kx1 : 64 * (KX0 + 1) ≤ x0 := by omega
    have kx2 : x0 < 64 * (KX0 + 2) := by omega
    have ky1 : 64 * (KY0 + 1) ≤ y0 := by omega
    have ky2 : y0 < 64 * (KY0 + 2) := by omega
    have kx3 : 64 * (KX1 - 1) ≤ x1 := by omega
    have kx4 : x1 < 64 * KX1 := by omega
    have ky3 : 64 * (KY1 - 1) ≤ y1 := by omega
    have ky4 : y1 < 64 * KY1 := by omega
    clear hKX0 hKY0 hKX1 hKY1 fx01 fx02 fy01 fy02 fx11 fx12 fy11 fy12
    have hpr := Hd.mul_le (a := (KX1 - KX0) - 2) (b := (KY1 - KY0) - 2) (A := 65536) (B := 65536) (by omega) (by omega) (by omega) (by omega)
    obtain ⟨hpr1, hpr2⟩ := hpr
    by_cases dd1 : 20000 < (((KX1 - KX0) - 2) * ((KY1 - KY0) - 2))
    · skip
      have H0 := Lib.hid (fun w => right_is x0 y0 x1 y1 w)
      have H1 := Lib.hid (fun w => (HAR.out w))
      obtain ⟨HB, B_z0⟩ := box1 w 45 #[.int .i64 x0, .int .i64 y0, .int .i64 x1, .int .i64 y1]
      go_enter Try.func40, Try.ntmps40
      go_upto_region 1 with (fail)
      generalize w.alloc (.cells #[.int .i64 x0, .int .i64 y0, .int .i64 x1, .int .i64 y1] 45) = W0 at *
      obtain ⟨c0z0, c1z0, c2z0, c3z0⟩ := cells4 B_z0
      go_wp2_with fail
      refine (H0.out _).mono ?_
      clear c0z0 c1z0 c2z0 c3z0
      rintro e w1 ⟨rfl, bb⟩
      replace bb := nextw (w0 := W0) (by exact sm) bb
      replace B_z0 := mv B_z0 bb
      replace HB := nx HB bb
      clear bb
      obtain ⟨c0z0, c1z0, c2z0, c3z0⟩ := cells4 B_z0
      go_wp2_with fail
      refine (H1.out _).mono ?_
      clear c0z0 c1z0 c2z0 c3z0
      rintro e w2 ⟨rfl, bb⟩
      replace bb := nextw (w0 := w1) (by exact sm) bb
      replace B_z0 := mv B_z0 bb
      replace HB := nx HB bb
      clear bb
      have lt_z1z0 := B_z0.out.lt
      obtain ⟨bb, B_z1⟩ := box1 w2 45 #[.int .i64 KX0, .int .i64 KY0, .int .i64 KX1, .int .i64 KY1]
      replace bb := bb.out
      replace B_z0 := mv B_z0 bb
      replace HB := nx HB bb
      clear bb
      go_upto_region 5 with (fail)
      generalize w2.alloc (.cells #[.int .i64 KX0, .int .i64 KY0, .int .i64 KX1, .int .i64 KY1] 45) = WN4x53 at *
      obtain ⟨c0z1, c1z1, c2z1, c3z1⟩ := cells4 B_z1
      have HEr : Hid (ceE x0 y0 x1 y1 = 6) := ceE_6 dd0 (ce_big (by omega) (by omega) kx2 ky2 kx3 ky3 kx1 ky1 kx4 ky4 (by omega))
      have HV : Hid (ceV x0 y0 x1 y1 = []) := ceV_nil HEr.out (by decide)
      go_wp2_with fail
      exact bodyPost_ret (v := .tuple #[.slice none 0 0, .int .i64 6]) (by simp [results, Try.results40, go_sem]) rfl ⟨none, 0, (by rw [HV.out, HEr.out]; rfl), (by rw [HV.out]; exact pl_nil _ _), nextw HB.out (by exact sm)⟩
    · skip
      replace dd1 : (((KX1 - KX0) - 2) * ((KY1 - KY0) - 2)) ≤ 20000 := by omega
      have HQ2 : Hid (((KX1 - KX0) - 2) * ((KY1 - KY0) - 2) ≤ 20000) := Lib.hid (by omega)
      obtain ⟨NX, hNX⟩ : ∃ N, (KX1 + 1 - KX0).toNat = N := ⟨_, rfl⟩
      obtain ⟨NY, hNY⟩ : ∃ N, (KY1 + 1 - KY0).toNat = N := ⟨_, rfl⟩
      have hgl : ∀ k, k ≤ NY → k * NX ≤ 250000 := fun k hk => by have h1 : ((NY * NX : Nat) : Int) ≤ 250000 := (by rw [Int.natCast_mul, ← hNX, ← hNY, Int.toNat_of_nonneg (by omega), Int.toNat_of_nonneg (by omega)]; have e : (KY1 + 1 - KY0) * (KX1 + 1 - KX0) = ((KX1 - KX0) - 2) * ((KY1 - KY0) - 2) + 3 * (KX1 - KX0) + 3 * (KY1 - KY0) - 3 := (by grind); have : KX1 - KX0 ≤ 32800 := (by omega); have : KY1 - KY0 ≤ 32800 := (by omega); omega); have := Nat.mul_le_mul_right NX hk; omega
      have HNX := Lib.hid hNX
      have HNY := Lib.hid hNY
      have HGL := Lib.hid hgl
      have HXY : Hid (x0 ≤ x1 ∧ y0 ≤ y1) := Lib.hid ⟨by omega, by omega⟩
      clear hNX hNY hgl
      have H2 := Lib.hid (fun w => right_is x0 y0 x1 y1 w)
      have H3 := Lib.hid (fun w => (HAR.out w))
      obtain ⟨HB, B_z0⟩ := box1 w 45 #[.int .i64 x0, .int .i64 y0, .int .i64 x1, .int .i64 y1]
      go_enter Try.func40, Try.ntmps40
      go_upto_region 1 with (fail)
      generalize w.alloc (.cells #[.int .i64 x0, .int .i64 y0, .int .i64 x1, .int .i64 y1] 45) = W0 at *
      obtain ⟨c0z0, c1z0, c2z0, c3z0⟩ := cells4 B_z0
      go_wp2_with fail
      refine (H2.out _).mono ?_
      clear c0z0 c1z0 c2z0 c3z0
      rintro e w3 ⟨rfl, bb⟩
      replace bb := nextw (w0 := W0) (by exact sm) bb
      replace B_z0 := mv B_z0 bb
      replace HB := nx HB bb
      clear bb
      obtain ⟨c0z0, c1z0, c2z0, c3z0⟩ := cells4 B_z0
      go_wp2_with fail
      refine (H3.out _).mono ?_
      clear c0z0 c1z0 c2z0 c3z0
      rintro e w4 ⟨rfl, bb⟩
      replace bb := nextw (w0 := w3) (by exact sm) bb
      replace B_z0 := mv B_z0 bb
      replace HB := nx HB bb
      clear bb
      have lt_z1z0 := B_z0.out.lt
      obtain ⟨bb, B_z1⟩ := box1 w4 45 #[.int .i64 KX0, .int .i64 KY0, .int .i64 KX1, .int .i64 KY1]
      replace bb := bb.out
      replace B_z0 := mv B_z0 bb
      replace HB := nx HB bb
      clear bb
      go_upto_region 5 with (fail)
      generalize w4.alloc (.cells #[.int .i64 KX0, .int .i64 KY0, .int .i64 KX1, .int .i64 KY1] 45) = WN4x101 at *
      obtain ⟨c0z1, c1z1, c2z1, c3z1⟩ := cells4 B_z1
      go_wp2_with fail
      clear c0z1 c1z1 c2z1 c3z1
      obtain ⟨base, hbase⟩ : ∃ base, base = WN4x101.heap.size := ⟨_, rfl⟩
      have HW : Hid (w.heap.size ≤ base) := by have := HB.out.size; unfold Hid; omega
      have LT_z0 : Hid (w.heap.size < base) := by have := B_z0.out.lt; unfold Hid; omega
      have LT_z1 : Hid (w4.heap.size < base) := by have := B_z1.out.lt; unfold Hid; omega
      have VR : Hid (OwnP WN4x101 base (.slice none 0 0) []) := Lib.hid (own_nil _ _)
      have HBS : Hid (base ≤ WN4x101.heap.size) := by unfold Hid; omega
      clear hbase
      go_loopw [4, 6] (fun a0 kk wx => ∃ (k : Nat), k ≤ NY ∧ kk = .int .i64 (KY0 + ((k : Nat) : Int)) ∧ Hid (OwnP wx base a0 (gridF (ovB x0 y0 x1 y1) KX0 KY0 NX k)) ∧ Hid (base ≤ wx.heap.size) ∧ Hid (Bx wx (w.heap.size) 45 #[.int .i64 x0, .int .i64 y0, .int .i64 x1, .int .i64 y1]) ∧ Hid (Bx wx (w4.heap.size) 45 #[.int .i64 KX0, .int .i64 KY0, .int .i64 KX1, .int .i64 KY1]) ∧ Hid (Below w.heap.size w wx)) (fun _ kk _ => (KY1 + 1 - intOf kk).toNat)
      case atStart => exact ⟨0, by omega, congrArg (Value.int .i64) (by omega), VR, HBS, B_z0, B_z1, HB⟩
      case round =>
        clear VR HBS B_z0 B_z1 HB
        obtain ⟨k, hk, rfl, VR, HBS, B_z0, B_z1, HB⟩ := hrel
        by_cases hlt : k < NY
        · skip
          have hle0 : KY0 + ((k : Nat) : Int) ≤ KY1 := by have := HNY.out; omega
          have hlk : (gridF (ovB x0 y0 x1 y1) KX0 KY0 NX k).length ≤ 250000 := Nat.le_trans (gridF_len _ _ _ _ _) (HGL.out k hk)
          have hlk2 : (gridF (ovB x0 y0 x1 y1) KX0 KY0 NX k).length + NX ≤ 250000 := by have h1 := gridF_len (ovB x0 y0 x1 y1) KX0 KY0 NX k; have h2 := HGL.out (k + 1) hlt; rw [Nat.succ_mul] at h2; omega
          have HSK : Hid (gridF (ovB x0 y0 x1 y1) KX0 KY0 NX (k + 1) = gridF (ovB x0 y0 x1 y1) KX0 KY0 NX k ++ rowF (ovB x0 y0 x1 y1) (KY0 + ((k : Nat) : Int)) KX0 NX) := rfl
          obtain ⟨Y, hY⟩ : ∃ Y, KY0 + ((k : Nat) : Int) = Y := ⟨_, rfl⟩
          rw [hY] at HSK hle0 ⊢
          have HY := Lib.hid hY
          have hYb1 : -32768 ≤ Y := by omega
          have hYb2 : Y ≤ 32768 := by omega
          clear hY
          obtain ⟨LK, hLK⟩ : ∃ l, gridF (ovB x0 y0 x1 y1) KX0 KY0 NX k = l := ⟨_, rfl⟩
          rw [hLK] at VR HSK hlk hlk2
          clear hLK
          obtain ⟨c0z1, c1z1, c2z1, c3z1⟩ := cells4 B_z1
          go_wp2_with fail
          clear c0z1 c1z1 c2z1 c3z1
          go_loopw [4, 7] (fun a0 kk wx => ∃ (j : Nat), j ≤ NX ∧ kk = .int .i64 (KX0 + ((j : Nat) : Int)) ∧ Hid (OwnP wx base a0 (LK ++ rowF (ovB x0 y0 x1 y1) Y KX0 j)) ∧ Hid (base ≤ wx.heap.size) ∧ Hid (Bx wx (w.heap.size) 45 #[.int .i64 x0, .int .i64 y0, .int .i64 x1, .int .i64 y1]) ∧ Hid (Bx wx (w4.heap.size) 45 #[.int .i64 KX0, .int .i64 KY0, .int .i64 KX1, .int .i64 KY1]) ∧ Hid (Below w.heap.size w wx)) (fun _ kk _ => (KX1 + 1 - intOf kk).toNat)
          case atStart => exact ⟨0, by omega, congrArg (Value.int .i64) (by omega), (own_cast VR (by simp [rowF])), HBS, B_z0, B_z1, HB⟩
          case round =>
            clear VR HBS B_z0 B_z1 HB
            obtain ⟨j, hkj, rfl, VR, HBS, B_z0, B_z1, HB⟩ := hrel
            by_cases hltj : j < NX
            · skip
              have hle1 : KX0 + ((j : Nat) : Int) ≤ KX1 := by have := HNX.out; omega
              have hrl := rowF_len (ovB x0 y0 x1 y1) Y KX0 j
              have hll2 : (LK ++ rowF (ovB x0 y0 x1 y1) Y KX0 j).length ≤ 290000 := by rw [List.length_append]; omega
              have HSJ : Hid (LK ++ rowF (ovB x0 y0 x1 y1) Y KX0 (j + 1) = (LK ++ rowF (ovB x0 y0 x1 y1) Y KX0 j) ++ (if ovB x0 y0 x1 y1 (KX0 + ((j : Nat) : Int)) Y = true then [(KX0 + ((j : Nat) : Int), Y)] else [])) := by unfold Hid; rw [List.append_assoc]; rfl
              obtain ⟨X, hX⟩ : ∃ X, KX0 + ((j : Nat) : Int) = X := ⟨_, rfl⟩
              rw [hX] at HSJ hle1 ⊢
              have HX := Lib.hid hX
              have hXb1 : -32768 ≤ X := by omega
              have hXb2 : X ≤ 32768 := by omega
              clear hX hrl
              obtain ⟨LJ, hLJ⟩ : ∃ l, LK ++ rowF (ovB x0 y0 x1 y1) Y KX0 j = l := ⟨_, rfl⟩
              rw [hLJ] at VR HSJ hll2
              clear hLJ
              have hell : LJ.length ≤ 300000 := by omega
              by_cases dd4 : OvC (X * 64) (Y * 64) ((X * 64) + 64) ((Y * 64) + 64) x0 y0 x1 y1
              · skip
                have H4 := Lib.hid (fun w => BSquare_w0 X Y ⟨by omega, by omega⟩ ⟨by omega, by omega⟩ w)
                have H5 := Lib.hid (fun w => overlap_is (X * 64) (Y * 64) ((X * 64) + 64) ((Y * 64) + 64) x0 y0 x1 y1 w)
                obtain ⟨c0z1, c1z1, c2z1, c3z1⟩ := cells4 B_z1
                have sr_z2VR := Lib.hid (OwnP.lt VR.out)
                have lt_z2z0 := B_z0.out.lt
                have lt_z2z1 := B_z1.out.lt
                obtain ⟨bb, B_z2⟩ := box1 wr 37 #[.int .i64 X, .int .i64 Y]
                replace bb := bb.out
                replace B_z0 := mv B_z0 bb
                replace B_z1 := mv B_z1 bb
                replace VR := Lib.hid (OwnP.below VR.out bb)
                replace HBS := Lib.hid (lebel HBS.out bb)
                replace HB := nx HB bb
                clear bb
                go_upto_region 14 with (fail)
                clear c0z1 c1z1 c2z1 c3z1
                generalize wr.alloc (.cells #[.int .i64 X, .int .i64 Y] 37) = WN13x168 at *
                obtain ⟨c0z2, c1z2⟩ := cells2 B_z2
                obtain ⟨c0z0, c1z0, c2z0, c3z0⟩ := cells4 B_z0
                have tk1x0 : True := trivial
                go_region_held3 (fun w' => w'.cell? ⟨wr.heap.size, 0, none⟩ = some (.int .i64 X) ∧ w'.cell? ⟨wr.heap.size, 1, none⟩ = some (.int .i64 Y) ∧ w'.cell? ⟨w.heap.size, 0, none⟩ = some (.int .i64 x0) ∧ w'.cell? ⟨w.heap.size, 1, none⟩ = some (.int .i64 y0) ∧ w'.cell? ⟨w.heap.size, 2, none⟩ = some (.int .i64 x1) ∧ w'.cell? ⟨w.heap.size, 3, none⟩ = some (.int .i64 y1)) (((try dsimp only); (repeat' apply And.intro) <;> (first | (with_reducible assumption) | ((repeat (first | (with_reducible refine Eq.trans (cell_drew1 _ _) ?_) | (with_reducible refine Eq.trans (cell_far (by omega) _ _ _) ?_) | (with_reducible refine Eq.trans (World.cell?_alloc_lt _ _ _ (by first | (dsimp only; omega) | (simp only [World.size_alloc, World.size_setCell]; omega))) ?_))); with_reducible assumption) | assumption | go_keep)))
    (first
      | (clear tk1x0; go_at_call 64; refine (H4.out _).mono ?_; rintro e w5 ⟨rfl, bb⟩; replace bb := nextw (w0 := WN13x168) (by exact sm) bb; replace B_z0 := mv B_z0 bb; replace B_z1 := mv B_z1 bb; replace B_z2 := mv B_z2 bb; replace VR := Lib.hid (OwnP.below VR.out bb); replace HBS := Lib.hid (lebel HBS.out bb); replace HB := nx HB bb; clear bb c0z2 c1z2 c0z0 c1z0 c2z0 c3z0; have c0z2 : w5.cell? ⟨wr.heap.size, 0, none⟩ = some (.int .i64 X) := B_z2.out.cell 0 rfl; have c1z2 : w5.cell? ⟨wr.heap.size, 1, none⟩ = some (.int .i64 Y) := B_z2.out.cell 1 rfl; have c0z0 : w5.cell? ⟨w.heap.size, 0, none⟩ = some (.int .i64 x0) := B_z0.out.cell 0 rfl; have c1z0 : w5.cell? ⟨w.heap.size, 1, none⟩ = some (.int .i64 y0) := B_z0.out.cell 1 rfl; have c2z0 : w5.cell? ⟨w.heap.size, 2, none⟩ = some (.int .i64 x1) := B_z0.out.cell 2 rfl; have c3z0 : w5.cell? ⟨w.heap.size, 3, none⟩ = some (.int .i64 y1) := B_z0.out.cell 3 rfl; have tk1x1 : True := trivial)
      | (clear tk1x1; go_at_call 76; refine (H5.out _).mono ?_; rintro e w6 ⟨rfl, bb⟩; replace bb := nextw (w0 := w5) (by exact sm) bb; replace B_z0 := mv B_z0 bb; replace B_z1 := mv B_z1 bb; replace B_z2 := mv B_z2 bb; replace VR := Lib.hid (OwnP.below VR.out bb); replace HBS := Lib.hid (lebel HBS.out bb); replace HB := nx HB bb; clear bb c0z2 c1z2 c0z0 c1z0 c2z0 c3z0; have c0z2 : w6.cell? ⟨wr.heap.size, 0, none⟩ = some (.int .i64 X) := B_z2.out.cell 0 rfl; have c1z2 : w6.cell? ⟨wr.heap.size, 1, none⟩ = some (.int .i64 Y) := B_z2.out.cell 1 rfl; have c0z0 : w6.cell? ⟨w.heap.size, 0, none⟩ = some (.int .i64 x0) := B_z0.out.cell 0 rfl; have c1z0 : w6.cell? ⟨w.heap.size, 1, none⟩ = some (.int .i64 y0) := B_z0.out.cell 1 rfl; have c2z0 : w6.cell? ⟨w.heap.size, 2, none⟩ = some (.int .i64 x1) := B_z0.out.cell 2 rfl; have c3z0 : w6.cell? ⟨w.heap.size, 3, none⟩ = some (.int .i64 y1) := B_z0.out.cell 3 rfl; have tk1x2 : True := trivial))
                clear c0z2 c1z2 c0z0 c1z0 c2z0 c3z0
                obtain ⟨c0z2, c1z2⟩ := cells2 B_z2
                have HG := Lib.hid (fun wzz (hg : (w6.alloc (.cells #[.int .i64 X, .int .i64 Y] 37)).grownBy wzz (Value.ownBlock u4)) => grown_below VR.out HBS.out hg)
                go_wp2_with (at_builtin; refine wpList_append_own _ rfl _ _ 50 rfl base 37 i0 (.agg #[.int .i64 0, .int .i64 0]) 2 16 Try.underlying50 HI.out hz0 hz1 hz2 rfl (by decide) u4 (LJ).length (pts (LJ)) rfl (VR.out.alloc _) ⟨w6.heap.size, 0, none⟩ 1 1 (pts [(X, Y)]) rfl rfl (new_pt w6 _ _) (pts_one _) (by simp only [maxLen]; omega) (by omega) (by have := HBS.out; simp; omega) ?_; intro va7 wa7 hown3 hgrow3 hnil3; have HX3 := Lib.hid hown3; have HY3 := Lib.hid (HG.out _ hgrow3); clear hown3 hgrow3 hnil3)
                have VRn : Hid (OwnP wa7 base va7 (LJ ++ [(X, Y)])) := by have h := HX3.out; rw [pts_append] at h; unfold Hid OwnP; rw [List.length_append]; exact h
                replace B_z0 := Lib.hid (Bx.below B_z0.out HY3.out LT_z0.out)
                replace B_z1 := Lib.hid (Bx.below B_z1.out HY3.out LT_z1.out)
                replace HB := Lib.hid (HB.out.trans (HY3.out.mono HW.out))
                replace HBS := Lib.hid (Nat.le_trans HBS.out HY3.out.size)
                clear HX3 HY3 HG
                clear B_z2
                clear VR
                have VR := VRn
                clear VRn
                go_wp2_with fail
                go_roundw
                case rel => exact ⟨j + 1, by omega, congrArg (Value.int .i64) (by have := HX.out; omega), (own_cast VR (by rw [HSJ.out, if_pos (show ovB x0 y0 x1 y1 X Y = true from decide_eq_true dd4)])), HBS, B_z0, B_z1, HB⟩
                case measure => simp only [intOf]; have := HX.out; omega
              · skip
                have H6 := Lib.hid (fun w => BSquare_w0 X Y ⟨by omega, by omega⟩ ⟨by omega, by omega⟩ w)
                have H7 := Lib.hid (fun w => overlap_is (X * 64) (Y * 64) ((X * 64) + 64) ((Y * 64) + 64) x0 y0 x1 y1 w)
                obtain ⟨c0z1, c1z1, c2z1, c3z1⟩ := cells4 B_z1
                have sr_z2VR := Lib.hid (OwnP.lt VR.out)
                have lt_z2z0 := B_z0.out.lt
                have lt_z2z1 := B_z1.out.lt
                obtain ⟨bb, B_z2⟩ := box1 wr 37 #[.int .i64 X, .int .i64 Y]
                replace bb := bb.out
                replace B_z0 := mv B_z0 bb
                replace B_z1 := mv B_z1 bb
                replace VR := Lib.hid (OwnP.below VR.out bb)
                replace HBS := Lib.hid (lebel HBS.out bb)
                replace HB := nx HB bb
                clear bb
                go_upto_region 14 with (fail)
                clear c0z1 c1z1 c2z1 c3z1
                generalize wr.alloc (.cells #[.int .i64 X, .int .i64 Y] 37) = WN13x209 at *
                obtain ⟨c0z2, c1z2⟩ := cells2 B_z2
                obtain ⟨c0z0, c1z0, c2z0, c3z0⟩ := cells4 B_z0
                have tk2x0 : True := trivial
                go_region_held3 (fun w' => w'.cell? ⟨wr.heap.size, 0, none⟩ = some (.int .i64 X) ∧ w'.cell? ⟨wr.heap.size, 1, none⟩ = some (.int .i64 Y) ∧ w'.cell? ⟨w.heap.size, 0, none⟩ = some (.int .i64 x0) ∧ w'.cell? ⟨w.heap.size, 1, none⟩ = some (.int .i64 y0) ∧ w'.cell? ⟨w.heap.size, 2, none⟩ = some (.int .i64 x1) ∧ w'.cell? ⟨w.heap.size, 3, none⟩ = some (.int .i64 y1)) (((try dsimp only); (repeat' apply And.intro) <;> (first | (with_reducible assumption) | ((repeat (first | (with_reducible refine Eq.trans (cell_drew1 _ _) ?_) | (with_reducible refine Eq.trans (cell_far (by omega) _ _ _) ?_) | (with_reducible refine Eq.trans (World.cell?_alloc_lt _ _ _ (by first | (dsimp only; omega) | (simp only [World.size_alloc, World.size_setCell]; omega))) ?_))); with_reducible assumption) | assumption | go_keep)))
    (first
      | (clear tk2x0; go_at_call 64; refine (H6.out _).mono ?_; rintro e w8 ⟨rfl, bb⟩; replace bb := nextw (w0 := WN13x209) (by exact sm) bb; replace B_z0 := mv B_z0 bb; replace B_z1 := mv B_z1 bb; replace B_z2 := mv B_z2 bb; replace VR := Lib.hid (OwnP.below VR.out bb); replace HBS := Lib.hid (lebel HBS.out bb); replace HB := nx HB bb; clear bb c0z2 c1z2 c0z0 c1z0 c2z0 c3z0; have c0z2 : w8.cell? ⟨wr.heap.size, 0, none⟩ = some (.int .i64 X) := B_z2.out.cell 0 rfl; have c1z2 : w8.cell? ⟨wr.heap.size, 1, none⟩ = some (.int .i64 Y) := B_z2.out.cell 1 rfl; have c0z0 : w8.cell? ⟨w.heap.size, 0, none⟩ = some (.int .i64 x0) := B_z0.out.cell 0 rfl; have c1z0 : w8.cell? ⟨w.heap.size, 1, none⟩ = some (.int .i64 y0) := B_z0.out.cell 1 rfl; have c2z0 : w8.cell? ⟨w.heap.size, 2, none⟩ = some (.int .i64 x1) := B_z0.out.cell 2 rfl; have c3z0 : w8.cell? ⟨w.heap.size, 3, none⟩ = some (.int .i64 y1) := B_z0.out.cell 3 rfl; have tk2x1 : True := trivial)
      | (clear tk2x1; go_at_call 76; refine (H7.out _).mono ?_; rintro e w9 ⟨rfl, bb⟩; replace bb := nextw (w0 := w8) (by exact sm) bb; replace B_z0 := mv B_z0 bb; replace B_z1 := mv B_z1 bb; replace B_z2 := mv B_z2 bb; replace VR := Lib.hid (OwnP.below VR.out bb); replace HBS := Lib.hid (lebel HBS.out bb); replace HB := nx HB bb; clear bb c0z2 c1z2 c0z0 c1z0 c2z0 c3z0; have c0z2 : w9.cell? ⟨wr.heap.size, 0, none⟩ = some (.int .i64 X) := B_z2.out.cell 0 rfl; have c1z2 : w9.cell? ⟨wr.heap.size, 1, none⟩ = some (.int .i64 Y) := B_z2.out.cell 1 rfl; have c0z0 : w9.cell? ⟨w.heap.size, 0, none⟩ = some (.int .i64 x0) := B_z0.out.cell 0 rfl; have c1z0 : w9.cell? ⟨w.heap.size, 1, none⟩ = some (.int .i64 y0) := B_z0.out.cell 1 rfl; have c2z0 : w9.cell? ⟨w.heap.size, 2, none⟩ = some (.int .i64 x1) := B_z0.out.cell 2 rfl; have c3z0 : w9.cell? ⟨w.heap.size, 3, none⟩ = some (.int .i64 y1) := B_z0.out.cell 3 rfl; have tk2x2 : True := trivial))
                clear c0z2 c1z2 c0z0 c1z0 c2z0 c3z0
                go_wp2_with fail
                go_roundw
                case rel => exact ⟨j + 1, by omega, congrArg (Value.int .i64) (by have := HX.out; omega), (own_cast VR (by rw [HSJ.out, if_neg (by unfold ovB; rw [decide_eq_true_iff]; exact dd4), List.append_nil])), HBS, B_z0, B_z1, HB⟩
                case measure => simp only [intOf]; have := HX.out; omega
            · skip
              have hkn : NX = j := by omega
              subst hkn
              have hgt1 : ¬ (KX0 + ((NX : Nat) : Int) ≤ KX1) := by have := HNX.out; omega
              obtain ⟨c0z1, c1z1, c2z1, c3z1⟩ := cells4 B_z1
              go_wp2_with fail
              clear c0z1 c1z1 c2z1 c3z1
              go_roundw
              case rel => exact ⟨k + 1, by omega, congrArg (Value.int .i64) (by have := HY.out; omega), (own_cast VR HSK.out.symm), HBS, B_z0, B_z1, HB⟩
              case measure => simp only [intOf]; have := HY.out; omega
        · skip
          have hkn : NY = k := by omega
          subst hkn
          have hgt : ¬ (KY0 + ((NY : Nat) : Int) ≤ KY1) := by have := HNY.out; omega
          obtain ⟨AR, cR, e1, p1, -⟩ := VR.out.pl
          subst e1
          obtain ⟨NN, hNN⟩ : ∃ q, (gridF (ovB x0 y0 x1 y1) KX0 KY0 NX NY).length = q := ⟨_, rfl⟩
          rw [hNN] at p1 ⊢
          have HNN := Lib.hid hNN
          clear hNN VR
          obtain ⟨lo_LR, hi_LR, hlw, LR⟩ : ∃ lo hi, w.heap.size ≤ lo ∧ Hid (PL wr lo hi AR NN cR (gridF (ovB x0 y0 x1 y1) KX0 KY0 NX NY)) := ⟨base, wr.heap.size, HW.out, Lib.hid p1⟩
          clear p1
          have hNNle : NN ≤ 1000000 := by rw [← HNN.out]; exact Nat.le_trans (gridF_len _ _ _ _ _) (Nat.le_trans (HGL.out NY (Nat.le_refl _)) (by decide))
          by_cases dd3 : 8192 < ((NN : Nat) : Int)
          · skip
            obtain ⟨c0z1, c1z1, c2z1, c3z1⟩ := cells4 B_z1
            have HGC : Hid (gridF (ovB x0 y0 x1 y1) KX0 KY0 NX NY = ceX x0 y0 x1 y1 (rF y0 1) (rL y1 1 + 1 - rF y0 1).toNat) := Lib.hid (grid_ce kx1 ky1 kx4 ky4 HNX.out HNY.out)
            have HCN : Hid (((NN : Nat) : Int) = ceN x0 y0 x1 y1) := by unfold Hid; rw [← ceX_n HXY.out.1 HXY.out.2, ← HGC.out, HNN.out]
            have HEr : Hid (ceE x0 y0 x1 y1 = 6) := ceE_6 dd0 (by rw [← HCN.out]; omega)
            have HV : Hid (ceV x0 y0 x1 y1 = []) := ceV_nil HEr.out (by decide)
            go_wp2_with fail
            exact bodyPost_ret (v := .tuple #[.slice none 0 0, .int .i64 6]) (by simp [results, Try.results40, go_sem]) rfl ⟨none, 0, (by rw [HV.out, HEr.out]; rfl), (by rw [HV.out]; exact pl_nil _ _), nextw HB.out (by exact sm)⟩
          · skip
            replace dd3 : ((NN : Nat) : Int) ≤ 8192 := by omega
            obtain ⟨c0z1, c1z1, c2z1, c3z1⟩ := cells4 B_z1
            have HGC : Hid (gridF (ovB x0 y0 x1 y1) KX0 KY0 NX NY = ceX x0 y0 x1 y1 (rF y0 1) (rL y1 1 + 1 - rF y0 1).toNat) := Lib.hid (grid_ce kx1 ky1 kx4 ky4 HNX.out HNY.out)
            have HCN : Hid (((NN : Nat) : Int) = ceN x0 y0 x1 y1) := by unfold Hid; rw [← ceX_n HXY.out.1 HXY.out.2, ← HGC.out, HNN.out]
            have HEr : Hid (ceE x0 y0 x1 y1 = 0) := ceE_0 dd0 (by rw [← HCN.out]; omega)
            have HV : Hid (ceV x0 y0 x1 y1 = gridF (ovB x0 y0 x1 y1) KX0 KY0 NX NY) := by unfold Hid; rw [ceV_ok HEr.out, HGC.out]
            go_wp2_with fail
            exact bodyPost_ret (v := .tuple #[.slice AR NN cR, .int .i64 0]) (by simp [results, Try.results40, go_sem]) rfl ⟨AR, cR, (by rw [HV.out, HEr.out, HNN.out]), (by rw [HV.out, HNN.out]; exact PL.outw (PL.below LR.out (by exact sm)) hlw), nextw HB.out (by exact sm)⟩
  · skip
    have H8 := Lib.hid (fun w => right_is x0 y0 x1 y1 w)
    obtain ⟨HB, B_z0⟩ := box1 w 45 #[.int .i64 x0, .int .i64 y0, .int .i64 x1, .int .i64 y1]
    go_enter Try.func40, Try.ntmps40
    go_upto_region 1 with (fail)
    generalize w.alloc (.cells #[.int .i64 x0, .int .i64 y0, .int .i64 x1, .int .i64 y1] 45) = W0 at *
    obtain ⟨c0z0, c1z0, c2z0, c3z0⟩ := cells4 B_z0
    go_wp2_with fail
    refine (H8.out _).mono ?_
    clear c0z0 c1z0 c2z0 c3z0
    rintro e w10 ⟨rfl, bb⟩
    replace bb := nextw (w0 := W0) (by exact sm) bb
    replace B_z0 := mv B_z0 bb
    replace HB := nx HB bb
    clear bb
    have HEr : Hid (ceE x0 y0 x1 y1 = 1) := ceE_1 dd0
    have HV : Hid (ceV x0 y0 x1 y1 = []) := ceV_nil HEr.out (by decide)
    go_wp2_with fail
    exact bodyPost_ret (v := .tuple #[.slice none 0 0, .int .i64 1]) (by simp [results, Try.results40, go_sem]) rfl ⟨none, 0, (by rw [HV.out, HEr.out]; rfl), (by rw [HV.out]; exact pl_nil _ _), nextw HB.out (by exact sm)⟩
end Go.Proofs.Ytkhcogfajihecaa
