/- zonogon.canonical. -/
import Derived.Test.YtpjbkadhmjlpfaaZ9
set_option linter.unusedVariables false
set_option linter.unusedSimpArgs false
namespace Go.Proofs.Ytpjbkadhmjlpfaa
open Go Go.RowKit Hd

set_option maxRecDepth 100000 in
set_option maxHeartbeats 4000000 in
theorem canonical_is (x y : Int) (A : Option Addr) (n c : Nat) (l : List P2) (hn : n ≤ 1000) (hl : ∀ p ∈ l, Bd 16777216 p) (w : World) {lo_L hi_L : Nat} (L : PL w lo_L hi_L A n c l) :
    Calls Try.prog 44 #[.agg #[.int .i64 x, .int .i64 y, .slice A n c]] w fun e w' => ∃ A' c', e = .returned (.agg #[.int .i64 x, .int .i64 y, .slice A' (canL l).length c']) ∧ PL w' w.heap.size w'.heap.size A' (canL l).length c' (canL l) ∧ Below w.heap.size w w' := by
  have HH := Lib.hid hl
  clear hl
  obtain ⟨i0, hi0, hz0, hz1, hz2⟩ := info_parts info2
  have HI := Lib.hid hi0
  clear hi0
  replace L := Lib.hid L
  obtain ⟨HB, B_z0, B_z1⟩ := box2 w 24 #[.int .i64 x, .int .i64 y, .slice A n c] 24 #[.int .i64 0, .int .i64 0, .slice none 0 0]
  replace L := plm L HB.out
  go_enter Try.func44, Try.ntmps44
  go_upto_region 1 with (fail)
  generalize (w.alloc (.cells #[.int .i64 x, .int .i64 y, .slice A n c] 24)).alloc (.cells #[.int .i64 0, .int .i64 0, .slice none 0 0] 24) = W0 at *
  obtain ⟨base, hbase⟩ : ∃ base, base = W0.heap.size := ⟨_, rfl⟩
  have HBS : Hid (base ≤ W0.heap.size) := by unfold Hid; omega
  have LT_z0 : Hid (w.heap.size < base) := by have := B_z0.out.lt; unfold Hid; omega
  have LT_z1 : Hid (w.heap.size + 1 < base) := by have := B_z1.out.lt; unfold Hid; omega
  have HW : Hid (w.heap.size ≤ base) := by have := HB.out.size; unfold Hid; omega
  have TL_L : Hid (hi_L ≤ base) := by have := L.out.top; unfold Hid; omega
  clear hbase
  obtain ⟨c0z0, c1z0, c2z0⟩ := cells3 B_z0
  go_wp2_with fail
  clear c0z0 c1z0 c2z0
  go_loopw [3, 9] (fun a0 kk wx => ∃ (k : Nat), k ≤ n ∧ kk = .int .i64 k ∧ Hid (OwnP wx base a0 (ups (l.take k))) ∧ Hid (base ≤ wx.heap.size) ∧ Hid (PL wx lo_L hi_L A n c l) ∧ Hid (Bx wx (w.heap.size) 24 #[.int .i64 x, .int .i64 y, .slice A n c]) ∧ Hid (Bx wx (w.heap.size + 1) 24 #[.int .i64 0, .int .i64 0, .slice none 0 0]) ∧ Hid (Below w.heap.size w wx)) (fun _ kk _ => n - (intOf kk).toNat)
  case atStart => exact ⟨0, by omega, rfl, Lib.hid (own_nil _ _), HBS, L, B_z0, B_z1, HB⟩
  case round =>
    clear HBS L B_z0 B_z1 HB
    obtain ⟨k, hk, rfl, VR, HBS, L, B_z0, B_z1, HB⟩ := hrel
    by_cases hlt : k < n
    · skip
      obtain ⟨g, o, eA, hg, e0, e1⟩ := L.out.elem hlt
      have hlen := L.out.len
      have hmem : l.getD k z2 ∈ l := getD_mem (by omega)
      have HT := Lib.hid (take_snoc l z2 (k := k) (by omega))
      subst eA
      have hP := HH.out _ hmem
      have hU := ups_snoc (l.take k) (l.getD k z2)
      rw [← HT.out] at hU
      generalize l.getD k z2 = q at *
      obtain ⟨px, py⟩ := q
      dsimp only at e0 e1
      have HU := Lib.hid hU
      have hlen2 := ups_len (l.take k)
      have hlen3 : (ups (l.take k)).length ≤ 1000 := by rw [List.length_take] at hlen2; omega
      clear hU hmem hg hlen hlen2
      have lt_gz0 := B_z0.out.lt
      have lt_gz1 := B_z1.out.lt
      obtain ⟨bb, B_g⟩ := box1 wr 39 #[.int .i64 px, .int .i64 py]
      replace bb := bb.out
      replace B_z0 := mv B_z0 bb
      replace B_z1 := mv B_z1 bb
      replace L := Lib.hid (PL.below L.out bb)
      replace VR := Lib.hid (OwnP.below VR.out bb)
      replace HBS := Lib.hid (lebel HBS.out bb)
      replace HB := nx HB bb
      clear bb
      go_upto_region 5 with (fail)
      generalize wr.alloc (.cells #[.int .i64 px, .int .i64 py] 39) = WG at *
      clear e0 e1
      by_cases hx : px = 0
      · skip
        subst hx
        by_cases hy : py = 0
        · skip
          subst hy
          obtain ⟨c0g, c1g⟩ := cells2 B_g
          have HE : Hid (ups (l.take (k + 1)) = ups (l.take k)) := by unfold Hid; rw [HU.out]; simp [upz]
          rw [← HE.out] at VR
          go_wp2_with fail
          clear c0g c1g
          go_roundw
          case rel => exact ⟨k + 1, by omega, by go_num, VR, HBS, L, B_z0, B_z1, HB⟩
          case measure => simp only [intOf]; omega
        · skip
          have hpy : (py == 0) = false := by simpa using hy
          clear hy
          have hs1 : Sm 0 := ⟨by have := hP.1.1; dsimp only at this; omega, by have := hP.1.2; dsimp only at this; omega⟩
          have hs2 : Sm py := ⟨by have := hP.2.1; dsimp only at this; omega, by have := hP.2.2; dsimp only at this; omega⟩
          have HQ := Lib.hid (fun w => upward_is 0 py hs1 hs2 w)
          have HE : Hid (ups (l.take (k + 1)) = ups (l.take k) ++ [(upX 0 py, upY 0 py)]) := by unfold Hid; rw [HU.out]; unfold upz; rw [if_neg (by first | (intro e; cases e; simp at hpx) | (intro e; cases e; simp at hpy))]; rfl
          clear hs1 hs2 hP
          generalize upX 0 py = ux at *
          generalize upY 0 py = uy at *
          obtain ⟨c0g, c1g⟩ := cells2 B_g
          go_wp2_with fail
          refine (HQ.out _).mono ?_
          clear c0g c1g
          rintro e w1 ⟨rfl, bb⟩
          replace bb := nextw (w0 := WG) (by exact sm) bb
          replace B_z0 := mv B_z0 bb
          replace B_z1 := mv B_z1 bb
          replace B_g := mv B_g bb
          replace L := Lib.hid (PL.below L.out bb)
          replace VR := Lib.hid (OwnP.below VR.out bb)
          replace HBS := Lib.hid (lebel HBS.out bb)
          replace HB := nx HB bb
          clear bb
          clear hpy
          have HG := Lib.hid (fun wzz (hg : (w1.alloc (.cells #[.int .i64 ux, .int .i64 uy] 39)).grownBy wzz (Value.ownBlock u3)) => grown_below VR.out HBS.out hg)
          go_wp2_with (at_builtin; refine wpList_append_own _ rfl _ _ 22 rfl base 39 i0 (.agg #[.int .i64 0, .int .i64 0]) 2 16 Try.underlying22 HI.out hz0 hz1 hz2 rfl (by decide) u3 (ups (l.take k)).length (pts (ups (l.take k))) rfl (VR.out.alloc _) ⟨w1.heap.size, 0, none⟩ 1 1 (pts [(ux, uy)]) rfl rfl (new_pt w1 _ _) (pts_one _) (by simp only [maxLen]; omega) (by omega) (by have := HBS.out; simp; omega) ?_; intro va2 wa2 hown3 hgrow3 hnil3; have HX3 := Lib.hid hown3; have HY3 := Lib.hid (HG.out _ hgrow3); clear hown3 hgrow3 hnil3)
          have VRn : Hid (OwnP wa2 base va2 (ups (l.take k) ++ [(ux, uy)])) := by have h := HX3.out; rw [pts_append] at h; unfold Hid OwnP; rw [List.length_append]; exact h
          replace B_z0 := Lib.hid (Bx.below B_z0.out HY3.out LT_z0.out)
          replace B_z1 := Lib.hid (Bx.below B_z1.out HY3.out LT_z1.out)
          replace L := Lib.hid (PL.belowB L.out HY3.out TL_L.out)
          replace HB := Lib.hid (HB.out.trans (HY3.out.mono HW.out))
          replace HBS := Lib.hid (Nat.le_trans HBS.out HY3.out.size)
          clear HX3 HY3 HG
          clear B_g
          rw [← HE.out] at VRn
          go_wp2_with fail
          go_roundw
          case rel => exact ⟨k + 1, by omega, by go_num, VRn, HBS, L, B_z0, B_z1, HB⟩
          case measure => simp only [intOf]; omega
      · skip
        have hpx : (px == 0) = false := by simpa using hx
        clear hx
        have hs1 : Sm px := ⟨by have := hP.1.1; dsimp only at this; omega, by have := hP.1.2; dsimp only at this; omega⟩
        have hs2 : Sm py := ⟨by have := hP.2.1; dsimp only at this; omega, by have := hP.2.2; dsimp only at this; omega⟩
        have HQ := Lib.hid (fun w => upward_is px py hs1 hs2 w)
        have HE : Hid (ups (l.take (k + 1)) = ups (l.take k) ++ [(upX px py, upY px py)]) := by unfold Hid; rw [HU.out]; unfold upz; rw [if_neg (by first | (intro e; cases e; simp at hpx) | (intro e; cases e; simp at hpy))]; rfl
        clear hs1 hs2 hP
        generalize upX px py = ux at *
        generalize upY px py = uy at *
        obtain ⟨c0g, c1g⟩ := cells2 B_g
        go_wp2_with fail
        refine (HQ.out _).mono ?_
        clear c0g c1g
        rintro e w3 ⟨rfl, bb⟩
        replace bb := nextw (w0 := WG) (by exact sm) bb
        replace B_z0 := mv B_z0 bb
        replace B_z1 := mv B_z1 bb
        replace B_g := mv B_g bb
        replace L := Lib.hid (PL.below L.out bb)
        replace VR := Lib.hid (OwnP.below VR.out bb)
        replace HBS := Lib.hid (lebel HBS.out bb)
        replace HB := nx HB bb
        clear bb
        clear hpx
        have HG := Lib.hid (fun wzz (hg : (w3.alloc (.cells #[.int .i64 ux, .int .i64 uy] 39)).grownBy wzz (Value.ownBlock u3)) => grown_below VR.out HBS.out hg)
        go_wp2_with (at_builtin; refine wpList_append_own _ rfl _ _ 22 rfl base 39 i0 (.agg #[.int .i64 0, .int .i64 0]) 2 16 Try.underlying22 HI.out hz0 hz1 hz2 rfl (by decide) u3 (ups (l.take k)).length (pts (ups (l.take k))) rfl (VR.out.alloc _) ⟨w3.heap.size, 0, none⟩ 1 1 (pts [(ux, uy)]) rfl rfl (new_pt w3 _ _) (pts_one _) (by simp only [maxLen]; omega) (by omega) (by have := HBS.out; simp; omega) ?_; intro va4 wa4 hown3 hgrow3 hnil3; have HX3 := Lib.hid hown3; have HY3 := Lib.hid (HG.out _ hgrow3); clear hown3 hgrow3 hnil3)
        have VRn : Hid (OwnP wa4 base va4 (ups (l.take k) ++ [(ux, uy)])) := by have h := HX3.out; rw [pts_append] at h; unfold Hid OwnP; rw [List.length_append]; exact h
        replace B_z0 := Lib.hid (Bx.below B_z0.out HY3.out LT_z0.out)
        replace B_z1 := Lib.hid (Bx.below B_z1.out HY3.out LT_z1.out)
        replace L := Lib.hid (PL.belowB L.out HY3.out TL_L.out)
        replace HB := Lib.hid (HB.out.trans (HY3.out.mono HW.out))
        replace HBS := Lib.hid (Nat.le_trans HBS.out HY3.out.size)
        clear HX3 HY3 HG
        clear B_g
        rw [← HE.out] at VRn
        go_wp2_with fail
        go_roundw
        case rel => exact ⟨k + 1, by omega, by go_num, VRn, HBS, L, B_z0, B_z1, HB⟩
        case measure => simp only [intOf]; omega
    · skip
      obtain rfl : k = n := by omega
      have hlen := L.out.len
      rw [List.take_of_length_le (by omega)] at VR
      obtain ⟨A2, c2, e2, -, -⟩ := VR.out.pl
      subst e2
      have hu1 : ∀ p ∈ ups l, Up p ∧ Bd 16777216 p := fun p hp => ⟨ups_up l p hp, ups_bd HH.out p hp⟩
      have hu2 : (ups l).length ≤ 1000 := by have := ups_len l; omega
      have HQ1 := Lib.hid hu1
      clear hu1 hlen
      go_wp2_with fail
      refine (SortF_any HQ1.out hu2 rfl _ VR.out HBS.out).mono ?_
      rintro e ws ⟨rfl, s, hp, hs, ho, bb⟩
      replace B_z0 := Lib.hid (Bx.below B_z0.out bb LT_z0.out)
      replace B_z1 := Lib.hid (Bx.below B_z1.out bb LT_z1.out)
      replace HB := Lib.hid (HB.out.trans (bb.mono HW.out))
      replace HBS := Lib.hid (Nat.le_trans HBS.out bb.size)
      clear bb VR
      have hcan := can_sorted hp hs
      obtain ⟨A3, c3, e3, pl3, -⟩ := ho.pl
      have hlen3 : s.length ≤ 1000 := by rw [hp.length_eq]; exact hu2
      have hb3 : ∀ p ∈ s, Up p ∧ Bd 16777216 p := fun p h => HQ1.out p (hp.mem_iff.mp h)
      have HJ := Lib.hid (fun w (lo hi : Nat) (L : PL w lo hi A2 (ups l).length c2 s) => joined_is A2 (ups l).length c2 s (by rw [← hp.length_eq]; exact hlen3) hb3 w L)
      rw [hcan] at HJ
      injection e3 with e4 e5 e6
      rw [← e4, ← e6, ← e5] at pl3
      have L2 := Lib.hid pl3
      clear pl3 e4 e5 e6 ho hs hb3 hcan hlen3 hp HQ1 hu2
      generalize (ups l).length = m at *
      skip
      have sp_z1 : Hid (w.heap.size + 1 < ws.heap.size) := B_z1.out.lt
      have lw : Hid (w.heap.size ≤ ws.heap.size) := HB.out.size
      go_wp2_with fail
      obtain ⟨c0z0, c1z0, -⟩ := cells3 B_z0
      have tk1x0 : True := trivial
      go_region_held3 (fun w' => w'.cell? ⟨w.heap.size, 0, none⟩ = some (.int .i64 x) ∧ w'.cell? ⟨w.heap.size, 1, none⟩ = some (.int .i64 y)) (((try dsimp only); (repeat' apply And.intro) <;> (first | (with_reducible assumption) | ((repeat (first | (with_reducible refine Eq.trans (cell_drew1 _ _) ?_) | (with_reducible refine Eq.trans (cell_far (by omega) _ _ _) ?_) | (with_reducible refine Eq.trans (World.cell?_alloc_lt _ _ _ (by first | (dsimp only; omega) | (simp only [World.size_alloc, World.size_setCell]; omega))) ?_))); with_reducible assumption) | assumption | go_keep)))
    (first
      | (clear tk1x0; go_at_call 74; refine (HJ.out _ _ _ (PL.below L2.out (by exact sm))).mono ?_; rintro e w5 ⟨A4, c4, rfl, L4, bb⟩; replace bb := nextw (w0 := ws) (by exact sm) bb; replace B_z0 := mv B_z0 bb; replace B_z1 := mv B_z1 bb; replace L2 := Lib.hid (PL.below L2.out bb); replace HB := nx HB bb; clear bb c0z0 c1z0; have L4' := Lib.hid L4; clear L4; have c0z1 : w5.cell? ⟨w.heap.size + 1, 0, none⟩ = some (.int .i64 0) := B_z1.out.cell 0 rfl; have c1z1 : w5.cell? ⟨w.heap.size + 1, 1, none⟩ = some (.int .i64 0) := B_z1.out.cell 1 rfl; have c2z1 : w5.cell? ⟨w.heap.size + 1, 2, none⟩ = some (.slice none 0 0) := B_z1.out.cell 2 rfl; have f0z1 : w5.frozen? ⟨w.heap.size + 1, 0, none⟩ = false := B_z1.out.frozen 0; have f1z1 : w5.frozen? ⟨w.heap.size + 1, 1, none⟩ = false := B_z1.out.frozen 1; have f2z1 : w5.frozen? ⟨w.heap.size + 1, 2, none⟩ = false := B_z1.out.frozen 2; have c0z0 : w5.cell? ⟨w.heap.size, 0, none⟩ = some (.int .i64 x) := B_z0.out.cell 0 rfl; have c1z0 : w5.cell? ⟨w.heap.size, 1, none⟩ = some (.int .i64 y) := B_z0.out.cell 1 rfl; have tk1x1 : True := trivial))
      all_goals
        obtain ⟨s0, s1, s2⟩ := cells3 (stor3 B_z1 (.int .i64 x) (.int .i64 y) (.slice A4 (canL l).length c4))
        have HF := stb3 HB (y := w.heap.size + 1) (by omega) 0 (.int .i64 x) 1 (.int .i64 y) 2 (.slice A4 (canL l).length c4)
        obtain ⟨c0z1, c1z1, c2z1⟩ := cells3 B_z1
        obtain ⟨f0z1, f1z1, f2z1⟩ := froz3 B_z1
        go_wp2_with fail
        exact bodyPost_ret (v := .agg #[.int .i64 x, .int .i64 y, .slice A4 (canL l).length c4]) (by simp [results, Try.results44, go_sem, s0, s1, s2]) rfl ⟨A4, c4, rfl, PL.outw (PL.below (PL.set (PL.set (PL.set L4'.out (Or.inl sp_z1.out) 0 (.int .i64 x)) (Or.inl sp_z1.out) 1 (.int .i64 y)) (Or.inl sp_z1.out) 2 (.slice A4 (canL l).length c4)) (by exact sm)) lw.out, nextw HF.out (by exact sm)⟩
end Go.Proofs.Ytpjbkadhmjlpfaa
