/- zonogon.joined. -/
import Derived.Test.YtpjbkadhmjlpfaaZ7
set_option linter.unusedVariables false
set_option linter.unusedSimpArgs false
namespace Go.Proofs.Ytpjbkadhmjlpfaa
open Go Go.RowKit Hd

theorem rowbel {w w' : World} {base : Nat} {A : Option Addr} {n m cap : Nat} {l : List Value} (h : w.ownsRow base 39 2 (.slice A n cap) m l) (hb : Below w.heap.size w w') : w'.ownsRow base 39 2 (.slice A n cap) m l := by
  refine ⟨h.1, ?_⟩
  rcases h.2 with h2 | ⟨g, cap, cur, e, hg, hh, r⟩
  · exact .inl h2
  · refine .inr ⟨g, cap, cur, e, hg, (hb.block g ?_).trans hh, r⟩
    rcases Nat.lt_or_ge g w.heap.size with h1 | h1
    · exact h1
    · rw [Array.getElem?_eq_none h1] at hh; cases hh

set_option maxRecDepth 100000 in
set_option maxHeartbeats 4000000 in
theorem joined_is (A : Option Addr) (n c : Nat) (l : List P2) (hn : n ≤ 1000) (hl : ∀ p ∈ l, Up p ∧ Bd 16777216 p) (w : World) {lo_L hi_L : Nat} (L : PL w lo_L hi_L A n c l) :
    Calls Try.prog 74 #[.slice A n c] w fun e w' => ∃ A' c', e = .returned (.slice A' (joinL l).length c') ∧ PL w' w.heap.size w'.heap.size A' (joinL l).length c' (joinL l) ∧ Below w.heap.size w w' := by
  have HH := Lib.hid hl
  clear hl
  obtain ⟨i0, hi0, hz0, hz1, hz2⟩ := info_parts info2
  have HI := Lib.hid hi0
  clear hi0
  replace L := Lib.hid L
  have HB := Lib.hid (Below.refl w.heap.size w)
  obtain ⟨base, hbase⟩ : ∃ base, base = w.heap.size := ⟨_, rfl⟩
  have HBS : Hid (base ≤ w.heap.size) := by unfold Hid; omega
  have HW : Hid (w.heap.size ≤ base) := by have := HB.out.size; unfold Hid; omega
  have TL_L : Hid (hi_L ≤ base) := by have := L.out.top; unfold Hid; omega
  clear hbase
  go_enter Try.func74, Try.ntmps74
  go_wp2_with fail
  go_loopw [3, 9] (fun a0 kk wx => ∃ (k : Nat), k ≤ n ∧ kk = .int .i64 k ∧ Hid (OwnP wx base a0 (joinL (l.take k))) ∧ Hid (base ≤ wx.heap.size) ∧ Hid (PL wx lo_L hi_L A n c l) ∧ Hid (Below w.heap.size w wx)) (fun _ kk _ => n - (intOf kk).toNat)
  case atStart => exact ⟨0, by omega, rfl, Lib.hid (own_nil _ _), HBS, L, HB⟩
  case round =>
    clear HBS L HB
    obtain ⟨k, hk, rfl, VR, HBS, L, HB⟩ := hrel
    by_cases hlt : k < n
    · skip
      obtain ⟨g, o, eA, hg, e0, e1⟩ := L.out.elem hlt
      have hlen := L.out.len
      have hmem : l.getD k z2 ∈ l := getD_mem (by omega)
      have HT := Lib.hid (take_snoc l z2 (k := k) (by omega))
      subst eA
      have hP := HH.out _ hmem
      have hU := joinL_snoc (l.take k) (l.getD k z2)
      rw [← HT.out] at hU
      have hB := joinL_bd (fun p hp => (HH.out p hp).2) k (by decide)
      have hk2 : (k : Int) ≤ 1000 := by omega
      generalize l.getD k z2 = q at *
      obtain ⟨px, py⟩ := q
      dsimp only at e0 e1
      obtain ⟨acc, hacc⟩ : ∃ acc, joinL (l.take k) = acc := ⟨_, rfl⟩
      rw [hacc] at VR hU hB
      have HU := Lib.hid hU
      obtain ⟨hB1, hB2⟩ := hB
      have HB1 := Lib.hid hB1
      have hP2 := Lib.hid hP.2
      clear hU hmem hg hlen hacc hP hB1
      obtain ⟨bb, B_g⟩ := box1 wr 39 #[.int .i64 px, .int .i64 py]
      replace bb := bb.out
      replace L := Lib.hid (PL.below L.out bb)
      replace VR := Lib.hid (OwnP.below VR.out bb)
      replace HBS := Lib.hid (lebel HBS.out bb)
      replace HB := nx HB bb
      clear bb
      go_upto_region 5 with (fail)
      generalize wr.alloc (.cells #[.int .i64 px, .int .i64 py] 39) = WG at *
      clear e0 e1
      rcases nil_or_snoc acc with hac | ⟨u, ⟨sx, sy⟩, hac⟩
      · skip
        subst hac
        obtain ⟨A2, c2, e2, -, -⟩ := VR.out.pl
        rw [show ([] : List P2).length = 0 from rfl] at e2
        subst e2
        go_upto_region 6 with (fail)
        obtain ⟨c0g, c1g⟩ := cells2 B_g
        refine wp_region_held_drew (S := fun w' => w'.cell? ⟨wr.heap.size, 0, none⟩ = some (.int .i64 px) ∧ w'.cell? ⟨wr.heap.size, 1, none⟩ = some (.int .i64 py)) (by kernel_rfl) ?_ (fun hH1x0 => ?_)
        · ((try dsimp only); (repeat' apply And.intro) <;> (first | (with_reducible assumption) | ((repeat (first | (with_reducible refine Eq.trans (cell_drew1 _ _) ?_) | (with_reducible refine Eq.trans (cell_far (by omega) _ _ _) ?_) | (with_reducible refine Eq.trans (World.cell?_alloc_lt _ _ _ (by first | (dsimp only; omega) | (simp only [World.size_alloc, World.size_setCell]; omega))) ?_))); with_reducible assumption) | assumption | go_keep))
        refine wpAnyH_take (i := 0) (v := ?hv1x0) rfl (by kernel_rfl) (by kernel_rfl) (by kernel_rfl) (fun _ _ _ h => h) (Or.inl ⟨by kernel_rfl, ?hy1x0⟩) (by assumption) ?hr1x0
        case hy1x0 => (intro w hSw; (try dsimp only at hSw); go_simp <;> with_reducible rfl)
        simp only [Act.put, List.setIfInBounds_toArray, List.set_cons_zero, List.set_cons_succ, List.getElem_toArray, List.getElem_cons_zero, List.getElem_cons_succ]
        refine wpAnyH_take (i := 1) (v := ?hv1x1) rfl (by kernel_rfl) (by kernel_rfl) (by kernel_rfl) (fun _ _ _ h => h) (Or.inl ⟨by kernel_rfl, ?hy1x1⟩) (by assumption) ?hr1x1
        case hy1x1 => (intro w hSw; (try dsimp only at hSw); go_simp <;> with_reducible rfl)
        simp only [Act.put, List.setIfInBounds_toArray, List.set_cons_zero, List.set_cons_succ, List.getElem_toArray, List.getElem_cons_zero, List.getElem_cons_succ]
        refine wpAnyH_take (i := 2) (v := ?hv1x2) rfl (by kernel_rfl) (by kernel_rfl) (by kernel_rfl) (fun _ _ _ h => h) (Or.inl ⟨by kernel_rfl, ?hy1x2⟩) (by assumption) ?hr1x2
        case hy1x2 => (intro w hSw; (try dsimp only at hSw); go_simp <;> with_reducible rfl)
        simp only [Act.put, List.setIfInBounds_toArray, List.set_cons_zero, List.set_cons_succ, List.getElem_toArray, List.getElem_cons_zero, List.getElem_cons_succ]
        refine wpAnyH_take (i := 3) (v := undef) rfl (by kernel_rfl) (by kernel_rfl) (by kernel_rfl) (fun _ _ _ h => h) (Or.inr ⟨by kernel_rfl, rfl⟩) (by assumption) ?_
        simp only [Act.put, List.setIfInBounds_toArray, List.set_cons_zero, List.set_cons_succ, List.getElem_toArray, List.getElem_cons_zero, List.getElem_cons_succ]
        refine wpAnyH_take (i := 4) (v := undef) rfl (by kernel_rfl) (by kernel_rfl) (by kernel_rfl) (fun _ _ _ h => h) (Or.inr ⟨by kernel_rfl, rfl⟩) (by assumption) ?_
        simp only [Act.put, List.setIfInBounds_toArray, List.set_cons_zero, List.set_cons_succ, List.getElem_toArray, List.getElem_cons_zero, List.getElem_cons_succ]
        refine wpAnyH_take (i := 5) (v := undef) rfl (by kernel_rfl) (by kernel_rfl) (by kernel_rfl) (fun _ _ _ h => h) (Or.inr ⟨by kernel_rfl, rfl⟩) (by assumption) ?_
        simp only [Act.put, List.setIfInBounds_toArray, List.set_cons_zero, List.set_cons_succ, List.getElem_toArray, List.getElem_cons_zero, List.getElem_cons_succ]
        refine wpAnyH_take (i := 6) (v := undef) rfl (by kernel_rfl) (by kernel_rfl) (by kernel_rfl) (fun _ _ _ h => h) (Or.inr ⟨by kernel_rfl, rfl⟩) (by assumption) ?_
        simp only [Act.put, List.setIfInBounds_toArray, List.set_cons_zero, List.set_cons_succ, List.getElem_toArray, List.getElem_cons_zero, List.getElem_cons_succ]
        refine wpAnyH_take (i := 7) (v := undef) rfl (by kernel_rfl) (by kernel_rfl) (by kernel_rfl) (fun _ _ _ h => h) (Or.inr ⟨by kernel_rfl, rfl⟩) (by assumption) ?_
        simp only [Act.put, List.setIfInBounds_toArray, List.set_cons_zero, List.set_cons_succ, List.getElem_toArray, List.getElem_cons_zero, List.getElem_cons_succ]
        refine wpAnyH_take (i := 8) (v := undef) rfl (by kernel_rfl) (by kernel_rfl) (by kernel_rfl) (fun _ _ _ h => h) (Or.inr ⟨by kernel_rfl, rfl⟩) (by assumption) ?_
        simp only [Act.put, List.setIfInBounds_toArray, List.set_cons_zero, List.set_cons_succ, List.getElem_toArray, List.getElem_cons_zero, List.getElem_cons_succ]
        refine wpAnyH_take (i := 9) (v := undef) rfl (by kernel_rfl) (by kernel_rfl) (by kernel_rfl) (fun _ _ _ h => h) (Or.inr ⟨by kernel_rfl, rfl⟩) (by assumption) ?_
        simp only [Act.put, List.setIfInBounds_toArray, List.set_cons_zero, List.set_cons_succ, List.getElem_toArray, List.getElem_cons_zero, List.getElem_cons_succ]
        refine wpAnyH_take (i := 10) (v := ?hv1x10) rfl (by kernel_rfl) (by kernel_rfl) (by kernel_rfl) (fun _ _ _ h => h) (Or.inl ⟨by kernel_rfl, ?hy1x10⟩) (by assumption) ?hr1x10
        case hy1x10 => (intro w hSw; (try dsimp only at hSw); go_simp <;> with_reducible rfl)
        simp only [Act.put, List.setIfInBounds_toArray, List.set_cons_zero, List.set_cons_succ, List.getElem_toArray, List.getElem_cons_zero, List.getElem_cons_succ]
        refine wpAnyH_done (by kernel_rfl) ?_ _
        clear hH1x0
        clear c0g c1g
        have bb : Below WG.heap.size WG WG.drew := ⟨rfl, rfl, rfl, Nat.le_refl _, fun _ _ => rfl⟩
        replace B_g := mv B_g bb
        replace L := Lib.hid (PL.below L.out bb)
        replace VR := Lib.hid (OwnP.below VR.out bb)
        replace HBS := Lib.hid (lebel HBS.out bb)
        replace HB := nx HB bb
        generalize WG.drew = w1q at *
        clear bb
        go_upto_region 8 with (fail)
        obtain ⟨c0g, c1g⟩ := cells2 B_g
        have HE : Hid (joinL (l.take (k + 1)) = [] ++ [(px, py)]) := HU.out
        have HG := Lib.hid (fun wzz (hg : (w1q.alloc (.cells #[.int .i64 px, .int .i64 py] 39)).grownBy wzz (Value.ownBlock (.slice A2 0 c2))) => grown_below VR.out HBS.out hg)
        go_wp2_with (at_builtin; refine wpList_append_own _ rfl _ _ 22 rfl base 39 i0 (.agg #[.int .i64 0, .int .i64 0]) 2 16 Try.underlying22 HI.out hz0 hz1 hz2 rfl (by decide) (.slice A2 0 c2) ([]).length (pts ([])) rfl (VR.out.alloc _) ⟨w1q.heap.size, 0, none⟩ 1 1 (pts [(px, py)]) rfl rfl (new_pt w1q _ _) (pts_one _) (by simp only [maxLen]; omega) (by omega) (by have := HBS.out; simp; omega) ?_; intro va2 wa2 hown3 hgrow3 hnil3; have HX3 := Lib.hid hown3; have HY3 := Lib.hid (HG.out _ hgrow3); clear hown3 hgrow3 hnil3)
        have VRn : Hid (OwnP wa2 base va2 ([] ++ [(px, py)])) := by have h := HX3.out; rw [pts_append] at h; unfold Hid OwnP; rw [List.length_append]; exact h
        replace L := Lib.hid (PL.belowB L.out HY3.out TL_L.out)
        replace HB := Lib.hid (HB.out.trans (HY3.out.mono HW.out))
        replace HBS := Lib.hid (Nat.le_trans HBS.out HY3.out.size)
        clear HX3 HY3 HG
        clear B_g
        rw [← HE.out] at VRn
        go_wp2_with fail
        clear c0g c1g
        go_roundw
        case rel => exact ⟨k + 1, by omega, by go_num, VRn, HBS, L, HB⟩
        case measure => simp only [intOf]; omega
      · skip
        subst hac
        rw [js_snoc] at HU
        obtain ⟨m, hm⟩ : ∃ m, u.length = m := ⟨_, rfl⟩
        have hlu : (u ++ [(sx, sy)]).length = m + 1 := by simp [hm]
        rcases VR.out.2 with ⟨h0, h1⟩ | ⟨g2, cap, cur, e2, hg2, -, -, -, -, -⟩
        · rw [hlu] at h1; omega
        subst e2
        rw [hlu] at hB2
        skip
        have hs := HB1.out (sx, sy) (by simp)
        obtain ⟨⟨s1, s2⟩, s3, s4⟩ := hs
        obtain ⟨⟨q1, q2⟩, q3, q4⟩ := hP2.out
        dsimp only at s1 s2 s3 s4 q1 q2 q3 q4
        have w1 : Wi sx 16777216000 := ⟨by omega, by omega⟩
        have w2 : Wi sy 16777216000 := ⟨by omega, by omega⟩
        have w3 : Wi px 16777216 := ⟨by omega, by omega⟩
        have w4 : Wi py 16777216 := ⟨by omega, by omega⟩
        have m1 := wi_mul w1 w4
        have m2 := wi_mul w2 w3
        obtain ⟨m11, m12⟩ := m1
        obtain ⟨m21, m22⟩ := m2
        have HD := Lib.hid (fun w => cross_is sx sy px py ⟨by omega, by omega⟩ ⟨by omega, by omega⟩ w)
        clear m11 m12 m21 m22 w1 w2 w3 w4
        have HM := Lib.hid hm
        have HLU := Lib.hid hlu
        clear hlu hm
        have VR' : Hid ((WG).ownsRow base 39 2 (.slice (some ⟨g2, 0, none⟩) (m + 1) cap) (m + 1) (pts (u ++ [(sx, sy)]))) := by have h := VR.out; unfold OwnP at h; rw [HLU.out] at h; exact h
        rw [HLU.out]
        clear VR
        have hg2' := Lib.hid hg2
        clear hg2
        have PT := Lib.hid (pts_last u (sx, sy))
        rw [HM.out] at PT
        have ek : IntKind.i64.wrap (((m + 1 : Nat) : Int) - 1) = (m : Int) := by rw [IntKind.wrap_i64]; omega
        have ek2 : IntKind.i64.wrap (m : Int) = (m : Int) := by rw [IntKind.wrap_i64]; omega
        have ek3 : IntKind.i64.wrap ((m : Int) + 1 - 1) = (m : Int) := by rw [IntKind.wrap_i64]; omega
        have hbA : (m : Int) < ((m + 1 : Nat) : Int) := by omega
        have hbB : (m : Int) < (m : Int) + 1 := by omega
        have hbC : (0 : Int) ≤ (m : Int) := by omega
        by_cases hz : crs (sx, sy) (px, py) = 0
        · skip
          have hz2 : cr sx sy px py = 0 := hz
          rw [if_pos hz] at HU
          rw [hz2] at HD
          clear hz hz2
          go_upto_region 6 with (fail)
          obtain ⟨c0g, c1g⟩ := cells2 B_g
          have d0 : WG.cell? ⟨g2, m * 2, none⟩ = some (.int .i64 sx) := (VR'.out.cellAt (m * 2) (by omega)).trans PT.out.1
          have d1 : WG.cell? ⟨g2, m * 2 + 1, none⟩ = some (.int .i64 sy) := (VR'.out.cellAt (m * 2 + 1) (by omega)).trans PT.out.2
          have tk1x0 : True := trivial
          go_region_held3 (fun w' => w'.cell? ⟨g2, m * 2, none⟩ = some (.int .i64 sx) ∧ w'.cell? ⟨g2, m * 2 + 1, none⟩ = some (.int .i64 sy) ∧ w'.cell? ⟨wr.heap.size, 0, none⟩ = some (.int .i64 px) ∧ w'.cell? ⟨wr.heap.size, 1, none⟩ = some (.int .i64 py)) (((try dsimp only); (repeat' apply And.intro) <;> (first | (with_reducible assumption) | ((repeat (first | (with_reducible refine Eq.trans (cell_drew1 _ _) ?_) | (with_reducible refine Eq.trans (cell_far (by omega) _ _ _) ?_) | (with_reducible refine Eq.trans (World.cell?_alloc_lt _ _ _ (by first | (dsimp only; omega) | (simp only [World.size_alloc, World.size_setCell]; omega))) ?_))); with_reducible assumption) | assumption | go_keep)))
    (first
      | (clear tk1x0; go_at_call 53; refine (HD.out _).mono ?_; rintro e w3 ⟨rfl, bb⟩; replace bb := nextw (w0 := WG) (by exact sm) bb; replace B_g := mv B_g bb; replace L := Lib.hid (PL.below L.out bb); replace HBS := Lib.hid (lebel HBS.out bb); replace VR' := Lib.hid (rowbel VR'.out bb); replace HB := nx HB bb; clear bb c0g c1g d0 d1; have d0 : w3.cell? ⟨g2, m * 2, none⟩ = some (.int .i64 sx) := (VR'.out.cellAt (m * 2) (by omega)).trans PT.out.1; have d1 : w3.cell? ⟨g2, m * 2 + 1, none⟩ = some (.int .i64 sy) := (VR'.out.cellAt (m * 2 + 1) (by omega)).trans PT.out.2; have c0g : w3.cell? ⟨wr.heap.size, 0, none⟩ = some (.int .i64 px) := B_g.out.cell 0 rfl; have c1g : w3.cell? ⟨wr.heap.size, 1, none⟩ = some (.int .i64 py) := B_g.out.cell 1 rfl; have tk1x1 : True := trivial))
          clear c0g c1g d0 d1
          go_upto_region 7 with (fail)
          obtain ⟨c0g, c1g⟩ := cells2 B_g
          have d0 : w3.cell? ⟨g2, m * 2, none⟩ = some (.int .i64 sx) := (VR'.out.cellAt (m * 2) (by omega)).trans PT.out.1
          have d1 : w3.cell? ⟨g2, m * 2 + 1, none⟩ = some (.int .i64 sy) := (VR'.out.cellAt (m * 2 + 1) (by omega)).trans PT.out.2
          have fz0 : w3.frozen? ⟨g2, m * 2, none⟩ = false := VR'.out.frozenAt _
          have fz1 : w3.frozen? ⟨g2, m * 2 + 1, none⟩ = false := VR'.out.frozenAt _
          have ea : IntKind.i64.wrap (sx + px) = sx + px := by rw [IntKind.wrap_i64]; omega
          have eb : IntKind.i64.wrap (sy + py) = sy + py := by rw [IntKind.wrap_i64]; omega
          go_region
          clear c0g c1g d0 d1 fz0 fz1
          have hge : Hid (base ≤ g2) := hg2'
          have VR2 : Hid (OwnP ((w3.setCell ⟨g2, m * 2, none⟩ (.int .i64 (sx + px))).setCell ⟨g2, m * 2 + 1, none⟩ (.int .i64 (sy + py))) base (.slice (some ⟨g2, 0, none⟩) (m + 1) cap) (joinL (l.take (k + 1)))) := by rw [HU.out]; have h := ((VR'.out.stored (m * 2) (.int .i64 (sx + px))).1.stored (m * 2 + 1) (.int .i64 (sy + py))).1; have e := pts_set2 u (sx, sy) (sx + px) (sy + py); rw [HM.out] at e; rw [e] at h; unfold Hid OwnP; rw [show (u ++ [addP (sx, sy) (px, py)]).length = m + 1 by simp [HM.out]]; exact h
          replace L := Lib.hid (PL.set (PL.set L.out (Or.inr (Nat.le_trans TL_L.out hge.out)) (m * 2) (.int .i64 (sx + px))) (Or.inr (Nat.le_trans TL_L.out hge.out)) (m * 2 + 1) (.int .i64 (sy + py)))
          replace HB := Lib.hid (Below.setCell (Below.setCell HB.out (p := ⟨g2, m * 2, none⟩) (Nat.le_trans HW.out hge.out) (.int .i64 (sx + px))) (p := ⟨g2, m * 2 + 1, none⟩) (Nat.le_trans HW.out hge.out) (.int .i64 (sy + py)))
          replace HBS : Hid (base ≤ (((w3.setCell ⟨g2, m * 2, none⟩ (.int .i64 (sx + px))).setCell ⟨g2, m * 2 + 1, none⟩ (.int .i64 (sy + py)))).heap.size) := by have := HBS.out; unfold Hid; simpa using this
          generalize (w3.setCell ⟨g2, m * 2, none⟩ (.int .i64 (sx + px))).setCell ⟨g2, m * 2 + 1, none⟩ (.int .i64 (sy + py)) = WS at *
          have bb : Below WS.heap.size WS WS.drew := ⟨rfl, rfl, rfl, Nat.le_refl _, fun _ _ => rfl⟩
          replace VR2 := Lib.hid (OwnP.below VR2.out bb)
          replace HBS := Lib.hid (lebel HBS.out bb)
          replace L := Lib.hid (PL.below L.out bb)
          replace HB := nx HB bb
          generalize WS.drew = w4q at *
          clear bb
          go_wp2_with fail
          go_roundw
          case rel => exact ⟨k + 1, by omega, by go_num, VR2, HBS, L, HB⟩
          case measure => simp only [intOf]; omega
        · skip
          have hz2 : cr sx sy px py ≠ 0 := hz
          rw [if_neg hz] at HU
          generalize cr sx sy px py = d at *
          have hd : (d == 0) = false := by simpa using hz2
          clear hz hz2
          go_upto_region 6 with (fail)
          obtain ⟨c0g, c1g⟩ := cells2 B_g
          have d0 : WG.cell? ⟨g2, m * 2, none⟩ = some (.int .i64 sx) := (VR'.out.cellAt (m * 2) (by omega)).trans PT.out.1
          have d1 : WG.cell? ⟨g2, m * 2 + 1, none⟩ = some (.int .i64 sy) := (VR'.out.cellAt (m * 2 + 1) (by omega)).trans PT.out.2
          have tk2x0 : True := trivial
          go_region_held3 (fun w' => w'.cell? ⟨g2, m * 2, none⟩ = some (.int .i64 sx) ∧ w'.cell? ⟨g2, m * 2 + 1, none⟩ = some (.int .i64 sy) ∧ w'.cell? ⟨wr.heap.size, 0, none⟩ = some (.int .i64 px) ∧ w'.cell? ⟨wr.heap.size, 1, none⟩ = some (.int .i64 py)) (((try dsimp only); (repeat' apply And.intro) <;> (first | (with_reducible assumption) | ((repeat (first | (with_reducible refine Eq.trans (cell_drew1 _ _) ?_) | (with_reducible refine Eq.trans (cell_far (by omega) _ _ _) ?_) | (with_reducible refine Eq.trans (World.cell?_alloc_lt _ _ _ (by first | (dsimp only; omega) | (simp only [World.size_alloc, World.size_setCell]; omega))) ?_))); with_reducible assumption) | assumption | go_keep)))
    (first
      | (clear tk2x0; go_at_call 53; refine (HD.out _).mono ?_; rintro e w5 ⟨rfl, bb⟩; replace bb := nextw (w0 := WG) (by exact sm) bb; replace B_g := mv B_g bb; replace L := Lib.hid (PL.below L.out bb); replace HBS := Lib.hid (lebel HBS.out bb); replace VR' := Lib.hid (rowbel VR'.out bb); replace HB := nx HB bb; clear bb c0g c1g d0 d1; have d0 : w5.cell? ⟨g2, m * 2, none⟩ = some (.int .i64 sx) := (VR'.out.cellAt (m * 2) (by omega)).trans PT.out.1; have d1 : w5.cell? ⟨g2, m * 2 + 1, none⟩ = some (.int .i64 sy) := (VR'.out.cellAt (m * 2 + 1) (by omega)).trans PT.out.2; have c0g : w5.cell? ⟨wr.heap.size, 0, none⟩ = some (.int .i64 px) := B_g.out.cell 0 rfl; have c1g : w5.cell? ⟨wr.heap.size, 1, none⟩ = some (.int .i64 py) := B_g.out.cell 1 rfl; have tk2x1 : True := trivial))
          clear c0g c1g d0 d1
          go_upto_region 8 with (fail)
          obtain ⟨c0g, c1g⟩ := cells2 B_g
          have VR2 : Hid (OwnP w5 base (.slice (some ⟨g2, 0, none⟩) (m + 1) cap) (u ++ [(sx, sy)])) := by unfold Hid OwnP; rw [HLU.out]; exact VR'.out
          clear VR'
          have hlu3 : ((u ++ [(sx, sy)])).length ≤ 1001 := by rw [HLU.out]; omega
          have HG := Lib.hid (fun wzz (hg : (w5.alloc (.cells #[.int .i64 px, .int .i64 py] 39)).grownBy wzz (Value.ownBlock (.slice (some ⟨g2, 0, none⟩) (m + 1) cap))) => grown_below VR2.out HBS.out hg)
          go_wp2_with (at_builtin; refine wpList_append_own _ rfl _ _ 22 rfl base 39 i0 (.agg #[.int .i64 0, .int .i64 0]) 2 16 Try.underlying22 HI.out hz0 hz1 hz2 rfl (by decide) (.slice (some ⟨g2, 0, none⟩) (m + 1) cap) ((u ++ [(sx, sy)])).length (pts ((u ++ [(sx, sy)]))) rfl (VR2.out.alloc _) ⟨w5.heap.size, 0, none⟩ 1 1 (pts [(px, py)]) rfl rfl (new_pt w5 _ _) (pts_one _) (by simp only [maxLen]; omega) (by omega) (by have := HBS.out; simp; omega) ?_; intro va6 wa6 hown3 hgrow3 hnil3; have HX3 := Lib.hid hown3; have HY3 := Lib.hid (HG.out _ hgrow3); clear hown3 hgrow3 hnil3)
          have VRn : Hid (OwnP wa6 base va6 ((u ++ [(sx, sy)]) ++ [(px, py)])) := by have h := HX3.out; rw [pts_append] at h; unfold Hid OwnP; rw [List.length_append]; exact h
          replace L := Lib.hid (PL.belowB L.out HY3.out TL_L.out)
          replace HB := Lib.hid (HB.out.trans (HY3.out.mono HW.out))
          replace HBS := Lib.hid (Nat.le_trans HBS.out HY3.out.size)
          clear HX3 HY3 HG
          clear B_g
          rw [← HU.out] at VRn
          go_wp2_with fail
          clear c0g c1g
          go_roundw
          case rel => exact ⟨k + 1, by omega, by go_num, VRn, HBS, L, HB⟩
          case measure => simp only [intOf]; omega
    · skip
      obtain rfl : k = n := by omega
      have hlen := L.out.len
      rw [List.take_of_length_le (by omega)] at VR
      obtain ⟨A2, c2, e2, pl2, -⟩ := VR.out.pl
      subst e2
      have L2 := Lib.hid pl2
      clear hlen pl2 VR
      go_wp2
      go_ret
      exact ⟨A2, c2, rfl, PL.outw (PL.below L2.out (by exact sm)) HW.out, HB.out⟩
end Go.Proofs.Ytpjbkadhmjlpfaa
