/- the reference's canon. -/
import Derived.Test.YtpjbkadhmjlpfaaZ24
set_option linter.unusedVariables false
set_option linter.unusedSimpArgs false
namespace Go.Proofs.Ytpjbkadhmjlpfaa
open Go Go.RowKit Hd

set_option maxRecDepth 100000 in
set_option maxHeartbeats 4000000 in
theorem putzero_w0 (A : Option Addr) (n c : Nat) (l : List P2)    (w : World) {lo_L hi_L : Nat} (L : PL w lo_L hi_L A n c l) :
    Calls Try.prog 75 #[.slice A n c, .agg #[.int .i64 0, .int .i64 0]] w fun e w' => e = .returned (.slice A n c) ∧ Below w.heap.size w w' := by
  replace L := Lib.hid L
  obtain ⟨HB, B_z0⟩ := box1 w 39 #[.int .i64 0, .int .i64 0]
  replace L := Lib.hid (PL.below L.out HB.out)
  go_enter Try.func75, Try.ntmps75
  go_upto_region 1 with (fail)
  generalize w.alloc (.cells #[.int .i64 0, .int .i64 0] 39) = W0 at *
  obtain ⟨c0z0, c1z0⟩ := cells2 B_z0
  go_wp2
  go_ret
  exact ⟨(by first | rfl | exact rbt (by omega) | exact rbf (by omega)), nextw HB.out (by exact sm)⟩

set_option maxRecDepth 100000 in
set_option maxHeartbeats 4000000 in
theorem canon_is (x y : Int) (A : Option Addr) (n c : Nat) (l : List P2) (hn : n ≤ 200) (hl : ∀ p ∈ l, Bd 65536 p) (w : World) {lo_L hi_L : Nat} (L : PL w lo_L hi_L A n c l) :
    Calls Try.prog 45 #[.agg #[.int .i64 x, .int .i64 y, .slice A n c]] w fun e w' => ∃ A' c', e = .returned (.agg #[.int .i64 x, .int .i64 y, .slice A' (canL l).length c']) ∧ PL w' w.heap.size w'.heap.size A' (canL l).length c' (canL l) ∧ Below w.heap.size w w' := by
  have HH := Lib.hid hl
  have hiL : Hid (hi_L ≤ w.heap.size) := L.top
  replace L := Lib.hid L
  obtain ⟨HB, B_z0, B_z1⟩ := box2 w 24 #[.int .i64 x, .int .i64 y, .slice A n c] 24 #[.int .i64 0, .int .i64 0, .slice none 0 0]
  replace L := plm L HB.out
  go_enter Try.func45, Try.ntmps45
  go_upto_region 1 with (fail)
  generalize (w.alloc (.cells #[.int .i64 x, .int .i64 y, .slice A n c] 24)).alloc (.cells #[.int .i64 0, .int .i64 0, .slice none 0 0] 24) = W0 at *
  obtain ⟨c0z0, c1z0, c2z0⟩ := cells3 B_z0
  have hpa0 : w.heap.size + 1 < W0.heap.size := B_z1.out.lt
  have lt_oz0 := B_z0.out.lt
  have lt_oz1 := B_z1.out.lt
  obtain ⟨bb, B_o⟩ := box1 W0 24 #[.int .i64 x, .int .i64 y, .slice none 0 0]
  replace bb := bb.out
  replace B_z0 := mv B_z0 bb
  replace B_z1 := mv B_z1 bb
  replace L := Lib.hid (PL.below L.out bb)
  replace HB := nx HB bb
  clear bb
  go_wp2_with fail
  clear c0z0 c1z0 c2z0
  generalize W0.alloc (.cells #[.int .i64 x, .int .i64 y, .slice none 0 0] 24) = WA at *
  generalize W0.heap.size = po at *
  have C0 := Lib.hid (pl_nil WA WA.heap.size)
  have SEP0 : Hid (po < WA.heap.size) := B_o.out.lt
  go_loopw [4] (fun  kk wx => ∃ (k : Nat) (A3 : Option Addr) (c3 : Nat) (lo3 : Nat) (hi3 : Nat), k ≤ n ∧ kk = .int .i64 k ∧ Hid (Bx wx (po) 24 #[.int .i64 x, .int .i64 y, .slice A3 (canL (l.take k)).length c3]) ∧ Hid (PL wx lo3 hi3 A3 (canL (l.take k)).length c3 (canL (l.take k))) ∧ Hid (po < lo3) ∧ Hid (PL wx lo_L hi_L A n c l) ∧ Hid (Bx wx (w.heap.size) 24 #[.int .i64 x, .int .i64 y, .slice A n c]) ∧ Hid (Bx wx (w.heap.size + 1) 24 #[.int .i64 0, .int .i64 0, .slice none 0 0]) ∧ Hid (Below w.heap.size w wx)) (fun  kk _ => n - (intOf kk).toNat)
  case atStart => exact ⟨0, none, 0, WA.heap.size, WA.heap.size, by omega, rfl, B_o, C0, SEP0, L, B_z0, B_z1, HB⟩
  case round =>
    clear B_o C0 SEP0 L B_z0 B_z1 HB
    obtain ⟨k, A3, c3, lo3, hi3, hk, rfl, B_o, C, SEP, L, B_z0, B_z1, HB⟩ := hrel
    by_cases hlt : k < n
    · skip
      obtain ⟨g, o, eA, hg, e0, e1⟩ := L.out.elem hlt
      have hlen := L.out.len
      have hmem : l.getD k z2 ∈ l := getD_mem (by omega)
      have HT := Lib.hid (take_snoc l z2 (k := k) (by omega))
      subst eA
      have hbk := canL_bd HH.out k (by decide)
      have hcl : (canL (l.take k)).length ≤ 400 := by omega
      have HCB : Hid (∀ p ∈ canL (l.take k), Bd 16777216 p) := fun p hp => (hbk.1 p hp).mono (by omega)
      have hP := HH.out _ hmem
      have HSN := Lib.hid (canL_snoc (l.take k) (l.getD k z2))
      rw [← HT.out] at HSN
      generalize hpe : l.getD k z2 = q at *
      obtain ⟨px, py⟩ := q
      have HPE := Lib.hid hpe
      have HP2 : Hid (Bd 16777216 (px, py)) := hP.mono (by decide)
      have HLT := Lib.hid hlt
      generalize canL (l.take k) = cl at *
      have hgs := hg.2
      have hiL2 := hiL.out
      clear hbk hP hmem hg hlen hpe e0 e1
      have lto := B_o.out.lt
      by_cases hz : (px, py) = ((0 : Int), (0 : Int))
      · skip
        injection hz with hz1 hz2
        subst hz1
        subst hz2
        have HN : Hid (canL (l.take (k + 1)) = cl) := by unfold Hid; rw [HSN.out]; exact if_pos rfl
        obtain ⟨c0z0, c1z0, c2z0⟩ := cells3 B_z0
        go_upto_region 5 with (fail)
        clear c0z0 c1z0 c2z0
        obtain ⟨c0z0, c1z0, c2z0⟩ := cells3 B_z0
        have e0 : wr.cell? ⟨g, o + k * 2, none⟩ = some (.int .i64 0) := (PL.elemAt L.out HLT.out HPE.out).1
        have e1 : wr.cell? ⟨g, o + k * 2 + 1, none⟩ = some (.int .i64 0) := (PL.elemAt L.out HLT.out HPE.out).2
        refine wp_region_held_drew (S := fun w' => w'.cell? ⟨g, o + k * 2, none⟩ = some (.int .i64 0) ∧ w'.cell? ⟨g, o + k * 2 + 1, none⟩ = some (.int .i64 0) ∧ w'.cell? ⟨w.heap.size, 0, none⟩ = some (.int .i64 x) ∧ w'.cell? ⟨w.heap.size, 1, none⟩ = some (.int .i64 y) ∧ w'.cell? ⟨w.heap.size, 2, none⟩ = some (.slice (some ⟨g, o, none⟩) n c)) (by kernel_rfl) ?_ (fun hH0 => ?_)
        · ((try dsimp only); (repeat' apply And.intro) <;> (first | (with_reducible assumption) | ((repeat (first | (with_reducible refine Eq.trans (cell_drew1 _ _) ?_) | (with_reducible refine Eq.trans (cell_far (by omega) _ _ _) ?_) | (with_reducible refine Eq.trans (World.cell?_alloc_lt _ _ _ (by first | (dsimp only; omega) | (simp only [World.size_alloc, World.size_setCell]; omega))) ?_))); with_reducible assumption) | assumption | go_keep))
        refine wpAnyH_take (i := 0) (v := ?hv1x0) rfl (by kernel_rfl) (by kernel_rfl) (by kernel_rfl) (fun _ _ _ h => h) (Or.inl ⟨by kernel_rfl, ?hy1x0⟩) (by assumption) ?hr1x0
        case hy1x0 => (intro w hSw; (try dsimp only at hSw); go_simp <;> with_reducible rfl)
        simp only [Act.put, List.setIfInBounds_toArray, List.set_cons_zero, List.set_cons_succ, List.getElem_toArray, List.getElem_cons_zero, List.getElem_cons_succ]
        refine wpAnyH_take (i := 2) (v := ?hv2x2) rfl (by kernel_rfl) (by kernel_rfl) (by kernel_rfl) (fun _ _ _ h => h) (Or.inl ⟨by kernel_rfl, ?hy2x2⟩) (by assumption) ?hr2x2
        case hy2x2 => (intro w hSw; (try dsimp only at hSw); go_simp <;> with_reducible rfl)
        simp only [Act.put, List.setIfInBounds_toArray, List.set_cons_zero, List.set_cons_succ, List.getElem_toArray, List.getElem_cons_zero, List.getElem_cons_succ]
        refine wpAnyH_take (i := 3) (v := ?hv3x3) rfl (by kernel_rfl) (by kernel_rfl) (by kernel_rfl) (fun _ _ _ h => h) (Or.inl ⟨by kernel_rfl, ?hy3x3⟩) (by assumption) ?hr3x3
        case hy3x3 => (intro w hSw; (try dsimp only at hSw); go_simp <;> with_reducible rfl)
        simp only [Act.put, List.setIfInBounds_toArray, List.set_cons_zero, List.set_cons_succ, List.getElem_toArray, List.getElem_cons_zero, List.getElem_cons_succ]
        refine wpAnyH_take (i := 4) (v := ?hv4x4) rfl (by kernel_rfl) (by kernel_rfl) (by kernel_rfl) (fun _ _ _ h => h) (Or.inl ⟨by kernel_rfl, ?hy4x4⟩) (by assumption) ?hr4x4
        case hy4x4 => (intro w hSw; (try dsimp only at hSw); go_simp <;> with_reducible rfl)
        simp only [Act.put, List.setIfInBounds_toArray, List.set_cons_zero, List.set_cons_succ, List.getElem_toArray, List.getElem_cons_zero, List.getElem_cons_succ]
        refine wpAnyH_take (i := 5) (v := ?hv5x5) rfl (by kernel_rfl) (by kernel_rfl) (by kernel_rfl) (fun _ _ _ h => h) (Or.inl ⟨by kernel_rfl, ?hy5x5⟩) (by assumption) ?hr5x5
        case hy5x5 => (intro w hSw; (try dsimp only at hSw); go_simp <;> with_reducible rfl)
        simp only [Act.put, List.setIfInBounds_toArray, List.set_cons_zero, List.set_cons_succ, List.getElem_toArray, List.getElem_cons_zero, List.getElem_cons_succ]
        refine wpAnyH_take (i := 6) (v := ?hv6x6) rfl (by kernel_rfl) (by kernel_rfl) (by kernel_rfl) (fun _ _ _ h => h) (Or.inl ⟨by kernel_rfl, ?hy6x6⟩) (by assumption) ?hr6x6
        case hy6x6 => (intro w hSw; (try dsimp only at hSw); go_simp <;> with_reducible rfl)
        simp only [Act.put, List.setIfInBounds_toArray, List.set_cons_zero, List.set_cons_succ, List.getElem_toArray, List.getElem_cons_zero, List.getElem_cons_succ]
        refine wpAnyH_ready (rs := [1]) (by kernel_rfl) (by simp) ?_
        refine AllReadyH.cons rfl (fun K hK => ?_) AllReadyH.nil
        have c2o : wr.cell? ⟨po, 2, none⟩ = some (.slice A3 cl.length c3) := B_o.out.cell 2 rfl
        go_simp
        refine hK.out _ _ ?_ (fun hH1 => ?_)
        · ((try dsimp only); (repeat' apply And.intro) <;> (first | (with_reducible assumption) | ((repeat (first | (with_reducible refine Eq.trans (cell_drew1 _ _) ?_) | (with_reducible refine Eq.trans (cell_far (by omega) _ _ _) ?_) | (with_reducible refine Eq.trans (World.cell?_alloc_lt _ _ _ (by first | (dsimp only; omega) | (simp only [World.size_alloc, World.size_setCell]; omega))) ?_))); with_reducible assumption) | assumption | go_keep))
        clear hK K hH0 c2o
        try simp only [Act.put, List.setIfInBounds_toArray, List.set_cons_zero, List.set_cons_succ, List.getElem_toArray, List.getElem_cons_zero, List.getElem_cons_succ]
        refine wpAnyH_ready (rs := [7]) (by kernel_rfl) (by simp) ?_
        refine AllReadyH.cons rfl (fun K hK => ?_) AllReadyH.nil
        go_simp
        go_at_call 75
        refine (putzero_w0 A3 cl.length c3 cl _ (PL.below C.out (by exact sm))).mono ?_
        rintro e wp ⟨rfl, bb⟩
        replace bb := nextw (w0 := wr) (by exact sm) bb
        replace B_z0 := mv B_z0 bb
        replace B_z1 := mv B_z1 bb
        replace B_o := mv B_o bb
        replace L := Lib.hid (PL.below L.out bb)
        replace C := Lib.hid (PL.below C.out bb)
        replace HB := nx HB bb
        clear bb c0z0 c1z0 c2z0 e0 e1
        obtain ⟨c0z0, c1z0, c2z0⟩ := cells3 B_z0
        have e0 : wp.cell? ⟨g, o + k * 2, none⟩ = some (.int .i64 0) := (PL.elemAt L.out HLT.out HPE.out).1
        have e1 : wp.cell? ⟨g, o + k * 2 + 1, none⟩ = some (.int .i64 0) := (PL.elemAt L.out HLT.out HPE.out).2
        go_wp2_with fail
        refine hK.out _ _ ?_ (fun hH2 => ?_)
        · ((try dsimp only); (repeat' apply And.intro) <;> (first | (with_reducible assumption) | ((repeat (first | (with_reducible refine Eq.trans (cell_drew1 _ _) ?_) | (with_reducible refine Eq.trans (cell_far (by omega) _ _ _) ?_) | (with_reducible refine Eq.trans (World.cell?_alloc_lt _ _ _ (by first | (dsimp only; omega) | (simp only [World.size_alloc, World.size_setCell]; omega))) ?_))); with_reducible assumption) | assumption | go_keep))
        clear hK K hH1
        try simp only [Act.put, List.setIfInBounds_toArray, List.set_cons_zero, List.set_cons_succ, List.getElem_toArray, List.getElem_cons_zero, List.getElem_cons_succ]
        refine wpAnyH_take (i := 8) (v := ?hv7x8) rfl (by kernel_rfl) (by kernel_rfl) (by kernel_rfl) (fun _ _ _ h => h) (Or.inl ⟨by kernel_rfl, ?hy7x8⟩) (by assumption) ?hr7x8
        case hy7x8 => (intro w hSw; (try dsimp only at hSw); go_simp <;> with_reducible rfl)
        simp only [Act.put, List.setIfInBounds_toArray, List.set_cons_zero, List.set_cons_succ, List.getElem_toArray, List.getElem_cons_zero, List.getElem_cons_succ]
        have c2o : wp.cell? ⟨po, 2, none⟩ = some (.slice A3 cl.length c3) := B_o.out.cell 2 rfl
        have f2o : wp.frozen? ⟨po, 2, none⟩ = false := B_o.out.frozen 2
        refine wpAnyH_ready (rs := [9]) (by kernel_rfl) (by simp) ?_
        refine AllReadyH.cons rfl (fun K hK => ?_) AllReadyH.nil
        go_simp
        refine hK.out _ _ ?_ (fun hH3 => ?_)
        · ((try dsimp only); (repeat' apply And.intro) <;> (first | (with_reducible assumption) | ((repeat (first | (with_reducible refine Eq.trans (cell_drew1 _ _) ?_) | (with_reducible refine Eq.trans (cell_far (by omega) _ _ _) ?_) | (with_reducible refine Eq.trans (World.cell?_alloc_lt _ _ _ (by first | (dsimp only; omega) | (simp only [World.size_alloc, World.size_setCell]; omega))) ?_))); with_reducible assumption) | assumption | go_keep))
        clear hK K hH2 c2o f2o
        try simp only [Act.put, List.setIfInBounds_toArray, List.set_cons_zero, List.set_cons_succ, List.getElem_toArray, List.getElem_cons_zero, List.getElem_cons_succ]
        refine wpAnyH_done (by kernel_rfl) ?_ _
        clear hH3
        clear c0z0 c1z0 c2z0 e0 e1
        have nz0 := far1 B_z0 (show w.heap.size ≠ po by omega) 2 (.slice A3 cl.length c3)
        have nz1 := far1 B_z1 (show w.heap.size + 1 ≠ po by omega) 2 (.slice A3 cl.length c3)
        have nL := Lib.hid (PL.set L.out (show po < lo_L ∨ hi_L ≤ po from Or.inr (by omega)) 2 (.slice A3 cl.length c3))
        have nHB := stb1 HB (y := po) (by omega) 2 (.slice A3 cl.length c3)
        have nC : Hid (PL (wp.setCell ⟨po, 2, none⟩ (.slice A3 cl.length c3)) lo3 hi3 A3 (canL (l.take (k + 1))).length c3 (canL (l.take (k + 1)))) := by rw [HN.out]; exact PL.set C.out (Or.inl SEP.out) 2 (.slice A3 cl.length c3)
        have nB : Hid (Bx (wp.setCell ⟨po, 2, none⟩ (.slice A3 cl.length c3)) (po) 24 #[.int .i64 x, .int .i64 y, .slice A3 (canL (l.take (k + 1))).length c3]) := by rw [HN.out]; exact B_o.out.set 2 (.slice A3 cl.length c3)
        all_goals go_wp2_with fail
        go_roundw
        case rel => exact ⟨k + 1, A3, c3, lo3, hi3, by omega, by go_num, mv nB sm, plm nC sm, SEP, plm nL sm, mv nz0 sm, mv nz1 sm, nx nHB sm⟩
        case measure => simp only [intOf]; omega
      · skip
        have HN : Hid (canL (l.take (k + 1)) = putZ cl (px, py)) := HSN.out
        have HNZ := Lib.hid hz
        clear hz
        obtain ⟨c0z0, c1z0, c2z0⟩ := cells3 B_z0
        go_upto_region 5 with (fail)
        clear c0z0 c1z0 c2z0
        have lto2 : Hid (po < wr.heap.size) := lto
        obtain ⟨c0z0, c1z0, c2z0⟩ := cells3 B_z0
        have e0 : wr.cell? ⟨g, o + k * 2, none⟩ = some (.int .i64 px) := (PL.elemAt L.out HLT.out HPE.out).1
        have e1 : wr.cell? ⟨g, o + k * 2 + 1, none⟩ = some (.int .i64 py) := (PL.elemAt L.out HLT.out HPE.out).2
        refine wp_region_held_drew (S := fun w' => w'.cell? ⟨g, o + k * 2, none⟩ = some (.int .i64 px) ∧ w'.cell? ⟨g, o + k * 2 + 1, none⟩ = some (.int .i64 py) ∧ w'.cell? ⟨w.heap.size, 0, none⟩ = some (.int .i64 x) ∧ w'.cell? ⟨w.heap.size, 1, none⟩ = some (.int .i64 y) ∧ w'.cell? ⟨w.heap.size, 2, none⟩ = some (.slice (some ⟨g, o, none⟩) n c)) (by kernel_rfl) ?_ (fun hH0 => ?_)
        · ((try dsimp only); (repeat' apply And.intro) <;> (first | (with_reducible assumption) | ((repeat (first | (with_reducible refine Eq.trans (cell_drew1 _ _) ?_) | (with_reducible refine Eq.trans (cell_far (by omega) _ _ _) ?_) | (with_reducible refine Eq.trans (World.cell?_alloc_lt _ _ _ (by first | (dsimp only; omega) | (simp only [World.size_alloc, World.size_setCell]; omega))) ?_))); with_reducible assumption) | assumption | go_keep))
        refine wpAnyH_take (i := 0) (v := ?hv8x0) rfl (by kernel_rfl) (by kernel_rfl) (by kernel_rfl) (fun _ _ _ h => h) (Or.inl ⟨by kernel_rfl, ?hy8x0⟩) (by assumption) ?hr8x0
        case hy8x0 => (intro w hSw; (try dsimp only at hSw); go_simp <;> with_reducible rfl)
        simp only [Act.put, List.setIfInBounds_toArray, List.set_cons_zero, List.set_cons_succ, List.getElem_toArray, List.getElem_cons_zero, List.getElem_cons_succ]
        refine wpAnyH_take (i := 2) (v := ?hv9x2) rfl (by kernel_rfl) (by kernel_rfl) (by kernel_rfl) (fun _ _ _ h => h) (Or.inl ⟨by kernel_rfl, ?hy9x2⟩) (by assumption) ?hr9x2
        case hy9x2 => (intro w hSw; (try dsimp only at hSw); go_simp <;> with_reducible rfl)
        simp only [Act.put, List.setIfInBounds_toArray, List.set_cons_zero, List.set_cons_succ, List.getElem_toArray, List.getElem_cons_zero, List.getElem_cons_succ]
        refine wpAnyH_take (i := 3) (v := ?hv10x3) rfl (by kernel_rfl) (by kernel_rfl) (by kernel_rfl) (fun _ _ _ h => h) (Or.inl ⟨by kernel_rfl, ?hy10x3⟩) (by assumption) ?hr10x3
        case hy10x3 => (intro w hSw; (try dsimp only at hSw); go_simp <;> with_reducible rfl)
        simp only [Act.put, List.setIfInBounds_toArray, List.set_cons_zero, List.set_cons_succ, List.getElem_toArray, List.getElem_cons_zero, List.getElem_cons_succ]
        refine wpAnyH_take (i := 4) (v := ?hv11x4) rfl (by kernel_rfl) (by kernel_rfl) (by kernel_rfl) (fun _ _ _ h => h) (Or.inl ⟨by kernel_rfl, ?hy11x4⟩) (by assumption) ?hr11x4
        case hy11x4 => (intro w hSw; (try dsimp only at hSw); go_simp <;> with_reducible rfl)
        simp only [Act.put, List.setIfInBounds_toArray, List.set_cons_zero, List.set_cons_succ, List.getElem_toArray, List.getElem_cons_zero, List.getElem_cons_succ]
        refine wpAnyH_take (i := 5) (v := ?hv12x5) rfl (by kernel_rfl) (by kernel_rfl) (by kernel_rfl) (fun _ _ _ h => h) (Or.inl ⟨by kernel_rfl, ?hy12x5⟩) (by assumption) ?hr12x5
        case hy12x5 => (intro w hSw; (try dsimp only at hSw); go_simp <;> with_reducible rfl)
        simp only [Act.put, List.setIfInBounds_toArray, List.set_cons_zero, List.set_cons_succ, List.getElem_toArray, List.getElem_cons_zero, List.getElem_cons_succ]
        refine wpAnyH_take (i := 6) (v := ?hv13x6) rfl (by kernel_rfl) (by kernel_rfl) (by kernel_rfl) (fun _ _ _ h => h) (Or.inl ⟨by kernel_rfl, ?hy13x6⟩) (by assumption) ?hr13x6
        case hy13x6 => (intro w hSw; (try dsimp only at hSw); go_simp <;> with_reducible rfl)
        simp only [Act.put, List.setIfInBounds_toArray, List.set_cons_zero, List.set_cons_succ, List.getElem_toArray, List.getElem_cons_zero, List.getElem_cons_succ]
        refine wpAnyH_ready (rs := [1]) (by kernel_rfl) (by simp) ?_
        refine AllReadyH.cons rfl (fun K hK => ?_) AllReadyH.nil
        have c2o : wr.cell? ⟨po, 2, none⟩ = some (.slice A3 cl.length c3) := B_o.out.cell 2 rfl
        go_simp
        refine hK.out _ _ ?_ (fun hH1 => ?_)
        · ((try dsimp only); (repeat' apply And.intro) <;> (first | (with_reducible assumption) | ((repeat (first | (with_reducible refine Eq.trans (cell_drew1 _ _) ?_) | (with_reducible refine Eq.trans (cell_far (by omega) _ _ _) ?_) | (with_reducible refine Eq.trans (World.cell?_alloc_lt _ _ _ (by first | (dsimp only; omega) | (simp only [World.size_alloc, World.size_setCell]; omega))) ?_))); with_reducible assumption) | assumption | go_keep))
        clear hK K hH0 c2o
        try simp only [Act.put, List.setIfInBounds_toArray, List.set_cons_zero, List.set_cons_succ, List.getElem_toArray, List.getElem_cons_zero, List.getElem_cons_succ]
        refine wpAnyH_ready (rs := [7]) (by kernel_rfl) (by simp) ?_
        refine AllReadyH.cons rfl (fun K hK => ?_) AllReadyH.nil
        go_simp
        go_at_call 75
        refine (put_is px py A3 cl.length c3 cl hcl HCB.out HP2.out HNZ.out _ (PL.below C.out (by exact sm))).mono ?_
        rintro e wp ⟨A5, c5, rfl, L5, bb⟩
        replace bb := nextw (w0 := wr) (by exact sm) bb
        replace B_z0 := mv B_z0 bb
        replace B_z1 := mv B_z1 bb
        replace B_o := mv B_o bb
        replace L := Lib.hid (PL.below L.out bb)
        replace C := Lib.hid (PL.below C.out bb)
        replace HB := nx HB bb
        clear bb c0z0 c1z0 c2z0 e0 e1
        have L5' := Lib.hid L5
        clear L5
        obtain ⟨c0z0, c1z0, c2z0⟩ := cells3 B_z0
        have e0 : wp.cell? ⟨g, o + k * 2, none⟩ = some (.int .i64 px) := (PL.elemAt L.out HLT.out HPE.out).1
        have e1 : wp.cell? ⟨g, o + k * 2 + 1, none⟩ = some (.int .i64 py) := (PL.elemAt L.out HLT.out HPE.out).2
        go_wp2_with fail
        refine hK.out _ _ ?_ (fun hH2 => ?_)
        · ((try dsimp only); (repeat' apply And.intro) <;> (first | (with_reducible assumption) | ((repeat (first | (with_reducible refine Eq.trans (cell_drew1 _ _) ?_) | (with_reducible refine Eq.trans (cell_far (by omega) _ _ _) ?_) | (with_reducible refine Eq.trans (World.cell?_alloc_lt _ _ _ (by first | (dsimp only; omega) | (simp only [World.size_alloc, World.size_setCell]; omega))) ?_))); with_reducible assumption) | assumption | go_keep))
        clear hK K hH1
        try simp only [Act.put, List.setIfInBounds_toArray, List.set_cons_zero, List.set_cons_succ, List.getElem_toArray, List.getElem_cons_zero, List.getElem_cons_succ]
        refine wpAnyH_take (i := 8) (v := ?hv14x8) rfl (by kernel_rfl) (by kernel_rfl) (by kernel_rfl) (fun _ _ _ h => h) (Or.inl ⟨by kernel_rfl, ?hy14x8⟩) (by assumption) ?hr14x8
        case hy14x8 => (intro w hSw; (try dsimp only at hSw); go_simp <;> with_reducible rfl)
        simp only [Act.put, List.setIfInBounds_toArray, List.set_cons_zero, List.set_cons_succ, List.getElem_toArray, List.getElem_cons_zero, List.getElem_cons_succ]
        have c2o : wp.cell? ⟨po, 2, none⟩ = some (.slice A3 cl.length c3) := B_o.out.cell 2 rfl
        have f2o : wp.frozen? ⟨po, 2, none⟩ = false := B_o.out.frozen 2
        refine wpAnyH_ready (rs := [9]) (by kernel_rfl) (by simp) ?_
        refine AllReadyH.cons rfl (fun K hK => ?_) AllReadyH.nil
        go_simp
        refine hK.out _ _ ?_ (fun hH3 => ?_)
        · ((try dsimp only); (repeat' apply And.intro) <;> (first | (with_reducible assumption) | ((repeat (first | (with_reducible refine Eq.trans (cell_drew1 _ _) ?_) | (with_reducible refine Eq.trans (cell_far (by omega) _ _ _) ?_) | (with_reducible refine Eq.trans (World.cell?_alloc_lt _ _ _ (by first | (dsimp only; omega) | (simp only [World.size_alloc, World.size_setCell]; omega))) ?_))); with_reducible assumption) | assumption | go_keep))
        clear hK K hH2 c2o f2o
        try simp only [Act.put, List.setIfInBounds_toArray, List.set_cons_zero, List.set_cons_succ, List.getElem_toArray, List.getElem_cons_zero, List.getElem_cons_succ]
        refine wpAnyH_done (by kernel_rfl) ?_ _
        clear hH3
        clear c0z0 c1z0 c2z0 e0 e1
        have nz0 := far1 B_z0 (show w.heap.size ≠ po by omega) 2 (.slice A5 (putZ cl (px, py)).length c5)
        have nz1 := far1 B_z1 (show w.heap.size + 1 ≠ po by omega) 2 (.slice A5 (putZ cl (px, py)).length c5)
        have nL := Lib.hid (PL.set L.out (show po < lo_L ∨ hi_L ≤ po from Or.inr (by omega)) 2 (.slice A5 (putZ cl (px, py)).length c5))
        have nHB := stb1 HB (y := po) (by omega) 2 (.slice A5 (putZ cl (px, py)).length c5)
        obtain ⟨lo5, hi5, hs5, L6⟩ : ∃ lo hi, Hid (po < lo) ∧ Hid (PL wp lo hi A5 (putZ cl (px, py)).length c5 (putZ cl (px, py))) := ⟨_, _, lto2, L5'⟩
        have nC : Hid (PL (wp.setCell ⟨po, 2, none⟩ (.slice A5 (putZ cl (px, py)).length c5)) lo5 hi5 A5 (canL (l.take (k + 1))).length c5 (canL (l.take (k + 1)))) := by rw [HN.out]; exact PL.set L6.out (Or.inl hs5.out) 2 (.slice A5 (putZ cl (px, py)).length c5)
        have nB : Hid (Bx (wp.setCell ⟨po, 2, none⟩ (.slice A5 (putZ cl (px, py)).length c5)) (po) 24 #[.int .i64 x, .int .i64 y, .slice A5 (canL (l.take (k + 1))).length c5]) := by rw [HN.out]; exact B_o.out.set 2 (.slice A5 (putZ cl (px, py)).length c5)
        have nS := hs5
        all_goals go_wp2_with fail
        go_roundw
        case rel => exact ⟨k + 1, A5, c5, lo5, hi5, by omega, by go_num, mv nB sm, plm nC sm, nS, plm nL sm, mv nz0 sm, mv nz1 sm, nx nHB sm⟩
        case measure => simp only [intOf]; omega
    · skip
      obtain rfl : k = n := by omega
      have hlen := L.out.len
      have HK : l.take k = l := List.take_of_length_le (by omega)
      rw [HK] at B_o C
      clear HK hlen
      have sepo : w.heap.size + 1 < lo3 := by have := SEP.out; omega
      obtain ⟨s0, s1, s2⟩ := cells3 (stor3 B_z1 (.int .i64 x) (.int .i64 y) (.slice A3 (canL l).length c3))
      have HF := stb3 HB (y := w.heap.size + 1) (by omega) 0 (.int .i64 x) 1 (.int .i64 y) 2 (.slice A3 (canL l).length c3)
      obtain ⟨c0z1, c1z1, c2z1⟩ := cells3 B_z1
      obtain ⟨f0z1, f1z1, f2z1⟩ := froz3 B_z1
      obtain ⟨c0z0, c1z0, c2z0⟩ := cells3 B_z0
      obtain ⟨c0o, c1o, c2o⟩ := cells3 B_o
      go_wp2_with fail
      exact bodyPost_ret (v := .agg #[.int .i64 x, .int .i64 y, .slice A3 (canL l).length c3]) (by simp [results, Try.results45, go_sem, s0, s1, s2]) rfl ⟨A3, c3, rfl, PL.outw (PL.below (PL.set (PL.set (PL.set C.out (Or.inl sepo) 0 (.int .i64 x)) (Or.inl sepo) 1 (.int .i64 y)) (Or.inl sepo) 2 (.slice A3 (canL l).length c3)) (by exact sm)) (by omega), nextw HF.out (by exact sm)⟩
end Go.Proofs.Ytpjbkadhmjlpfaa
