/- the reference's plus. -/
import Derived.Test.YtpjbkadhmjlpfaaZ33
set_option linter.unusedVariables false
set_option linter.unusedSimpArgs false
namespace Go.Proofs.Ytpjbkadhmjlpfaa
open Go Go.RowKit Hd

set_option maxRecDepth 100000 in
set_option maxHeartbeats 4000000 in
theorem Rplus_is (x y : Int) (A : Option Addr) (n c : Nat) (l : List P2) (u v : Int) (A2 : Option Addr) (n2 c2 : Nat) (l2 : List P2) (hn : n ≤ 50) (hn2 : n2 ≤ 50) (hx : Wi x 16777216) (hy : Wi y 16777216) (hu : Wi u 16777216) (hv : Wi v 16777216) (hs : SB (l ++ l2) 16777216) (w : World) {lo_L hi_L : Nat} (L : PL w lo_L hi_L A n c l) {lo_L2 hi_L2 : Nat} (L2 : PL w lo_L2 hi_L2 A2 n2 c2 l2) :
    Calls Try.prog 62 #[.agg #[.int .i64 x, .int .i64 y, .slice A n c], .agg #[.int .i64 u, .int .i64 v, .slice A2 n2 c2]] w fun e w' => ∃ A' c', e = .returned (.agg #[.int .i64 (x + u), .int .i64 (y + v), .slice A' (canL (l ++ l2)).length c']) ∧ PL w' w.heap.size w'.heap.size A' (canL (l ++ l2)).length c' (canL (l ++ l2)) ∧ Below w.heap.size w w' := by
  have hx1 := hx.1
  have hx2 := hx.2
  have hy1 := hy.1
  have hy2 := hy.2
  have hu1 := hu.1
  have hu2 := hu.2
  have hv1 := hv.1
  have hv2 := hv.2
  clear hx hy hu hv
  obtain ⟨ll, hll⟩ : ∃ ll, l ++ l2 = ll := ⟨_, rfl⟩
  rw [hll] at hs ⊢
  have HE := Lib.hid hll
  clear hll
  have HSB := Lib.hid hs
  clear hs
  have hiL : hi_L ≤ w.heap.size := L.top
  have hiL2 : hi_L2 ≤ w.heap.size := L2.top
  have hll : ll.length ≤ 100 := by have h1 := L.len; have h2 := L2.len; rw [← HE.out]; simp; omega
  have HLL := Lib.hid hll
  have hl1 : (([] : List P2) ++ l).length ≤ 100 := by have h1 := L.len; simp; omega
  have HL1 := Lib.hid hl1
  clear hll hl1
  obtain ⟨X, hX⟩ : ∃ X, x + u = X := ⟨_, rfl⟩
  obtain ⟨Y, hY⟩ : ∃ Y, y + v = Y := ⟨_, rfl⟩
  rw [hX, hY]
  have ex : IntKind.i64.wrap (x + u) = X := by rw [IntKind.wrap_i64]; omega
  have ey : IntKind.i64.wrap (y + v) = Y := by rw [IntKind.wrap_i64]; omega
  clear hX hY
  replace L := Lib.hid L
  replace L2 := Lib.hid L2
  obtain ⟨HB, B_z0, B_z1, B_z2⟩ := box3 w 24 #[.int .i64 x, .int .i64 y, .slice A n c] 24 #[.int .i64 u, .int .i64 v, .slice A2 n2 c2] 24 #[.int .i64 0, .int .i64 0, .slice none 0 0]
  replace L := plm L HB.out
  replace L2 := plm L2 HB.out
  go_enter Try.func62, Try.ntmps62
  go_upto_region 1 with (fail)
  generalize ((w.alloc (.cells #[.int .i64 x, .int .i64 y, .slice A n c] 24)).alloc (.cells #[.int .i64 u, .int .i64 v, .slice A2 n2 c2] 24)).alloc (.cells #[.int .i64 0, .int .i64 0, .slice none 0 0] 24) = W0 at *
  have LT_z0 : Hid (w.heap.size < W0.heap.size) := B_z0.out.lt
  have LT_z1 : Hid (w.heap.size + 1 < W0.heap.size) := B_z1.out.lt
  have LT_z2 : Hid (w.heap.size + 1 + 1 < W0.heap.size) := B_z2.out.lt
  have HW : Hid (w.heap.size ≤ W0.heap.size) := HB.out.size
  have TL_L : Hid (hi_L ≤ W0.heap.size) := L.out.top
  have TL_L2 : Hid (hi_L2 ≤ W0.heap.size) := L2.out.top
  obtain ⟨c0z0, c1z0, c2z0⟩ := cells3 B_z0
  obtain ⟨c0z1, c1z1, c2z1⟩ := cells3 B_z1
  refine wp_region_held_drew (S := fun w' => w'.cell? ⟨w.heap.size, 0, none⟩ = some (.int .i64 x) ∧ w'.cell? ⟨w.heap.size, 1, none⟩ = some (.int .i64 y) ∧ w'.cell? ⟨w.heap.size, 2, none⟩ = some (.slice A n c) ∧ w'.cell? ⟨w.heap.size + 1, 0, none⟩ = some (.int .i64 u) ∧ w'.cell? ⟨w.heap.size + 1, 1, none⟩ = some (.int .i64 v) ∧ w'.cell? ⟨w.heap.size + 1, 2, none⟩ = some (.slice A2 n2 c2)) (by kernel_rfl) ?_ (fun hH0 => ?_)
  · ((try dsimp only); (repeat' apply And.intro) <;> (first | (with_reducible assumption) | ((repeat (first | (with_reducible refine Eq.trans (cell_drew1 _ _) ?_) | (with_reducible refine Eq.trans (cell_far (by omega) _ _ _) ?_) | (with_reducible refine Eq.trans (World.cell?_alloc_lt _ _ _ (by first | (dsimp only; omega) | (simp only [World.size_alloc, World.size_setCell]; omega))) ?_))); with_reducible assumption) | assumption | go_keep))
  refine wpAnyH_take (i := 0) (v := ?hv1x0) rfl (by kernel_rfl) (by kernel_rfl) (by kernel_rfl) (fun _ _ _ h => h) (Or.inl ⟨by kernel_rfl, ?hy1x0⟩) (by assumption) ?hr1x0
  case hy1x0 => (intro w hSw; (try dsimp only at hSw); go_simp <;> with_reducible rfl)
  simp only [Act.put, List.setIfInBounds_toArray, List.set_cons_zero, List.set_cons_succ, List.getElem_toArray, List.getElem_cons_zero, List.getElem_cons_succ]
  refine wpAnyH_take (i := 1) (v := ?hv2x1) rfl (by kernel_rfl) (by kernel_rfl) (by kernel_rfl) (fun _ _ _ h => h) (Or.inl ⟨by kernel_rfl, ?hy2x1⟩) (by assumption) ?hr2x1
  case hy2x1 => (intro w hSw; (try dsimp only at hSw); go_simp <;> with_reducible rfl)
  simp only [Act.put, List.setIfInBounds_toArray, List.set_cons_zero, List.set_cons_succ, List.getElem_toArray, List.getElem_cons_zero, List.getElem_cons_succ]
  refine wpAnyH_take (i := 2) (v := ?hv3x2) rfl (by kernel_rfl) (by kernel_rfl) (by kernel_rfl) (fun _ _ _ h => h) (Or.inl ⟨by kernel_rfl, ?hy3x2⟩) (by assumption) ?hr3x2
  case hy3x2 => (intro w hSw; (try dsimp only at hSw); go_simp <;> with_reducible rfl)
  simp only [Act.put, List.setIfInBounds_toArray, List.set_cons_zero, List.set_cons_succ, List.getElem_toArray, List.getElem_cons_zero, List.getElem_cons_succ]
  refine wpAnyH_take (i := 3) (v := ?hv4x3) rfl (by kernel_rfl) (by kernel_rfl) (by kernel_rfl) (fun _ _ _ h => h) (Or.inl ⟨by kernel_rfl, ?hy4x3⟩) (by assumption) ?hr4x3
  case hy4x3 => (intro w hSw; (try dsimp only at hSw); go_simp <;> with_reducible rfl)
  simp only [Act.put, List.setIfInBounds_toArray, List.set_cons_zero, List.set_cons_succ, List.getElem_toArray, List.getElem_cons_zero, List.getElem_cons_succ]
  refine wpAnyH_take (i := 4) (v := ?hv5x4) rfl (by kernel_rfl) (by kernel_rfl) (by kernel_rfl) (fun _ _ _ h => h) (Or.inl ⟨by kernel_rfl, ?hy5x4⟩) (by assumption) ?hr5x4
  case hy5x4 => (intro w hSw; (try dsimp only at hSw); go_simp <;> with_reducible rfl)
  simp only [Act.put, List.setIfInBounds_toArray, List.set_cons_zero, List.set_cons_succ, List.getElem_toArray, List.getElem_cons_zero, List.getElem_cons_succ]
  refine wpAnyH_take (i := 5) (v := ?hv6x5) rfl (by kernel_rfl) (by kernel_rfl) (by kernel_rfl) (fun _ _ _ h => h) (Or.inl ⟨by kernel_rfl, ?hy6x5⟩) (by assumption) ?hr6x5
  case hy6x5 => (intro w hSw; (try dsimp only at hSw); go_simp <;> with_reducible rfl)
  simp only [Act.put, List.setIfInBounds_toArray, List.set_cons_zero, List.set_cons_succ, List.getElem_toArray, List.getElem_cons_zero, List.getElem_cons_succ]
  refine wpAnyH_take (i := 6) (v := ?hv7x6) rfl (by kernel_rfl) (by kernel_rfl) (by kernel_rfl) (fun _ _ _ h => h) (Or.inl ⟨by kernel_rfl, ?hy7x6⟩) (by assumption) ?hr7x6
  case hy7x6 => (intro w hSw; (try dsimp only at hSw); go_simp <;> with_reducible rfl)
  simp only [Act.put, List.setIfInBounds_toArray, List.set_cons_zero, List.set_cons_succ, List.getElem_toArray, List.getElem_cons_zero, List.getElem_cons_succ]
  refine wpAnyH_take (i := 7) (v := ?hv8x7) rfl (by kernel_rfl) (by kernel_rfl) (by kernel_rfl) (fun _ _ _ h => h) (Or.inl ⟨by kernel_rfl, ?hy8x7⟩) (by assumption) ?hr8x7
  case hy8x7 => (intro w hSw; (try dsimp only at hSw); go_simp <;> with_reducible rfl)
  simp only [Act.put, List.setIfInBounds_toArray, List.set_cons_zero, List.set_cons_succ, List.getElem_toArray, List.getElem_cons_zero, List.getElem_cons_succ]
  refine wpAnyH_take (i := 8) (v := ?hv9x8) rfl (by kernel_rfl) (by kernel_rfl) (by kernel_rfl) (fun _ _ _ h => h) (Or.inl ⟨by kernel_rfl, ?hy9x8⟩) (by assumption) ?hr9x8
  case hy9x8 => (intro w hSw; (try dsimp only at hSw); go_simp <;> with_reducible rfl)
  simp only [Act.put, List.setIfInBounds_toArray, List.set_cons_zero, List.set_cons_succ, List.getElem_toArray, List.getElem_cons_zero, List.getElem_cons_succ]
  refine wpAnyH_take (i := 9) (v := ?hv10x9) rfl (by kernel_rfl) (by kernel_rfl) (by kernel_rfl) (fun _ _ _ h => h) (Or.inl ⟨by kernel_rfl, ?hy10x9⟩) (by assumption) ?hr10x9
  case hy10x9 => (intro w hSw; (try dsimp only at hSw); go_simp <;> with_reducible rfl)
  simp only [Act.put, List.setIfInBounds_toArray, List.set_cons_zero, List.set_cons_succ, List.getElem_toArray, List.getElem_cons_zero, List.getElem_cons_succ]
  refine wpAnyH_take (i := 11) (v := ?hv11x11) rfl (by kernel_rfl) (by kernel_rfl) (by kernel_rfl) (fun _ _ _ h => h) (Or.inl ⟨by kernel_rfl, ?hy11x11⟩) (by assumption) ?hr11x11
  case hy11x11 => (intro w hSw; (try dsimp only at hSw); go_simp <;> with_reducible rfl)
  simp only [Act.put, List.setIfInBounds_toArray, List.set_cons_zero, List.set_cons_succ, List.getElem_toArray, List.getElem_cons_zero, List.getElem_cons_succ]
  refine wpAnyH_take (i := 12) (v := ?hv12x12) rfl (by kernel_rfl) (by kernel_rfl) (by kernel_rfl) (fun _ _ _ h => h) (Or.inl ⟨by kernel_rfl, ?hy12x12⟩) (by assumption) ?hr12x12
  case hy12x12 => (intro w hSw; (try dsimp only at hSw); go_simp <;> with_reducible rfl)
  simp only [Act.put, List.setIfInBounds_toArray, List.set_cons_zero, List.set_cons_succ, List.getElem_toArray, List.getElem_cons_zero, List.getElem_cons_succ]
  refine wpAnyH_take (i := 14) (v := ?hv13x14) rfl (by kernel_rfl) (by kernel_rfl) (by kernel_rfl) (fun _ _ _ h => h) (Or.inl ⟨by kernel_rfl, ?hy13x14⟩) (by assumption) ?hr13x14
  case hy13x14 => (intro w hSw; (try dsimp only at hSw); go_simp <;> with_reducible rfl)
  simp only [Act.put, List.setIfInBounds_toArray, List.set_cons_zero, List.set_cons_succ, List.getElem_toArray, List.getElem_cons_zero, List.getElem_cons_succ]
  refine wpAnyH_take (i := 15) (v := ?hv14x15) rfl (by kernel_rfl) (by kernel_rfl) (by kernel_rfl) (fun _ _ _ h => h) (Or.inl ⟨by kernel_rfl, ?hy14x15⟩) (by assumption) ?hr14x15
  case hy14x15 => (intro w hSw; (try dsimp only at hSw); go_simp <;> with_reducible rfl)
  simp only [Act.put, List.setIfInBounds_toArray, List.set_cons_zero, List.set_cons_succ, List.getElem_toArray, List.getElem_cons_zero, List.getElem_cons_succ]
  refine wpAnyH_ready (rs := [10]) (by kernel_rfl) (by simp) ?_
  refine AllReadyH.cons rfl (fun K hK => ?_) AllReadyH.nil
  go_simp
  have bb : Below W0.heap.size W0 ((W0.alloc (.cells #[] 39)).drew) := nextw (alB' _ _) (by exact sm)
  have HO : Hid (OwnP ((W0.alloc (.cells #[] 39)).drew) W0.heap.size (.slice (some ⟨W0.heap.size, 0, none⟩) 0 0) []) := Lib.hid (OwnP.below (w := W0.alloc (.cells #[] 39)) ⟨rfl, .inr ⟨_, 0, _, rfl, Nat.le_refl _, heap_alloc_new _ _, Nat.le_refl _, by decide, rfl, rfl⟩⟩ (by exact sm))
  have HBS : Hid (W0.heap.size ≤ ((W0.alloc (.cells #[] 39)).drew).heap.size) := bb.size
  replace B_z0 := mv B_z0 bb
  replace B_z1 := mv B_z1 bb
  replace B_z2 := mv B_z2 bb
  replace L := Lib.hid (PL.below L.out bb)
  replace L2 := Lib.hid (PL.below L2.out bb)
  replace HB := nx HB bb
  clear bb c0z0 c1z0 c2z0 c0z1 c1z1 c2z1
  generalize (W0.alloc (.cells #[] 39)).drew = wq at *
  have c0z0 : wq.cell? ⟨w.heap.size, 0, none⟩ = some (.int .i64 x) := B_z0.out.cell 0 rfl
  have c1z0 : wq.cell? ⟨w.heap.size, 1, none⟩ = some (.int .i64 y) := B_z0.out.cell 1 rfl
  have c2z0 : wq.cell? ⟨w.heap.size, 2, none⟩ = some (.slice A n c) := B_z0.out.cell 2 rfl
  have c0z1 : wq.cell? ⟨w.heap.size + 1, 0, none⟩ = some (.int .i64 u) := B_z1.out.cell 0 rfl
  have c1z1 : wq.cell? ⟨w.heap.size + 1, 1, none⟩ = some (.int .i64 v) := B_z1.out.cell 1 rfl
  have c2z1 : wq.cell? ⟨w.heap.size + 1, 2, none⟩ = some (.slice A2 n2 c2) := B_z1.out.cell 2 rfl
  refine hK.out _ _ ?_ (fun hH1 => ?_)
  · ((try dsimp only); (repeat' apply And.intro) <;> (first | (with_reducible assumption) | ((repeat (first | (with_reducible refine Eq.trans (cell_drew1 _ _) ?_) | (with_reducible refine Eq.trans (cell_far (by omega) _ _ _) ?_) | (with_reducible refine Eq.trans (World.cell?_alloc_lt _ _ _ (by first | (dsimp only; omega) | (simp only [World.size_alloc, World.size_setCell]; omega))) ?_))); with_reducible assumption) | assumption | go_keep))
  clear hK K hH0
  try simp only [Act.put, List.setIfInBounds_toArray, List.set_cons_zero, List.set_cons_succ, List.getElem_toArray, List.getElem_cons_zero, List.getElem_cons_succ]
  obtain ⟨v5, w5x, hr5, ho5, hb5⟩ := run_app_pl wq 22 HO.out L.out (by first | (have h := HL1.out; omega) | simp) (by omega) HBS.out
  have n_z0 := Lib.hid (Bx.below B_z0.out hb5 LT_z0.out)
  have n_z1 := Lib.hid (Bx.below B_z1.out hb5 LT_z1.out)
  have n_z2 := Lib.hid (Bx.below B_z2.out hb5 LT_z2.out)
  have n_L := Lib.hid (PL.belowB L.out hb5 TL_L.out)
  have n_L2 := Lib.hid (PL.belowB L2.out hb5 TL_L2.out)
  have nHB := Lib.hid (HB.out.trans (hb5.mono HW.out))
  have nHBS : Hid (W0.heap.size ≤ w5x.heap.size) := Nat.le_trans HBS.out hb5.size
  have HO5 := Lib.hid ho5
  clear ho5 hb5 c0z0 c1z0 c2z0 c0z1 c1z1 c2z1 HO
  refine wpAnyH_ready (rs := [13]) (by kernel_rfl) (by simp) ?_
  refine AllReadyH.cons rfl (fun K hK => ?_) AllReadyH.nil
  refine step_app_run rfl _ _ rfl rfl rfl hr5 ?_
  clear hr5 B_z0 B_z1 B_z2 L L2 HB HBS
  have B_z0 := n_z0
  have B_z1 := n_z1
  have B_z2 := n_z2
  have L := n_L
  have L2 := n_L2
  have HB := nHB
  have HBS := nHBS
  clear n_z0 n_z1 n_z2 n_L n_L2 nHB nHBS
  have c0z0 : w5x.cell? ⟨w.heap.size, 0, none⟩ = some (.int .i64 x) := B_z0.out.cell 0 rfl
  have c1z0 : w5x.cell? ⟨w.heap.size, 1, none⟩ = some (.int .i64 y) := B_z0.out.cell 1 rfl
  have c2z0 : w5x.cell? ⟨w.heap.size, 2, none⟩ = some (.slice A n c) := B_z0.out.cell 2 rfl
  have c0z1 : w5x.cell? ⟨w.heap.size + 1, 0, none⟩ = some (.int .i64 u) := B_z1.out.cell 0 rfl
  have c1z1 : w5x.cell? ⟨w.heap.size + 1, 1, none⟩ = some (.int .i64 v) := B_z1.out.cell 1 rfl
  have c2z1 : w5x.cell? ⟨w.heap.size + 1, 2, none⟩ = some (.slice A2 n2 c2) := B_z1.out.cell 2 rfl
  refine hK.out _ _ ?_ (fun hH2 => ?_)
  · ((try dsimp only); (repeat' apply And.intro) <;> (first | (with_reducible assumption) | ((repeat (first | (with_reducible refine Eq.trans (cell_drew1 _ _) ?_) | (with_reducible refine Eq.trans (cell_far (by omega) _ _ _) ?_) | (with_reducible refine Eq.trans (World.cell?_alloc_lt _ _ _ (by first | (dsimp only; omega) | (simp only [World.size_alloc, World.size_setCell]; omega))) ?_))); with_reducible assumption) | assumption | go_keep))
  clear hK K hH1
  try simp only [Act.put, List.setIfInBounds_toArray, List.set_cons_zero, List.set_cons_succ, List.getElem_toArray, List.getElem_cons_zero, List.getElem_cons_succ]
  obtain ⟨v6, w6x, hr6, ho6, hb6⟩ := run_app_pl w5x 22 HO5.out L2.out (by first | (have h := HL1.out; omega) | simp) (by omega) HBS.out
  have n_z0 := Lib.hid (Bx.below B_z0.out hb6 LT_z0.out)
  have n_z1 := Lib.hid (Bx.below B_z1.out hb6 LT_z1.out)
  have n_z2 := Lib.hid (Bx.below B_z2.out hb6 LT_z2.out)
  have n_L := Lib.hid (PL.belowB L.out hb6 TL_L.out)
  have n_L2 := Lib.hid (PL.belowB L2.out hb6 TL_L2.out)
  have nHB := Lib.hid (HB.out.trans (hb6.mono HW.out))
  have nHBS : Hid (W0.heap.size ≤ w6x.heap.size) := Nat.le_trans HBS.out hb6.size
  have HO6 := Lib.hid ho6
  clear ho6 hb6 c0z0 c1z0 c2z0 c0z1 c1z1 c2z1 HO5
  rw [List.nil_append, HE.out] at HO6
  obtain ⟨A5, c5, e5, p5, -⟩ := HO6.out.pl
  subst e5
  have P5 := Lib.hid p5
  clear p5 HO6
  refine wpAnyH_ready (rs := [16]) (by kernel_rfl) (by simp) ?_
  refine AllReadyH.cons rfl (fun K hK => ?_) AllReadyH.nil
  refine step_app_run rfl _ _ rfl rfl rfl hr6 ?_
  clear hr6 B_z0 B_z1 B_z2 L L2 HB HBS
  have B_z0 := n_z0
  have B_z1 := n_z1
  have B_z2 := n_z2
  have L := n_L
  have L2 := n_L2
  have HB := nHB
  have HBS := nHBS
  clear n_z0 n_z1 n_z2 n_L n_L2 nHB nHBS
  have c0z0 : w6x.cell? ⟨w.heap.size, 0, none⟩ = some (.int .i64 x) := B_z0.out.cell 0 rfl
  have c1z0 : w6x.cell? ⟨w.heap.size, 1, none⟩ = some (.int .i64 y) := B_z0.out.cell 1 rfl
  have c2z0 : w6x.cell? ⟨w.heap.size, 2, none⟩ = some (.slice A n c) := B_z0.out.cell 2 rfl
  have c0z1 : w6x.cell? ⟨w.heap.size + 1, 0, none⟩ = some (.int .i64 u) := B_z1.out.cell 0 rfl
  have c1z1 : w6x.cell? ⟨w.heap.size + 1, 1, none⟩ = some (.int .i64 v) := B_z1.out.cell 1 rfl
  have c2z1 : w6x.cell? ⟨w.heap.size + 1, 2, none⟩ = some (.slice A2 n2 c2) := B_z1.out.cell 2 rfl
  refine hK.out _ _ ?_ (fun hH3 => ?_)
  · ((try dsimp only); (repeat' apply And.intro) <;> (first | (with_reducible assumption) | ((repeat (first | (with_reducible refine Eq.trans (cell_drew1 _ _) ?_) | (with_reducible refine Eq.trans (cell_far (by omega) _ _ _) ?_) | (with_reducible refine Eq.trans (World.cell?_alloc_lt _ _ _ (by first | (dsimp only; omega) | (simp only [World.size_alloc, World.size_setCell]; omega))) ?_))); with_reducible assumption) | assumption | go_keep))
  clear hK K hH2
  try simp only [Act.put, List.setIfInBounds_toArray, List.set_cons_zero, List.set_cons_succ, List.getElem_toArray, List.getElem_cons_zero, List.getElem_cons_succ]
  refine wpAnyH_take (i := 17) (v := ?hv15x17) rfl (by kernel_rfl) (by kernel_rfl) (by kernel_rfl) (fun _ _ _ h => h) (Or.inl ⟨by kernel_rfl, ?hy15x17⟩) (by assumption) ?hr15x17
  case hy15x17 => (intro w hSw; (try dsimp only at hSw); go_simp <;> with_reducible rfl)
  simp only [Act.put, List.setIfInBounds_toArray, List.set_cons_zero, List.set_cons_succ, List.getElem_toArray, List.getElem_cons_zero, List.getElem_cons_succ]
  refine wpAnyH_ready (rs := [18]) (by kernel_rfl) (by simp) ?_
  refine AllReadyH.cons rfl (fun K hK => ?_) AllReadyH.nil
  go_simp
  go_at_call 45
  refine (canon_sb X Y A5 ll.length c5 ll (by have := HLL.out; omega) HSB.out _ (PL.below P5.out (by exact sm))).mono ?_
  rintro e wp ⟨A6, c6, rfl, L5, bb⟩
  have HSZ : Hid (W0.heap.size ≤ w6x.heap.size) := HBS.out
  replace bb := nextw (w0 := w6x) (by exact sm) bb
  replace B_z0 := mv B_z0 bb
  replace B_z1 := mv B_z1 bb
  replace B_z2 := mv B_z2 bb
  replace HB := nx HB bb
  clear bb c0z0 c1z0 c2z0 c0z1 c1z1 c2z1
  have L5' := Lib.hid L5
  clear L5 L L2 P5
  have c0z0 : wp.cell? ⟨w.heap.size, 0, none⟩ = some (.int .i64 x) := B_z0.out.cell 0 rfl
  have c1z0 : wp.cell? ⟨w.heap.size, 1, none⟩ = some (.int .i64 y) := B_z0.out.cell 1 rfl
  have c2z0 : wp.cell? ⟨w.heap.size, 2, none⟩ = some (.slice A n c) := B_z0.out.cell 2 rfl
  have c0z1 : wp.cell? ⟨w.heap.size + 1, 0, none⟩ = some (.int .i64 u) := B_z1.out.cell 0 rfl
  have c1z1 : wp.cell? ⟨w.heap.size + 1, 1, none⟩ = some (.int .i64 v) := B_z1.out.cell 1 rfl
  have c2z1 : wp.cell? ⟨w.heap.size + 1, 2, none⟩ = some (.slice A2 n2 c2) := B_z1.out.cell 2 rfl
  go_wp2_with fail
  refine hK.out _ _ ?_ (fun hH4 => ?_)
  · ((try dsimp only); (repeat' apply And.intro) <;> (first | (with_reducible assumption) | ((repeat (first | (with_reducible refine Eq.trans (cell_drew1 _ _) ?_) | (with_reducible refine Eq.trans (cell_far (by omega) _ _ _) ?_) | (with_reducible refine Eq.trans (World.cell?_alloc_lt _ _ _ (by first | (dsimp only; omega) | (simp only [World.size_alloc, World.size_setCell]; omega))) ?_))); with_reducible assumption) | assumption | go_keep))
  clear hK K hH3
  try simp only [Act.put, List.setIfInBounds_toArray, List.set_cons_zero, List.set_cons_succ, List.getElem_toArray, List.getElem_cons_zero, List.getElem_cons_succ]
  have c0z2 : wp.cell? ⟨w.heap.size + 1 + 1, 0, none⟩ = some (.int .i64 0) := B_z2.out.cell 0 rfl
  have c1z2 : wp.cell? ⟨w.heap.size + 1 + 1, 1, none⟩ = some (.int .i64 0) := B_z2.out.cell 1 rfl
  have c2z2 : wp.cell? ⟨w.heap.size + 1 + 1, 2, none⟩ = some (.slice none 0 0) := B_z2.out.cell 2 rfl
  have f0z2 : wp.frozen? ⟨w.heap.size + 1 + 1, 0, none⟩ = false := B_z2.out.frozen 0
  have f1z2 : wp.frozen? ⟨w.heap.size + 1 + 1, 1, none⟩ = false := B_z2.out.frozen 1
  have f2z2 : wp.frozen? ⟨w.heap.size + 1 + 1, 2, none⟩ = false := B_z2.out.frozen 2
  refine wpAnyH_ready (rs := [19]) (by kernel_rfl) (by simp) ?_
  refine AllReadyH.cons rfl (fun K hK => ?_) AllReadyH.nil
  go_simp
  refine hK.out _ _ ?_ (fun hH5 => ?_)
  · ((try dsimp only); (repeat' apply And.intro) <;> (first | (with_reducible assumption) | ((repeat (first | (with_reducible refine Eq.trans (cell_drew1 _ _) ?_) | (with_reducible refine Eq.trans (cell_far (by omega) _ _ _) ?_) | (with_reducible refine Eq.trans (World.cell?_alloc_lt _ _ _ (by first | (dsimp only; omega) | (simp only [World.size_alloc, World.size_setCell]; omega))) ?_))); with_reducible assumption) | assumption | go_keep))
  clear hK K hH4
  try simp only [Act.put, List.setIfInBounds_toArray, List.set_cons_zero, List.set_cons_succ, List.getElem_toArray, List.getElem_cons_zero, List.getElem_cons_succ]
  refine wpAnyH_done (by kernel_rfl) ?_ _
  clear hH5 c0z0 c1z0 c2z0 c0z1 c1z1 c2z1 c0z2 c1z2 c2z2 f0z2 f1z2 f2z2
  have sepo : w.heap.size + 1 + 1 < W0.heap.size := LT_z2.out
  have hszz := HSZ.out
  obtain ⟨s0, s1, s2⟩ := cells3 (stor3 B_z2 (.int .i64 X) (.int .i64 Y) (.slice A6 (canL ll).length c6))
  have HF := stb3 HB (y := w.heap.size + 1 + 1) (by omega) 0 (.int .i64 X) 1 (.int .i64 Y) 2 (.slice A6 (canL ll).length c6)
  obtain ⟨c0z2, c1z2, c2z2⟩ := cells3 B_z2
  obtain ⟨f0z2, f1z2, f2z2⟩ := froz3 B_z2
  go_wp2_with fail
  exact bodyPost_ret (v := .agg #[.int .i64 X, .int .i64 Y, .slice A6 (canL ll).length c6]) (by simp [results, Try.results62, go_sem, s0, s1, s2]) rfl ⟨A6, c6, rfl, PL.outw (PL.below (PL.set (PL.set (PL.set L5'.out (x := w.heap.size + 1 + 1) (Or.inl (by omega)) 0 (.int .i64 X)) (x := w.heap.size + 1 + 1) (Or.inl (by omega)) 1 (.int .i64 Y)) (x := w.heap.size + 1 + 1) (Or.inl (by omega)) 2 (.slice A6 (canL ll).length c6)) (by exact sm)) (by have := HW.out; omega), nextw HF.out (by exact sm)⟩
end Go.Proofs.Ytpjbkadhmjlpfaa
