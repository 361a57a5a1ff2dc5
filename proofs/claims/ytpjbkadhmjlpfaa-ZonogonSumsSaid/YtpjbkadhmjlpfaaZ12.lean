/- zonogon.Sum. -/
import Derived.Test.YtpjbkadhmjlpfaaZ11
import Derived.Test.YtpjbkadhmjlpfaaZ10
set_option linter.unusedVariables false
set_option linter.unusedSimpArgs false
namespace Go.Proofs.Ytpjbkadhmjlpfaa
open Go Go.RowKit Hd

theorem sm_drew (w : World) : Below w.heap.size w w.drew := ⟨rfl, rfl, rfl, Nat.le_refl _, fun _ _ => rfl⟩
theorem nextr {w0 w w' : World} (hb : Below w.heap.size w w') (h : Below w0.heap.size w0 w) : Below w0.heap.size w0 w' := nextw h hb
theorem alB (w : World) (o : Obj) : Below w.heap.size w (w.alloc o) := (Below.refl _ _).alloc (Nat.le_refl _) _
theorem bd_app {l m : List P2} {M : Int} (h1 : ∀ p ∈ l, Bd M p) (h2 : ∀ p ∈ m, Bd M p) : ∀ p ∈ l ++ m, Bd M p := by
  intro p hp
  rcases List.mem_append.mp hp with h | h
  · exact h1 p h
  · exact h2 p h
theorem newB {w w' : World} {t : TypeId} {vs : Array Value} (bb : Below (w.alloc (.cells vs t)).heap.size (w.alloc (.cells vs t)) w') : Hid (Bx w' w.heap.size t vs) := Lib.hid ((Bx.new w t vs).below bb (by simp))

set_option maxRecDepth 100000 in
set_option maxHeartbeats 4000000 in
theorem Sum_w1 (x y u v : Int) (A : Option Addr) (n c : Nat) (l : List P2) (A2 : Option Addr) (n2 c2 : Nat) (l2 : List P2)  (hn : n ≤ 900) (hn2 : n2 ≤ 900) (dd0 : ¬ (OkZ x y l)) (w : World) {lo_L hi_L : Nat} (L : PL w lo_L hi_L A n c l) {lo_L2 hi_L2 : Nat} (L2 : PL w lo_L2 hi_L2 A2 n2 c2 l2) :
    Calls Try.prog 31 #[.agg #[.int .i64 x, .int .i64 y, .slice A n c], .agg #[.int .i64 u, .int .i64 v, .slice A2 n2 c2]] w fun e w' => e = .returned (.tuple #[.agg #[.int .i64 0, .int .i64 0, .slice none 0 0], .int .i64 1]) ∧ Below w.heap.size w w' := by
  replace L := Lib.hid L
  replace L2 := Lib.hid L2
  obtain ⟨HB, B_z0, B_z1, B_z2⟩ := box3 w 24 #[.int .i64 x, .int .i64 y, .slice A n c] 24 #[.int .i64 u, .int .i64 v, .slice A2 n2 c2] 24 #[.int .i64 0, .int .i64 0, .slice none 0 0]
  replace L := Lib.hid (PL.below L.out HB.out)
  replace L2 := Lib.hid (PL.below L2.out HB.out)
  go_enter Try.func31, Try.ntmps31
  go_upto_region 1 with (fail)
  generalize ((w.alloc (.cells #[.int .i64 x, .int .i64 y, .slice A n c] 24)).alloc (.cells #[.int .i64 u, .int .i64 v, .slice A2 n2 c2] 24)).alloc (.cells #[.int .i64 0, .int .i64 0, .slice none 0 0] 24) = W0 at *
  obtain ⟨c0z0, c1z0, c2z0⟩ := cells3 B_z0
  go_wp2_with fail
  refine (Valid_no dd0 (by omega) _ (PL.below L.out (by exact sm))).mono ?_
  clear c0z0 c1z0 c2z0
  rintro e w1 ⟨rfl, bb⟩
  replace bb := nextw (w0 := W0) (by exact sm) bb
  replace B_z0 := mv B_z0 bb
  replace B_z1 := mv B_z1 bb
  replace B_z2 := mv B_z2 bb
  replace L := Lib.hid (PL.below L.out bb)
  replace L2 := Lib.hid (PL.below L2.out bb)
  replace HB := nx HB bb
  clear bb
  obtain ⟨s0, s1, s2⟩ := cells3 (stor3 B_z2 (.int .i64 0) (.int .i64 0) (.slice none 0 0))
  have HF := stb3 HB (y := w.heap.size + 1 + 1) (by omega) 0 (.int .i64 0) 1 (.int .i64 0) 2 (.slice none 0 0)
  obtain ⟨c0z2, c1z2, c2z2⟩ := cells3 B_z2
  obtain ⟨f0z2, f1z2, f2z2⟩ := froz3 B_z2
  go_wp2_with fail
  exact bodyPost_ret (v := .tuple #[.agg #[.int .i64 0, .int .i64 0, .slice none 0 0], .int .i64 1]) (by simp [results, Try.results31, go_sem, s0, s1, s2]) rfl ⟨rfl, nextw HF.out (by exact sm)⟩

set_option maxRecDepth 100000 in
set_option maxHeartbeats 4000000 in
theorem Sum_w2 (x y u v : Int) (A : Option Addr) (n c : Nat) (l : List P2) (A2 : Option Addr) (n2 c2 : Nat) (l2 : List P2)  (hn : n ≤ 900) (hn2 : n2 ≤ 900) (dd0 : OkZ x y l) (dd1 : ¬ (OkZ u v l2)) (w : World) {lo_L hi_L : Nat} (L : PL w lo_L hi_L A n c l) {lo_L2 hi_L2 : Nat} (L2 : PL w lo_L2 hi_L2 A2 n2 c2 l2) :
    Calls Try.prog 31 #[.agg #[.int .i64 x, .int .i64 y, .slice A n c], .agg #[.int .i64 u, .int .i64 v, .slice A2 n2 c2]] w fun e w' => e = .returned (.tuple #[.agg #[.int .i64 0, .int .i64 0, .slice none 0 0], .int .i64 1]) ∧ Below w.heap.size w w' := by
  replace L := Lib.hid L
  replace L2 := Lib.hid L2
  obtain ⟨HB, B_z0, B_z1, B_z2⟩ := box3 w 24 #[.int .i64 x, .int .i64 y, .slice A n c] 24 #[.int .i64 u, .int .i64 v, .slice A2 n2 c2] 24 #[.int .i64 0, .int .i64 0, .slice none 0 0]
  replace L := Lib.hid (PL.below L.out HB.out)
  replace L2 := Lib.hid (PL.below L2.out HB.out)
  go_enter Try.func31, Try.ntmps31
  go_upto_region 1 with (fail)
  generalize ((w.alloc (.cells #[.int .i64 x, .int .i64 y, .slice A n c] 24)).alloc (.cells #[.int .i64 u, .int .i64 v, .slice A2 n2 c2] 24)).alloc (.cells #[.int .i64 0, .int .i64 0, .slice none 0 0] 24) = W0 at *
  obtain ⟨c0z0, c1z0, c2z0⟩ := cells3 B_z0
  go_wp2_with fail
  refine (Valid_yes dd0 (by omega) _ (PL.below L.out (by exact sm))).mono ?_
  clear c0z0 c1z0 c2z0
  rintro e w1 ⟨rfl, bb⟩
  replace bb := nextw (w0 := W0) (by exact sm) bb
  replace B_z0 := mv B_z0 bb
  replace B_z1 := mv B_z1 bb
  replace B_z2 := mv B_z2 bb
  replace L := Lib.hid (PL.below L.out bb)
  replace L2 := Lib.hid (PL.below L2.out bb)
  replace HB := nx HB bb
  clear bb
  obtain ⟨c0z1, c1z1, c2z1⟩ := cells3 B_z1
  go_wp2_with fail
  refine (Valid_no dd1 (by omega) _ (PL.below L2.out (by exact sm))).mono ?_
  clear c0z1 c1z1 c2z1
  rintro e w2 ⟨rfl, bb⟩
  replace bb := nextw (w0 := w1) (by exact sm) bb
  replace B_z0 := mv B_z0 bb
  replace B_z1 := mv B_z1 bb
  replace B_z2 := mv B_z2 bb
  replace L := Lib.hid (PL.below L.out bb)
  replace L2 := Lib.hid (PL.below L2.out bb)
  replace HB := nx HB bb
  clear bb
  obtain ⟨s0, s1, s2⟩ := cells3 (stor3 B_z2 (.int .i64 0) (.int .i64 0) (.slice none 0 0))
  have HF := stb3 HB (y := w.heap.size + 1 + 1) (by omega) 0 (.int .i64 0) 1 (.int .i64 0) 2 (.slice none 0 0)
  obtain ⟨c0z2, c1z2, c2z2⟩ := cells3 B_z2
  obtain ⟨f0z2, f1z2, f2z2⟩ := froz3 B_z2
  go_wp2_with fail
  exact bodyPost_ret (v := .tuple #[.agg #[.int .i64 0, .int .i64 0, .slice none 0 0], .int .i64 1]) (by simp [results, Try.results31, go_sem, s0, s1, s2]) rfl ⟨rfl, nextw HF.out (by exact sm)⟩

set_option maxRecDepth 100000 in
set_option maxHeartbeats 4000000 in
theorem Sum_ok (x y : Int) (A : Option Addr) (n c : Nat) (l : List P2) (u v : Int) (A2 : Option Addr) (n2 c2 : Nat) (l2 : List P2) (hn : n ≤ 900) (hn2 : n2 ≤ 900) (h1 : OkZ x y l) (h2 : OkZ u v l2) (h3 : OkZ (x + u) (y + v) (canL (l ++ l2))) (w : World) {lo_L hi_L : Nat} (L : PL w lo_L hi_L A n c l) {lo_L2 hi_L2 : Nat} (L2 : PL w lo_L2 hi_L2 A2 n2 c2 l2) :
    Calls Try.prog 31 #[.agg #[.int .i64 x, .int .i64 y, .slice A n c], .agg #[.int .i64 u, .int .i64 v, .slice A2 n2 c2]] w fun e w' => ∃ A4 c4, e = .returned (.tuple #[.agg #[.int .i64 (x + u), .int .i64 (y + v), .slice A4 (canL (l ++ l2)).length c4], .int .i64 0]) ∧ PL w' w.heap.size w'.heap.size A4 (canL (l ++ l2)).length c4 (canL (l ++ l2)) ∧ Below w.heap.size w w' := by
  have x1 := h1.1.1
  have x2 := h1.1.2
  have y1 := h1.2.1.1
  have y2 := h1.2.1.2
  have u1 := h2.1.1
  have u2 := h2.1.2
  have v1 := h2.2.1.1
  have v2 := h2.2.1.2
  have e1 : IntKind.i64.wrap (x + u) = x + u := by rw [IntKind.wrap_i64]; omega
  have e2 : IntKind.i64.wrap (y + v) = y + v := by rw [IntKind.wrap_i64]; omega
  have HB4 := Lib.hid (bd_app (okz_bd h1) (okz_bd h2))
  have HLE : Hid ((l ++ l2).length ≤ 1000) := by have q1 := okz_len h1; have q2 := okz_len h2; unfold Hid; rw [List.length_append]; omega
  have HCE : Hid ((canL (l ++ l2)).length ≤ 1000) := Nat.le_trans (canL_all HB4.out (by decide)).2 HLE.out
  have HCC := Lib.hid (fun (g : Nat) (w : World) (Bg : Bx w g 22 #[.slice A n c, .slice A2 n2 c2]) (lo1 hi1 lo2 hi2 : Nat) (M1 : PL w lo1 hi1 A n c l) (M2 : PL w lo2 hi2 A2 n2 c2 l2) => Concat_is g A A2 n c n2 c2 l l2 (by omega) (by omega) w Bg M1 M2)
  generalize l ++ l2 = m at *
  replace L := Lib.hid L
  replace L2 := Lib.hid L2
  obtain ⟨HB, B_z0, B_z1, B_z2⟩ := box3 w 24 #[.int .i64 x, .int .i64 y, .slice A n c] 24 #[.int .i64 u, .int .i64 v, .slice A2 n2 c2] 24 #[.int .i64 0, .int .i64 0, .slice none 0 0]
  replace L := plm L HB.out
  replace L2 := plm L2 HB.out
  go_enter Try.func31, Try.ntmps31
  go_upto_region 1 with (fail)
  generalize ((w.alloc (.cells #[.int .i64 x, .int .i64 y, .slice A n c] 24)).alloc (.cells #[.int .i64 u, .int .i64 v, .slice A2 n2 c2] 24)).alloc (.cells #[.int .i64 0, .int .i64 0, .slice none 0 0] 24) = W0 at *
  obtain ⟨c0z0, c1z0, c2z0⟩ := cells3 B_z0
  go_wp2_with fail
  refine (Valid_yes h1 (by omega) _ (PL.below L.out (by exact sm))).mono ?_
  clear c0z0 c1z0 c2z0
  rintro e w1 ⟨rfl, bb⟩
  replace bb := nextw (w0 := W0) (by exact sm) bb
  replace B_z0 := mv B_z0 bb
  replace B_z1 := mv B_z1 bb
  replace B_z2 := mv B_z2 bb
  replace L := Lib.hid (PL.below L.out bb)
  replace L2 := Lib.hid (PL.below L2.out bb)
  replace HB := nx HB bb
  clear bb
  obtain ⟨c0z1, c1z1, c2z1⟩ := cells3 B_z1
  go_wp2_with fail
  refine (Valid_yes h2 (by omega) _ (PL.below L2.out (by exact sm))).mono ?_
  clear c0z1 c1z1 c2z1
  rintro e w2 ⟨rfl, bb⟩
  replace bb := nextw (w0 := w1) (by exact sm) bb
  replace B_z0 := mv B_z0 bb
  replace B_z1 := mv B_z1 bb
  replace B_z2 := mv B_z2 bb
  replace L := Lib.hid (PL.below L.out bb)
  replace L2 := Lib.hid (PL.below L2.out bb)
  replace HB := nx HB bb
  clear bb
  go_upto_region 3 with (fail)
  obtain ⟨c0z0, c1z0, c2z0⟩ := cells3 B_z0
  obtain ⟨c0z1, c1z1, c2z1⟩ := cells3 B_z1
  refine wp_region_held_drew (S := fun w' => w'.cell? ⟨w.heap.size, 0, none⟩ = some (.int .i64 x) ∧ w'.cell? ⟨w.heap.size, 1, none⟩ = some (.int .i64 y) ∧ w'.cell? ⟨w.heap.size, 2, none⟩ = some (.slice A n c) ∧ w'.cell? ⟨w.heap.size + 1, 0, none⟩ = some (.int .i64 u) ∧ w'.cell? ⟨w.heap.size + 1, 1, none⟩ = some (.int .i64 v) ∧ w'.cell? ⟨w.heap.size + 1, 2, none⟩ = some (.slice A2 n2 c2)) (by kernel_rfl) ?_ (fun hH1x0 => ?_)
  · ((try dsimp only); (repeat' apply And.intro) <;> (first | (with_reducible assumption) | ((repeat (first | (with_reducible refine Eq.trans (cell_drew1 _ _) ?_) | (with_reducible refine Eq.trans (cell_far (by omega) _ _ _) ?_) | (with_reducible refine Eq.trans (World.cell?_alloc_lt _ _ _ (by first | (dsimp only; omega) | (simp only [World.size_alloc, World.size_setCell]; omega))) ?_))); with_reducible assumption) | assumption | go_keep))
  refine wpAnyH_take (i := 0) (v := ?hv1x0) rfl (by kernel_rfl) (by kernel_rfl) (by kernel_rfl) (fun _ _ _ h => h) (Or.inl ⟨by kernel_rfl, ?hy1x0⟩) (by assumption) ?hr1x0
  case hy1x0 => (intro w hSw; (try dsimp only at hSw); go_simp <;> with_reducible rfl)
  simp only [Act.put, List.setIfInBounds_toArray, List.set_cons_zero, List.set_cons_succ, List.getElem_toArray, List.getElem_cons_zero, List.getElem_cons_succ]
  refine wpAnyH_take (i := 1) (v := ?hv1x1) rfl (by kernel_rfl) (by kernel_rfl) (by kernel_rfl) (fun _ _ _ h => h) (Or.inl ⟨by kernel_rfl, ?hy1x1⟩) (by assumption) ?hr1x1
  case hy1x1 => (intro w hSw; (try dsimp only at hSw); go_simp <;> with_reducible rfl)
  simp only [Act.put, List.setIfInBounds_toArray, List.set_cons_zero, List.set_cons_succ, List.getElem_toArray, List.getElem_cons_zero, List.getElem_cons_succ]
  refine wpAnyH_take (i := 2) (v := ?hv1x2) rfl (by kernel_rfl) (by kernel_rfl) (by kernel_rfl) (fun _ _ _ h => h) (Or.inl ⟨by kernel_rfl, ?hy1x2⟩) (by assumption) ?hr1x2
  case hy1x2 => (intro w hSw; (try dsimp only at hSw); go_simp <;> with_reducible rfl)
  simp only [Act.put, List.setIfInBounds_toArray, List.set_cons_zero, List.set_cons_succ, List.getElem_toArray, List.getElem_cons_zero, List.getElem_cons_succ]
  refine wpAnyH_take (i := 3) (v := ?hv1x3) rfl (by kernel_rfl) (by kernel_rfl) (by kernel_rfl) (fun _ _ _ h => h) (Or.inl ⟨by kernel_rfl, ?hy1x3⟩) (by assumption) ?hr1x3
  case hy1x3 => (intro w hSw; (try dsimp only at hSw); go_simp <;> with_reducible rfl)
  simp only [Act.put, List.setIfInBounds_toArray, List.set_cons_zero, List.set_cons_succ, List.getElem_toArray, List.getElem_cons_zero, List.getElem_cons_succ]
  refine wpAnyH_take (i := 4) (v := ?hv1x4) rfl (by kernel_rfl) (by kernel_rfl) (by kernel_rfl) (fun _ _ _ h => h) (Or.inl ⟨by kernel_rfl, ?hy1x4⟩) (by assumption) ?hr1x4
  case hy1x4 => (intro w hSw; (try dsimp only at hSw); go_simp <;> with_reducible rfl)
  simp only [Act.put, List.setIfInBounds_toArray, List.set_cons_zero, List.set_cons_succ, List.getElem_toArray, List.getElem_cons_zero, List.getElem_cons_succ]
  refine wpAnyH_take (i := 5) (v := ?hv1x5) rfl (by kernel_rfl) (by kernel_rfl) (by kernel_rfl) (fun _ _ _ h => h) (Or.inl ⟨by kernel_rfl, ?hy1x5⟩) (by assumption) ?hr1x5
  case hy1x5 => (intro w hSw; (try dsimp only at hSw); go_simp <;> with_reducible rfl)
  simp only [Act.put, List.setIfInBounds_toArray, List.set_cons_zero, List.set_cons_succ, List.getElem_toArray, List.getElem_cons_zero, List.getElem_cons_succ]
  refine wpAnyH_take (i := 6) (v := ?hv1x6) rfl (by kernel_rfl) (by kernel_rfl) (by kernel_rfl) (fun _ _ _ h => h) (Or.inl ⟨by kernel_rfl, ?hy1x6⟩) (by assumption) ?hr1x6
  case hy1x6 => (intro w hSw; (try dsimp only at hSw); go_simp <;> with_reducible rfl)
  simp only [Act.put, List.setIfInBounds_toArray, List.set_cons_zero, List.set_cons_succ, List.getElem_toArray, List.getElem_cons_zero, List.getElem_cons_succ]
  refine wpAnyH_take (i := 7) (v := ?hv1x7) rfl (by kernel_rfl) (by kernel_rfl) (by kernel_rfl) (fun _ _ _ h => h) (Or.inl ⟨by kernel_rfl, ?hy1x7⟩) (by assumption) ?hr1x7
  case hy1x7 => (intro w hSw; (try dsimp only at hSw); go_simp <;> with_reducible rfl)
  simp only [Act.put, List.setIfInBounds_toArray, List.set_cons_zero, List.set_cons_succ, List.getElem_toArray, List.getElem_cons_zero, List.getElem_cons_succ]
  refine wpAnyH_take (i := 8) (v := ?hv1x8) rfl (by kernel_rfl) (by kernel_rfl) (by kernel_rfl) (fun _ _ _ h => h) (Or.inl ⟨by kernel_rfl, ?hy1x8⟩) (by assumption) ?hr1x8
  case hy1x8 => (intro w hSw; (try dsimp only at hSw); go_simp <;> with_reducible rfl)
  simp only [Act.put, List.setIfInBounds_toArray, List.set_cons_zero, List.set_cons_succ, List.getElem_toArray, List.getElem_cons_zero, List.getElem_cons_succ]
  refine wpAnyH_take (i := 9) (v := ?hv1x9) rfl (by kernel_rfl) (by kernel_rfl) (by kernel_rfl) (fun _ _ _ h => h) (Or.inl ⟨by kernel_rfl, ?hy1x9⟩) (by assumption) ?hr1x9
  case hy1x9 => (intro w hSw; (try dsimp only at hSw); go_simp <;> with_reducible rfl)
  simp only [Act.put, List.setIfInBounds_toArray, List.set_cons_zero, List.set_cons_succ, List.getElem_toArray, List.getElem_cons_zero, List.getElem_cons_succ]
  refine wpAnyH_take (i := 10) (v := ?hv1x10) rfl (by kernel_rfl) (by kernel_rfl) (by kernel_rfl) (fun _ _ _ h => h) (Or.inl ⟨by kernel_rfl, ?hy1x10⟩) (by assumption) ?hr1x10
  case hy1x10 => (intro w hSw; (try dsimp only at hSw); go_simp <;> with_reducible rfl)
  simp only [Act.put, List.setIfInBounds_toArray, List.set_cons_zero, List.set_cons_succ, List.getElem_toArray, List.getElem_cons_zero, List.getElem_cons_succ]
  refine wpAnyH_take (i := 11) (v := ?hv1x11) rfl (by kernel_rfl) (by kernel_rfl) (by kernel_rfl) (fun _ _ _ h => h) (Or.inl ⟨by kernel_rfl, ?hy1x11⟩) (by assumption) ?hr1x11
  case hy1x11 => (intro w hSw; (try dsimp only at hSw); go_simp <;> with_reducible rfl)
  simp only [Act.put, List.setIfInBounds_toArray, List.set_cons_zero, List.set_cons_succ, List.getElem_toArray, List.getElem_cons_zero, List.getElem_cons_succ]
  refine wpAnyH_take (i := 12) (v := ?hv1x12) rfl (by kernel_rfl) (by kernel_rfl) (by kernel_rfl) (fun _ _ _ h => h) (Or.inl ⟨by kernel_rfl, ?hy1x12⟩) (by assumption) ?hr1x12
  case hy1x12 => (intro w hSw; (try dsimp only at hSw); go_simp <;> with_reducible rfl)
  simp only [Act.put, List.setIfInBounds_toArray, List.set_cons_zero, List.set_cons_succ, List.getElem_toArray, List.getElem_cons_zero, List.getElem_cons_succ]
  refine wpAnyH_take (i := 13) (v := ?hv1x13) rfl (by kernel_rfl) (by kernel_rfl) (by kernel_rfl) (fun _ _ _ h => h) (Or.inl ⟨by kernel_rfl, ?hy1x13⟩) (by assumption) ?hr1x13
  case hy1x13 => (intro w hSw; (try dsimp only at hSw); go_simp <;> with_reducible rfl)
  simp only [Act.put, List.setIfInBounds_toArray, List.set_cons_zero, List.set_cons_succ, List.getElem_toArray, List.getElem_cons_zero, List.getElem_cons_succ]
  refine wpAnyH_ready (rs := [14]) (by kernel_rfl) (by simp) ?_
  refine AllReadyH.cons rfl (fun K hK => ?_) AllReadyH.nil
  go_simp
  have B_cc : Hid (Bx ((w2.alloc (.cells #[.slice A n c, .slice A2 n2 c2] 22)).drew) w2.heap.size 22 #[.slice A n c, .slice A2 n2 c2]) := Lib.hid (Bx.new w2 _ _)
  have bb : Below w2.heap.size w2 ((w2.alloc (.cells #[.slice A n c, .slice A2 n2 c2] 22)).drew) := nextw (alB _ _) (by exact sm)
  replace B_z0 := mv B_z0 bb
  replace B_z1 := mv B_z1 bb
  replace B_z2 := mv B_z2 bb
  replace L := Lib.hid (PL.below L.out bb)
  replace L2 := Lib.hid (PL.below L2.out bb)
  replace HB := nx HB bb
  clear bb c0z0 c1z0 c2z0 c0z1 c1z1 c2z1
  generalize (w2.alloc (.cells #[.slice A n c, .slice A2 n2 c2] 22)).drew = w3 at *
  have c0z0 : w3.cell? ⟨w.heap.size, 0, none⟩ = some (.int .i64 x) := B_z0.out.cell 0 rfl
  have c1z0 : w3.cell? ⟨w.heap.size, 1, none⟩ = some (.int .i64 y) := B_z0.out.cell 1 rfl
  have c2z0 : w3.cell? ⟨w.heap.size, 2, none⟩ = some (.slice A n c) := B_z0.out.cell 2 rfl
  have c0z1 : w3.cell? ⟨w.heap.size + 1, 0, none⟩ = some (.int .i64 u) := B_z1.out.cell 0 rfl
  have c1z1 : w3.cell? ⟨w.heap.size + 1, 1, none⟩ = some (.int .i64 v) := B_z1.out.cell 1 rfl
  have c2z1 : w3.cell? ⟨w.heap.size + 1, 2, none⟩ = some (.slice A2 n2 c2) := B_z1.out.cell 2 rfl
  refine hK.out _ _ ?_ (fun hH1x0b => ?_)
  · ((try dsimp only); (repeat' apply And.intro) <;> (first | (with_reducible assumption) | ((repeat (first | (with_reducible refine Eq.trans (cell_drew1 _ _) ?_) | (with_reducible refine Eq.trans (cell_far (by omega) _ _ _) ?_) | (with_reducible refine Eq.trans (World.cell?_alloc_lt _ _ _ (by first | (dsimp only; omega) | (simp only [World.size_alloc, World.size_setCell]; omega))) ?_))); with_reducible assumption) | assumption | go_keep))
  clear hK K hH1x0
  have hH1x0 := hH1x0b
  clear hH1x0b
  try simp only [Act.put, List.setIfInBounds_toArray, List.set_cons_zero, List.set_cons_succ, List.getElem_toArray, List.getElem_cons_zero, List.getElem_cons_succ]
  refine wpAnyH_ready (rs := [15]) (by kernel_rfl) (by simp) ?_
  refine AllReadyH.cons rfl (fun K hK => ?_) AllReadyH.nil
  go_simp
  go_at_call 61
  refine (HCC.out _ _ (Bx.below B_cc.out (by exact sm) B_cc.out.lt) _ _ _ _ (PL.below L.out (by exact sm)) (PL.below L2.out (by exact sm))).mono ?_
  rintro e w4 ⟨A3, c3, rfl, L3, bb⟩
  replace bb := nextw (w0 := w3) (by exact sm) bb
  replace B_z0 := mv B_z0 bb
  replace B_z1 := mv B_z1 bb
  replace B_z2 := mv B_z2 bb
  replace B_cc := mv B_cc bb
  replace L := Lib.hid (PL.below L.out bb)
  replace L2 := Lib.hid (PL.below L2.out bb)
  replace HB := nx HB bb
  clear bb c0z0 c1z0 c2z0 c0z1 c1z1 c2z1
  replace L3 := Lib.hid L3
  have sp4 : Hid (w.heap.size + 1 + 1 < w4.heap.size) := B_z2.out.lt
  have lw4 : Hid (w.heap.size ≤ w4.heap.size) := HB.out.size
  have c0z0 : w4.cell? ⟨w.heap.size, 0, none⟩ = some (.int .i64 x) := B_z0.out.cell 0 rfl
  have c1z0 : w4.cell? ⟨w.heap.size, 1, none⟩ = some (.int .i64 y) := B_z0.out.cell 1 rfl
  have c2z0 : w4.cell? ⟨w.heap.size, 2, none⟩ = some (.slice A n c) := B_z0.out.cell 2 rfl
  have c0z1 : w4.cell? ⟨w.heap.size + 1, 0, none⟩ = some (.int .i64 u) := B_z1.out.cell 0 rfl
  have c1z1 : w4.cell? ⟨w.heap.size + 1, 1, none⟩ = some (.int .i64 v) := B_z1.out.cell 1 rfl
  have c2z1 : w4.cell? ⟨w.heap.size + 1, 2, none⟩ = some (.slice A2 n2 c2) := B_z1.out.cell 2 rfl
  go_wp2_with fail
  refine hK.out _ _ ?_ (fun hH1x1 => ?_)
  · ((try dsimp only); (repeat' apply And.intro) <;> (first | (with_reducible assumption) | ((repeat (first | (with_reducible refine Eq.trans (cell_drew1 _ _) ?_) | (with_reducible refine Eq.trans (cell_far (by omega) _ _ _) ?_) | (with_reducible refine Eq.trans (World.cell?_alloc_lt _ _ _ (by first | (dsimp only; omega) | (simp only [World.size_alloc, World.size_setCell]; omega))) ?_))); with_reducible assumption) | assumption | go_keep))
  clear hK K hH1x0
  try simp only [Act.put, List.setIfInBounds_toArray, List.set_cons_zero, List.set_cons_succ, List.getElem_toArray, List.getElem_cons_zero, List.getElem_cons_succ]
  refine wpAnyH_take (i := 16) (v := ?hv1x16) rfl (by kernel_rfl) (by kernel_rfl) (by kernel_rfl) (fun _ _ _ h => h) (Or.inl ⟨by kernel_rfl, ?hy1x16⟩) (by assumption) ?hr1x16
  case hy1x16 => (intro w hSw; (try dsimp only at hSw); go_simp <;> with_reducible rfl)
  simp only [Act.put, List.setIfInBounds_toArray, List.set_cons_zero, List.set_cons_succ, List.getElem_toArray, List.getElem_cons_zero, List.getElem_cons_succ]
  refine wpAnyH_ready (rs := [17]) (by kernel_rfl) (by simp) ?_
  refine AllReadyH.cons rfl (fun K hK => ?_) AllReadyH.nil
  go_simp
  go_at_call 44
  refine (canonical_is (x + u) (y + v) _ _ _ m HLE.out HB4.out _ (PL.below L3.out (by exact sm))).mono ?_
  rintro e w5 ⟨A4, c4, rfl, L4, bb⟩
  replace bb := nextw (w0 := w4) (by exact sm) bb
  replace B_z0 := mv B_z0 bb
  replace B_z1 := mv B_z1 bb
  replace B_z2 := mv B_z2 bb
  replace B_cc := mv B_cc bb
  replace L := Lib.hid (PL.below L.out bb)
  replace L2 := Lib.hid (PL.below L2.out bb)
  replace L3 := Lib.hid (PL.below L3.out bb)
  replace HB := nx HB bb
  clear bb c0z0 c1z0 c2z0 c0z1 c1z1 c2z1
  replace L4 := Lib.hid L4
  have c0z0 : w5.cell? ⟨w.heap.size, 0, none⟩ = some (.int .i64 x) := B_z0.out.cell 0 rfl
  have c1z0 : w5.cell? ⟨w.heap.size, 1, none⟩ = some (.int .i64 y) := B_z0.out.cell 1 rfl
  have c2z0 : w5.cell? ⟨w.heap.size, 2, none⟩ = some (.slice A n c) := B_z0.out.cell 2 rfl
  have c0z1 : w5.cell? ⟨w.heap.size + 1, 0, none⟩ = some (.int .i64 u) := B_z1.out.cell 0 rfl
  have c1z1 : w5.cell? ⟨w.heap.size + 1, 1, none⟩ = some (.int .i64 v) := B_z1.out.cell 1 rfl
  have c2z1 : w5.cell? ⟨w.heap.size + 1, 2, none⟩ = some (.slice A2 n2 c2) := B_z1.out.cell 2 rfl
  go_wp2_with fail
  refine hK.out _ _ ?_ (fun hH1x2 => ?_)
  · ((try dsimp only); (repeat' apply And.intro) <;> (first | (with_reducible assumption) | ((repeat (first | (with_reducible refine Eq.trans (cell_drew1 _ _) ?_) | (with_reducible refine Eq.trans (cell_far (by omega) _ _ _) ?_) | (with_reducible refine Eq.trans (World.cell?_alloc_lt _ _ _ (by first | (dsimp only; omega) | (simp only [World.size_alloc, World.size_setCell]; omega))) ?_))); with_reducible assumption) | assumption | go_keep))
  clear hK K hH1x1
  try simp only [Act.put, List.setIfInBounds_toArray, List.set_cons_zero, List.set_cons_succ, List.getElem_toArray, List.getElem_cons_zero, List.getElem_cons_succ]
  refine wpAnyH_ready (rs := [18]) (by kernel_rfl) (by simp) ?_
  refine AllReadyH.cons rfl (fun K hK => ?_) AllReadyH.nil
  go_simp
  go_at_call 60
  refine (ifValid_w0 (x + u) (y + v) _ _ _ (canL m) HCE.out h3 _ (PL.below L4.out (by exact sm))).mono ?_
  rintro e w6 ⟨rfl, bb⟩
  replace bb := nextw (w0 := w5) (by exact sm) bb
  replace B_z0 := mv B_z0 bb
  replace B_z1 := mv B_z1 bb
  replace B_z2 := mv B_z2 bb
  replace B_cc := mv B_cc bb
  replace L := Lib.hid (PL.below L.out bb)
  replace L2 := Lib.hid (PL.below L2.out bb)
  replace L3 := Lib.hid (PL.below L3.out bb)
  replace L4 := Lib.hid (PL.below L4.out bb)
  replace HB := nx HB bb
  clear bb c0z0 c1z0 c2z0 c0z1 c1z1 c2z1
  have c0z2 : w6.cell? ⟨w.heap.size + 1 + 1, 0, none⟩ = some (.int .i64 0) := B_z2.out.cell 0 rfl
  have c1z2 : w6.cell? ⟨w.heap.size + 1 + 1, 1, none⟩ = some (.int .i64 0) := B_z2.out.cell 1 rfl
  have c2z2 : w6.cell? ⟨w.heap.size + 1 + 1, 2, none⟩ = some (.slice none 0 0) := B_z2.out.cell 2 rfl
  have f0z2 : w6.frozen? ⟨w.heap.size + 1 + 1, 0, none⟩ = false := B_z2.out.frozen 0
  have f1z2 : w6.frozen? ⟨w.heap.size + 1 + 1, 1, none⟩ = false := B_z2.out.frozen 1
  have f2z2 : w6.frozen? ⟨w.heap.size + 1 + 1, 2, none⟩ = false := B_z2.out.frozen 2
  have c0z0 : w6.cell? ⟨w.heap.size, 0, none⟩ = some (.int .i64 x) := B_z0.out.cell 0 rfl
  have c1z0 : w6.cell? ⟨w.heap.size, 1, none⟩ = some (.int .i64 y) := B_z0.out.cell 1 rfl
  have c2z0 : w6.cell? ⟨w.heap.size, 2, none⟩ = some (.slice A n c) := B_z0.out.cell 2 rfl
  have c0z1 : w6.cell? ⟨w.heap.size + 1, 0, none⟩ = some (.int .i64 u) := B_z1.out.cell 0 rfl
  have c1z1 : w6.cell? ⟨w.heap.size + 1, 1, none⟩ = some (.int .i64 v) := B_z1.out.cell 1 rfl
  have c2z1 : w6.cell? ⟨w.heap.size + 1, 2, none⟩ = some (.slice A2 n2 c2) := B_z1.out.cell 2 rfl
  go_wp2_with fail
  refine hK.out _ _ ?_ (fun hH1x3 => ?_)
  · ((try dsimp only); (repeat' apply And.intro) <;> (first | (with_reducible assumption) | ((repeat (first | (with_reducible refine Eq.trans (cell_drew1 _ _) ?_) | (with_reducible refine Eq.trans (cell_far (by omega) _ _ _) ?_) | (with_reducible refine Eq.trans (World.cell?_alloc_lt _ _ _ (by first | (dsimp only; omega) | (simp only [World.size_alloc, World.size_setCell]; omega))) ?_))); with_reducible assumption) | assumption | go_keep))
  clear hK K hH1x2
  try simp only [Act.put, List.setIfInBounds_toArray, List.set_cons_zero, List.set_cons_succ, List.getElem_toArray, List.getElem_cons_zero, List.getElem_cons_succ]
  refine wpAnyH_take (i := 19) (v := ?hv1x19) rfl (by kernel_rfl) (by kernel_rfl) (by kernel_rfl) (fun _ _ _ h => h) (Or.inl ⟨by kernel_rfl, ?hy1x19⟩) (by assumption) ?hr1x19
  case hy1x19 => (intro w hSw; (try dsimp only at hSw); go_simp <;> with_reducible rfl)
  simp only [Act.put, List.setIfInBounds_toArray, List.set_cons_zero, List.set_cons_succ, List.getElem_toArray, List.getElem_cons_zero, List.getElem_cons_succ]
  refine wpAnyH_take (i := 20) (v := ?hv1x20) rfl (by kernel_rfl) (by kernel_rfl) (by kernel_rfl) (fun _ _ _ h => h) (Or.inl ⟨by kernel_rfl, ?hy1x20⟩) (by assumption) ?hr1x20
  case hy1x20 => (intro w hSw; (try dsimp only at hSw); go_simp <;> with_reducible rfl)
  simp only [Act.put, List.setIfInBounds_toArray, List.set_cons_zero, List.set_cons_succ, List.getElem_toArray, List.getElem_cons_zero, List.getElem_cons_succ]
  refine wpAnyH_ready (rs := [21]) (by kernel_rfl) (by simp) ?_
  refine AllReadyH.cons rfl (fun K hK => ?_) AllReadyH.nil
  go_simp
  refine hK.out _ _ ?_ (fun hH1x3b => ?_)
  · ((try dsimp only); (repeat' apply And.intro) <;> (first | (with_reducible assumption) | ((repeat (first | (with_reducible refine Eq.trans (cell_drew1 _ _) ?_) | (with_reducible refine Eq.trans (cell_far (by omega) _ _ _) ?_) | (with_reducible refine Eq.trans (World.cell?_alloc_lt _ _ _ (by first | (dsimp only; omega) | (simp only [World.size_alloc, World.size_setCell]; omega))) ?_))); with_reducible assumption) | assumption | go_keep))
  clear hK K hH1x3
  have hH1x3 := hH1x3b
  clear hH1x3b
  try simp only [Act.put, List.setIfInBounds_toArray, List.set_cons_zero, List.set_cons_succ, List.getElem_toArray, List.getElem_cons_zero, List.getElem_cons_succ]
  refine wpAnyH_take (i := 22) (v := ?hv1x22) rfl (by kernel_rfl) (by kernel_rfl) (by kernel_rfl) (fun _ _ _ h => h) (Or.inl ⟨by kernel_rfl, ?hy1x22⟩) (by assumption) ?hr1x22
  case hy1x22 => (intro w hSw; (try dsimp only at hSw); go_simp <;> with_reducible rfl)
  simp only [Act.put, List.setIfInBounds_toArray, List.set_cons_zero, List.set_cons_succ, List.getElem_toArray, List.getElem_cons_zero, List.getElem_cons_succ]
  refine wpAnyH_done (by kernel_rfl) ?_ _
  clear hH1x3
  all_goals
    obtain ⟨s0, s1, s2⟩ := cells3 (stor3 B_z2 (.int .i64 (x + u)) (.int .i64 (y + v)) (.slice A4 (canL m).length c4))
    have HF := stb3 HB (y := w.heap.size + 1 + 1) (by omega) 0 (.int .i64 (x + u)) 1 (.int .i64 (y + v)) 2 (.slice A4 (canL m).length c4)
    obtain ⟨c0z2, c1z2, c2z2⟩ := cells3 B_z2
    obtain ⟨f0z2, f1z2, f2z2⟩ := froz3 B_z2
    go_wp2_with fail
    exact bodyPost_ret (v := .tuple #[.agg #[.int .i64 (x + u), .int .i64 (y + v), .slice A4 (canL m).length c4], .int .i64 0]) (by simp [results, Try.results31, go_sem, s0, s1, s2]) rfl ⟨A4, c4, rfl, PL.outw (PL.below (PL.set (PL.set (PL.set L4.out (Or.inl sp4.out) 0 (.int .i64 (x + u))) (Or.inl sp4.out) 1 (.int .i64 (y + v))) (Or.inl sp4.out) 2 (.slice A4 (canL m).length c4)) (by exact sm)) lw4.out, nextw HF.out (by exact sm)⟩

set_option maxRecDepth 100000 in
set_option maxHeartbeats 4000000 in
theorem Sum_full (x y : Int) (A : Option Addr) (n c : Nat) (l : List P2) (u v : Int) (A2 : Option Addr) (n2 c2 : Nat) (l2 : List P2) (hn : n ≤ 900) (hn2 : n2 ≤ 900) (h1 : OkZ x y l) (h2 : OkZ u v l2) (h3 : ¬ OkZ (x + u) (y + v) (canL (l ++ l2))) (w : World) {lo_L hi_L : Nat} (L : PL w lo_L hi_L A n c l) {lo_L2 hi_L2 : Nat} (L2 : PL w lo_L2 hi_L2 A2 n2 c2 l2) :
    Calls Try.prog 31 #[.agg #[.int .i64 x, .int .i64 y, .slice A n c], .agg #[.int .i64 u, .int .i64 v, .slice A2 n2 c2]] w fun e w' => e = .returned (.tuple #[.agg #[.int .i64 0, .int .i64 0, .slice none 0 0], .int .i64 6]) ∧ Below w.heap.size w w' := by
  have x1 := h1.1.1
  have x2 := h1.1.2
  have y1 := h1.2.1.1
  have y2 := h1.2.1.2
  have u1 := h2.1.1
  have u2 := h2.1.2
  have v1 := h2.2.1.1
  have v2 := h2.2.1.2
  have e1 : IntKind.i64.wrap (x + u) = x + u := by rw [IntKind.wrap_i64]; omega
  have e2 : IntKind.i64.wrap (y + v) = y + v := by rw [IntKind.wrap_i64]; omega
  have HB4 := Lib.hid (bd_app (okz_bd h1) (okz_bd h2))
  have HLE : Hid ((l ++ l2).length ≤ 1000) := by have q1 := okz_len h1; have q2 := okz_len h2; unfold Hid; rw [List.length_append]; omega
  have HCE : Hid ((canL (l ++ l2)).length ≤ 1000) := Nat.le_trans (canL_all HB4.out (by decide)).2 HLE.out
  have HCC := Lib.hid (fun (g : Nat) (w : World) (Bg : Bx w g 22 #[.slice A n c, .slice A2 n2 c2]) (lo1 hi1 lo2 hi2 : Nat) (M1 : PL w lo1 hi1 A n c l) (M2 : PL w lo2 hi2 A2 n2 c2 l2) => Concat_is g A A2 n c n2 c2 l l2 (by omega) (by omega) w Bg M1 M2)
  generalize l ++ l2 = m at *
  replace L := Lib.hid L
  replace L2 := Lib.hid L2
  obtain ⟨HB, B_z0, B_z1, B_z2⟩ := box3 w 24 #[.int .i64 x, .int .i64 y, .slice A n c] 24 #[.int .i64 u, .int .i64 v, .slice A2 n2 c2] 24 #[.int .i64 0, .int .i64 0, .slice none 0 0]
  replace L := plm L HB.out
  replace L2 := plm L2 HB.out
  go_enter Try.func31, Try.ntmps31
  go_upto_region 1 with (fail)
  generalize ((w.alloc (.cells #[.int .i64 x, .int .i64 y, .slice A n c] 24)).alloc (.cells #[.int .i64 u, .int .i64 v, .slice A2 n2 c2] 24)).alloc (.cells #[.int .i64 0, .int .i64 0, .slice none 0 0] 24) = W0 at *
  obtain ⟨c0z0, c1z0, c2z0⟩ := cells3 B_z0
  go_wp2_with fail
  refine (Valid_yes h1 (by omega) _ (PL.below L.out (by exact sm))).mono ?_
  clear c0z0 c1z0 c2z0
  rintro e w1 ⟨rfl, bb⟩
  replace bb := nextw (w0 := W0) (by exact sm) bb
  replace B_z0 := mv B_z0 bb
  replace B_z1 := mv B_z1 bb
  replace B_z2 := mv B_z2 bb
  replace L := Lib.hid (PL.below L.out bb)
  replace L2 := Lib.hid (PL.below L2.out bb)
  replace HB := nx HB bb
  clear bb
  obtain ⟨c0z1, c1z1, c2z1⟩ := cells3 B_z1
  go_wp2_with fail
  refine (Valid_yes h2 (by omega) _ (PL.below L2.out (by exact sm))).mono ?_
  clear c0z1 c1z1 c2z1
  rintro e w2 ⟨rfl, bb⟩
  replace bb := nextw (w0 := w1) (by exact sm) bb
  replace B_z0 := mv B_z0 bb
  replace B_z1 := mv B_z1 bb
  replace B_z2 := mv B_z2 bb
  replace L := Lib.hid (PL.below L.out bb)
  replace L2 := Lib.hid (PL.below L2.out bb)
  replace HB := nx HB bb
  clear bb
  go_upto_region 3 with (fail)
  obtain ⟨c0z0, c1z0, c2z0⟩ := cells3 B_z0
  obtain ⟨c0z1, c1z1, c2z1⟩ := cells3 B_z1
  refine wp_region_held_drew (S := fun w' => w'.cell? ⟨w.heap.size, 0, none⟩ = some (.int .i64 x) ∧ w'.cell? ⟨w.heap.size, 1, none⟩ = some (.int .i64 y) ∧ w'.cell? ⟨w.heap.size, 2, none⟩ = some (.slice A n c) ∧ w'.cell? ⟨w.heap.size + 1, 0, none⟩ = some (.int .i64 u) ∧ w'.cell? ⟨w.heap.size + 1, 1, none⟩ = some (.int .i64 v) ∧ w'.cell? ⟨w.heap.size + 1, 2, none⟩ = some (.slice A2 n2 c2)) (by kernel_rfl) ?_ (fun hH1x0 => ?_)
  · ((try dsimp only); (repeat' apply And.intro) <;> (first | (with_reducible assumption) | ((repeat (first | (with_reducible refine Eq.trans (cell_drew1 _ _) ?_) | (with_reducible refine Eq.trans (cell_far (by omega) _ _ _) ?_) | (with_reducible refine Eq.trans (World.cell?_alloc_lt _ _ _ (by first | (dsimp only; omega) | (simp only [World.size_alloc, World.size_setCell]; omega))) ?_))); with_reducible assumption) | assumption | go_keep))
  refine wpAnyH_take (i := 0) (v := ?hv1x0) rfl (by kernel_rfl) (by kernel_rfl) (by kernel_rfl) (fun _ _ _ h => h) (Or.inl ⟨by kernel_rfl, ?hy1x0⟩) (by assumption) ?hr1x0
  case hy1x0 => (intro w hSw; (try dsimp only at hSw); go_simp <;> with_reducible rfl)
  simp only [Act.put, List.setIfInBounds_toArray, List.set_cons_zero, List.set_cons_succ, List.getElem_toArray, List.getElem_cons_zero, List.getElem_cons_succ]
  refine wpAnyH_take (i := 1) (v := ?hv1x1) rfl (by kernel_rfl) (by kernel_rfl) (by kernel_rfl) (fun _ _ _ h => h) (Or.inl ⟨by kernel_rfl, ?hy1x1⟩) (by assumption) ?hr1x1
  case hy1x1 => (intro w hSw; (try dsimp only at hSw); go_simp <;> with_reducible rfl)
  simp only [Act.put, List.setIfInBounds_toArray, List.set_cons_zero, List.set_cons_succ, List.getElem_toArray, List.getElem_cons_zero, List.getElem_cons_succ]
  refine wpAnyH_take (i := 2) (v := ?hv1x2) rfl (by kernel_rfl) (by kernel_rfl) (by kernel_rfl) (fun _ _ _ h => h) (Or.inl ⟨by kernel_rfl, ?hy1x2⟩) (by assumption) ?hr1x2
  case hy1x2 => (intro w hSw; (try dsimp only at hSw); go_simp <;> with_reducible rfl)
  simp only [Act.put, List.setIfInBounds_toArray, List.set_cons_zero, List.set_cons_succ, List.getElem_toArray, List.getElem_cons_zero, List.getElem_cons_succ]
  refine wpAnyH_take (i := 3) (v := ?hv1x3) rfl (by kernel_rfl) (by kernel_rfl) (by kernel_rfl) (fun _ _ _ h => h) (Or.inl ⟨by kernel_rfl, ?hy1x3⟩) (by assumption) ?hr1x3
  case hy1x3 => (intro w hSw; (try dsimp only at hSw); go_simp <;> with_reducible rfl)
  simp only [Act.put, List.setIfInBounds_toArray, List.set_cons_zero, List.set_cons_succ, List.getElem_toArray, List.getElem_cons_zero, List.getElem_cons_succ]
  refine wpAnyH_take (i := 4) (v := ?hv1x4) rfl (by kernel_rfl) (by kernel_rfl) (by kernel_rfl) (fun _ _ _ h => h) (Or.inl ⟨by kernel_rfl, ?hy1x4⟩) (by assumption) ?hr1x4
  case hy1x4 => (intro w hSw; (try dsimp only at hSw); go_simp <;> with_reducible rfl)
  simp only [Act.put, List.setIfInBounds_toArray, List.set_cons_zero, List.set_cons_succ, List.getElem_toArray, List.getElem_cons_zero, List.getElem_cons_succ]
  refine wpAnyH_take (i := 5) (v := ?hv1x5) rfl (by kernel_rfl) (by kernel_rfl) (by kernel_rfl) (fun _ _ _ h => h) (Or.inl ⟨by kernel_rfl, ?hy1x5⟩) (by assumption) ?hr1x5
  case hy1x5 => (intro w hSw; (try dsimp only at hSw); go_simp <;> with_reducible rfl)
  simp only [Act.put, List.setIfInBounds_toArray, List.set_cons_zero, List.set_cons_succ, List.getElem_toArray, List.getElem_cons_zero, List.getElem_cons_succ]
  refine wpAnyH_take (i := 6) (v := ?hv1x6) rfl (by kernel_rfl) (by kernel_rfl) (by kernel_rfl) (fun _ _ _ h => h) (Or.inl ⟨by kernel_rfl, ?hy1x6⟩) (by assumption) ?hr1x6
  case hy1x6 => (intro w hSw; (try dsimp only at hSw); go_simp <;> with_reducible rfl)
  simp only [Act.put, List.setIfInBounds_toArray, List.set_cons_zero, List.set_cons_succ, List.getElem_toArray, List.getElem_cons_zero, List.getElem_cons_succ]
  refine wpAnyH_take (i := 7) (v := ?hv1x7) rfl (by kernel_rfl) (by kernel_rfl) (by kernel_rfl) (fun _ _ _ h => h) (Or.inl ⟨by kernel_rfl, ?hy1x7⟩) (by assumption) ?hr1x7
  case hy1x7 => (intro w hSw; (try dsimp only at hSw); go_simp <;> with_reducible rfl)
  simp only [Act.put, List.setIfInBounds_toArray, List.set_cons_zero, List.set_cons_succ, List.getElem_toArray, List.getElem_cons_zero, List.getElem_cons_succ]
  refine wpAnyH_take (i := 8) (v := ?hv1x8) rfl (by kernel_rfl) (by kernel_rfl) (by kernel_rfl) (fun _ _ _ h => h) (Or.inl ⟨by kernel_rfl, ?hy1x8⟩) (by assumption) ?hr1x8
  case hy1x8 => (intro w hSw; (try dsimp only at hSw); go_simp <;> with_reducible rfl)
  simp only [Act.put, List.setIfInBounds_toArray, List.set_cons_zero, List.set_cons_succ, List.getElem_toArray, List.getElem_cons_zero, List.getElem_cons_succ]
  refine wpAnyH_take (i := 9) (v := ?hv1x9) rfl (by kernel_rfl) (by kernel_rfl) (by kernel_rfl) (fun _ _ _ h => h) (Or.inl ⟨by kernel_rfl, ?hy1x9⟩) (by assumption) ?hr1x9
  case hy1x9 => (intro w hSw; (try dsimp only at hSw); go_simp <;> with_reducible rfl)
  simp only [Act.put, List.setIfInBounds_toArray, List.set_cons_zero, List.set_cons_succ, List.getElem_toArray, List.getElem_cons_zero, List.getElem_cons_succ]
  refine wpAnyH_take (i := 10) (v := ?hv1x10) rfl (by kernel_rfl) (by kernel_rfl) (by kernel_rfl) (fun _ _ _ h => h) (Or.inl ⟨by kernel_rfl, ?hy1x10⟩) (by assumption) ?hr1x10
  case hy1x10 => (intro w hSw; (try dsimp only at hSw); go_simp <;> with_reducible rfl)
  simp only [Act.put, List.setIfInBounds_toArray, List.set_cons_zero, List.set_cons_succ, List.getElem_toArray, List.getElem_cons_zero, List.getElem_cons_succ]
  refine wpAnyH_take (i := 11) (v := ?hv1x11) rfl (by kernel_rfl) (by kernel_rfl) (by kernel_rfl) (fun _ _ _ h => h) (Or.inl ⟨by kernel_rfl, ?hy1x11⟩) (by assumption) ?hr1x11
  case hy1x11 => (intro w hSw; (try dsimp only at hSw); go_simp <;> with_reducible rfl)
  simp only [Act.put, List.setIfInBounds_toArray, List.set_cons_zero, List.set_cons_succ, List.getElem_toArray, List.getElem_cons_zero, List.getElem_cons_succ]
  refine wpAnyH_take (i := 12) (v := ?hv1x12) rfl (by kernel_rfl) (by kernel_rfl) (by kernel_rfl) (fun _ _ _ h => h) (Or.inl ⟨by kernel_rfl, ?hy1x12⟩) (by assumption) ?hr1x12
  case hy1x12 => (intro w hSw; (try dsimp only at hSw); go_simp <;> with_reducible rfl)
  simp only [Act.put, List.setIfInBounds_toArray, List.set_cons_zero, List.set_cons_succ, List.getElem_toArray, List.getElem_cons_zero, List.getElem_cons_succ]
  refine wpAnyH_take (i := 13) (v := ?hv1x13) rfl (by kernel_rfl) (by kernel_rfl) (by kernel_rfl) (fun _ _ _ h => h) (Or.inl ⟨by kernel_rfl, ?hy1x13⟩) (by assumption) ?hr1x13
  case hy1x13 => (intro w hSw; (try dsimp only at hSw); go_simp <;> with_reducible rfl)
  simp only [Act.put, List.setIfInBounds_toArray, List.set_cons_zero, List.set_cons_succ, List.getElem_toArray, List.getElem_cons_zero, List.getElem_cons_succ]
  refine wpAnyH_ready (rs := [14]) (by kernel_rfl) (by simp) ?_
  refine AllReadyH.cons rfl (fun K hK => ?_) AllReadyH.nil
  go_simp
  have B_cc : Hid (Bx ((w2.alloc (.cells #[.slice A n c, .slice A2 n2 c2] 22)).drew) w2.heap.size 22 #[.slice A n c, .slice A2 n2 c2]) := Lib.hid (Bx.new w2 _ _)
  have bb : Below w2.heap.size w2 ((w2.alloc (.cells #[.slice A n c, .slice A2 n2 c2] 22)).drew) := nextw (alB _ _) (by exact sm)
  replace B_z0 := mv B_z0 bb
  replace B_z1 := mv B_z1 bb
  replace B_z2 := mv B_z2 bb
  replace L := Lib.hid (PL.below L.out bb)
  replace L2 := Lib.hid (PL.below L2.out bb)
  replace HB := nx HB bb
  clear bb c0z0 c1z0 c2z0 c0z1 c1z1 c2z1
  generalize (w2.alloc (.cells #[.slice A n c, .slice A2 n2 c2] 22)).drew = w3 at *
  have c0z0 : w3.cell? ⟨w.heap.size, 0, none⟩ = some (.int .i64 x) := B_z0.out.cell 0 rfl
  have c1z0 : w3.cell? ⟨w.heap.size, 1, none⟩ = some (.int .i64 y) := B_z0.out.cell 1 rfl
  have c2z0 : w3.cell? ⟨w.heap.size, 2, none⟩ = some (.slice A n c) := B_z0.out.cell 2 rfl
  have c0z1 : w3.cell? ⟨w.heap.size + 1, 0, none⟩ = some (.int .i64 u) := B_z1.out.cell 0 rfl
  have c1z1 : w3.cell? ⟨w.heap.size + 1, 1, none⟩ = some (.int .i64 v) := B_z1.out.cell 1 rfl
  have c2z1 : w3.cell? ⟨w.heap.size + 1, 2, none⟩ = some (.slice A2 n2 c2) := B_z1.out.cell 2 rfl
  refine hK.out _ _ ?_ (fun hH1x0b => ?_)
  · ((try dsimp only); (repeat' apply And.intro) <;> (first | (with_reducible assumption) | ((repeat (first | (with_reducible refine Eq.trans (cell_drew1 _ _) ?_) | (with_reducible refine Eq.trans (cell_far (by omega) _ _ _) ?_) | (with_reducible refine Eq.trans (World.cell?_alloc_lt _ _ _ (by first | (dsimp only; omega) | (simp only [World.size_alloc, World.size_setCell]; omega))) ?_))); with_reducible assumption) | assumption | go_keep))
  clear hK K hH1x0
  have hH1x0 := hH1x0b
  clear hH1x0b
  try simp only [Act.put, List.setIfInBounds_toArray, List.set_cons_zero, List.set_cons_succ, List.getElem_toArray, List.getElem_cons_zero, List.getElem_cons_succ]
  refine wpAnyH_ready (rs := [15]) (by kernel_rfl) (by simp) ?_
  refine AllReadyH.cons rfl (fun K hK => ?_) AllReadyH.nil
  go_simp
  go_at_call 61
  refine (HCC.out _ _ (Bx.below B_cc.out (by exact sm) B_cc.out.lt) _ _ _ _ (PL.below L.out (by exact sm)) (PL.below L2.out (by exact sm))).mono ?_
  rintro e w4 ⟨A3, c3, rfl, L3, bb⟩
  replace bb := nextw (w0 := w3) (by exact sm) bb
  replace B_z0 := mv B_z0 bb
  replace B_z1 := mv B_z1 bb
  replace B_z2 := mv B_z2 bb
  replace B_cc := mv B_cc bb
  replace L := Lib.hid (PL.below L.out bb)
  replace L2 := Lib.hid (PL.below L2.out bb)
  replace HB := nx HB bb
  clear bb c0z0 c1z0 c2z0 c0z1 c1z1 c2z1
  replace L3 := Lib.hid L3
  have sp4 : Hid (w.heap.size + 1 + 1 < w4.heap.size) := B_z2.out.lt
  have lw4 : Hid (w.heap.size ≤ w4.heap.size) := HB.out.size
  have c0z0 : w4.cell? ⟨w.heap.size, 0, none⟩ = some (.int .i64 x) := B_z0.out.cell 0 rfl
  have c1z0 : w4.cell? ⟨w.heap.size, 1, none⟩ = some (.int .i64 y) := B_z0.out.cell 1 rfl
  have c2z0 : w4.cell? ⟨w.heap.size, 2, none⟩ = some (.slice A n c) := B_z0.out.cell 2 rfl
  have c0z1 : w4.cell? ⟨w.heap.size + 1, 0, none⟩ = some (.int .i64 u) := B_z1.out.cell 0 rfl
  have c1z1 : w4.cell? ⟨w.heap.size + 1, 1, none⟩ = some (.int .i64 v) := B_z1.out.cell 1 rfl
  have c2z1 : w4.cell? ⟨w.heap.size + 1, 2, none⟩ = some (.slice A2 n2 c2) := B_z1.out.cell 2 rfl
  go_wp2_with fail
  refine hK.out _ _ ?_ (fun hH1x1 => ?_)
  · ((try dsimp only); (repeat' apply And.intro) <;> (first | (with_reducible assumption) | ((repeat (first | (with_reducible refine Eq.trans (cell_drew1 _ _) ?_) | (with_reducible refine Eq.trans (cell_far (by omega) _ _ _) ?_) | (with_reducible refine Eq.trans (World.cell?_alloc_lt _ _ _ (by first | (dsimp only; omega) | (simp only [World.size_alloc, World.size_setCell]; omega))) ?_))); with_reducible assumption) | assumption | go_keep))
  clear hK K hH1x0
  try simp only [Act.put, List.setIfInBounds_toArray, List.set_cons_zero, List.set_cons_succ, List.getElem_toArray, List.getElem_cons_zero, List.getElem_cons_succ]
  refine wpAnyH_take (i := 16) (v := ?hv1x16) rfl (by kernel_rfl) (by kernel_rfl) (by kernel_rfl) (fun _ _ _ h => h) (Or.inl ⟨by kernel_rfl, ?hy1x16⟩) (by assumption) ?hr1x16
  case hy1x16 => (intro w hSw; (try dsimp only at hSw); go_simp <;> with_reducible rfl)
  simp only [Act.put, List.setIfInBounds_toArray, List.set_cons_zero, List.set_cons_succ, List.getElem_toArray, List.getElem_cons_zero, List.getElem_cons_succ]
  refine wpAnyH_ready (rs := [17]) (by kernel_rfl) (by simp) ?_
  refine AllReadyH.cons rfl (fun K hK => ?_) AllReadyH.nil
  go_simp
  go_at_call 44
  refine (canonical_is (x + u) (y + v) _ _ _ m HLE.out HB4.out _ (PL.below L3.out (by exact sm))).mono ?_
  rintro e w5 ⟨A4, c4, rfl, L4, bb⟩
  replace bb := nextw (w0 := w4) (by exact sm) bb
  replace B_z0 := mv B_z0 bb
  replace B_z1 := mv B_z1 bb
  replace B_z2 := mv B_z2 bb
  replace B_cc := mv B_cc bb
  replace L := Lib.hid (PL.below L.out bb)
  replace L2 := Lib.hid (PL.below L2.out bb)
  replace L3 := Lib.hid (PL.below L3.out bb)
  replace HB := nx HB bb
  clear bb c0z0 c1z0 c2z0 c0z1 c1z1 c2z1
  replace L4 := Lib.hid L4
  have c0z0 : w5.cell? ⟨w.heap.size, 0, none⟩ = some (.int .i64 x) := B_z0.out.cell 0 rfl
  have c1z0 : w5.cell? ⟨w.heap.size, 1, none⟩ = some (.int .i64 y) := B_z0.out.cell 1 rfl
  have c2z0 : w5.cell? ⟨w.heap.size, 2, none⟩ = some (.slice A n c) := B_z0.out.cell 2 rfl
  have c0z1 : w5.cell? ⟨w.heap.size + 1, 0, none⟩ = some (.int .i64 u) := B_z1.out.cell 0 rfl
  have c1z1 : w5.cell? ⟨w.heap.size + 1, 1, none⟩ = some (.int .i64 v) := B_z1.out.cell 1 rfl
  have c2z1 : w5.cell? ⟨w.heap.size + 1, 2, none⟩ = some (.slice A2 n2 c2) := B_z1.out.cell 2 rfl
  go_wp2_with fail
  refine hK.out _ _ ?_ (fun hH1x2 => ?_)
  · ((try dsimp only); (repeat' apply And.intro) <;> (first | (with_reducible assumption) | ((repeat (first | (with_reducible refine Eq.trans (cell_drew1 _ _) ?_) | (with_reducible refine Eq.trans (cell_far (by omega) _ _ _) ?_) | (with_reducible refine Eq.trans (World.cell?_alloc_lt _ _ _ (by first | (dsimp only; omega) | (simp only [World.size_alloc, World.size_setCell]; omega))) ?_))); with_reducible assumption) | assumption | go_keep))
  clear hK K hH1x1
  try simp only [Act.put, List.setIfInBounds_toArray, List.set_cons_zero, List.set_cons_succ, List.getElem_toArray, List.getElem_cons_zero, List.getElem_cons_succ]
  refine wpAnyH_ready (rs := [18]) (by kernel_rfl) (by simp) ?_
  refine AllReadyH.cons rfl (fun K hK => ?_) AllReadyH.nil
  go_simp
  go_at_call 60
  refine (ifValid_w1 (x + u) (y + v) _ _ _ (canL m) HCE.out h3 _ (PL.below L4.out (by exact sm))).mono ?_
  rintro e w6 ⟨rfl, bb⟩
  replace bb := nextw (w0 := w5) (by exact sm) bb
  replace B_z0 := mv B_z0 bb
  replace B_z1 := mv B_z1 bb
  replace B_z2 := mv B_z2 bb
  replace B_cc := mv B_cc bb
  replace L := Lib.hid (PL.below L.out bb)
  replace L2 := Lib.hid (PL.below L2.out bb)
  replace L3 := Lib.hid (PL.below L3.out bb)
  replace L4 := Lib.hid (PL.below L4.out bb)
  replace HB := nx HB bb
  clear bb c0z0 c1z0 c2z0 c0z1 c1z1 c2z1
  have c0z2 : w6.cell? ⟨w.heap.size + 1 + 1, 0, none⟩ = some (.int .i64 0) := B_z2.out.cell 0 rfl
  have c1z2 : w6.cell? ⟨w.heap.size + 1 + 1, 1, none⟩ = some (.int .i64 0) := B_z2.out.cell 1 rfl
  have c2z2 : w6.cell? ⟨w.heap.size + 1 + 1, 2, none⟩ = some (.slice none 0 0) := B_z2.out.cell 2 rfl
  have f0z2 : w6.frozen? ⟨w.heap.size + 1 + 1, 0, none⟩ = false := B_z2.out.frozen 0
  have f1z2 : w6.frozen? ⟨w.heap.size + 1 + 1, 1, none⟩ = false := B_z2.out.frozen 1
  have f2z2 : w6.frozen? ⟨w.heap.size + 1 + 1, 2, none⟩ = false := B_z2.out.frozen 2
  have c0z0 : w6.cell? ⟨w.heap.size, 0, none⟩ = some (.int .i64 x) := B_z0.out.cell 0 rfl
  have c1z0 : w6.cell? ⟨w.heap.size, 1, none⟩ = some (.int .i64 y) := B_z0.out.cell 1 rfl
  have c2z0 : w6.cell? ⟨w.heap.size, 2, none⟩ = some (.slice A n c) := B_z0.out.cell 2 rfl
  have c0z1 : w6.cell? ⟨w.heap.size + 1, 0, none⟩ = some (.int .i64 u) := B_z1.out.cell 0 rfl
  have c1z1 : w6.cell? ⟨w.heap.size + 1, 1, none⟩ = some (.int .i64 v) := B_z1.out.cell 1 rfl
  have c2z1 : w6.cell? ⟨w.heap.size + 1, 2, none⟩ = some (.slice A2 n2 c2) := B_z1.out.cell 2 rfl
  go_wp2_with fail
  refine hK.out _ _ ?_ (fun hH1x3 => ?_)
  · ((try dsimp only); (repeat' apply And.intro) <;> (first | (with_reducible assumption) | ((repeat (first | (with_reducible refine Eq.trans (cell_drew1 _ _) ?_) | (with_reducible refine Eq.trans (cell_far (by omega) _ _ _) ?_) | (with_reducible refine Eq.trans (World.cell?_alloc_lt _ _ _ (by first | (dsimp only; omega) | (simp only [World.size_alloc, World.size_setCell]; omega))) ?_))); with_reducible assumption) | assumption | go_keep))
  clear hK K hH1x2
  try simp only [Act.put, List.setIfInBounds_toArray, List.set_cons_zero, List.set_cons_succ, List.getElem_toArray, List.getElem_cons_zero, List.getElem_cons_succ]
  refine wpAnyH_take (i := 19) (v := ?hv1x19) rfl (by kernel_rfl) (by kernel_rfl) (by kernel_rfl) (fun _ _ _ h => h) (Or.inl ⟨by kernel_rfl, ?hy1x19⟩) (by assumption) ?hr1x19
  case hy1x19 => (intro w hSw; (try dsimp only at hSw); go_simp <;> with_reducible rfl)
  simp only [Act.put, List.setIfInBounds_toArray, List.set_cons_zero, List.set_cons_succ, List.getElem_toArray, List.getElem_cons_zero, List.getElem_cons_succ]
  refine wpAnyH_take (i := 20) (v := ?hv1x20) rfl (by kernel_rfl) (by kernel_rfl) (by kernel_rfl) (fun _ _ _ h => h) (Or.inl ⟨by kernel_rfl, ?hy1x20⟩) (by assumption) ?hr1x20
  case hy1x20 => (intro w hSw; (try dsimp only at hSw); go_simp <;> with_reducible rfl)
  simp only [Act.put, List.setIfInBounds_toArray, List.set_cons_zero, List.set_cons_succ, List.getElem_toArray, List.getElem_cons_zero, List.getElem_cons_succ]
  refine wpAnyH_ready (rs := [21]) (by kernel_rfl) (by simp) ?_
  refine AllReadyH.cons rfl (fun K hK => ?_) AllReadyH.nil
  go_simp
  refine hK.out _ _ ?_ (fun hH1x3b => ?_)
  · ((try dsimp only); (repeat' apply And.intro) <;> (first | (with_reducible assumption) | ((repeat (first | (with_reducible refine Eq.trans (cell_drew1 _ _) ?_) | (with_reducible refine Eq.trans (cell_far (by omega) _ _ _) ?_) | (with_reducible refine Eq.trans (World.cell?_alloc_lt _ _ _ (by first | (dsimp only; omega) | (simp only [World.size_alloc, World.size_setCell]; omega))) ?_))); with_reducible assumption) | assumption | go_keep))
  clear hK K hH1x3
  have hH1x3 := hH1x3b
  clear hH1x3b
  try simp only [Act.put, List.setIfInBounds_toArray, List.set_cons_zero, List.set_cons_succ, List.getElem_toArray, List.getElem_cons_zero, List.getElem_cons_succ]
  refine wpAnyH_take (i := 22) (v := ?hv1x22) rfl (by kernel_rfl) (by kernel_rfl) (by kernel_rfl) (fun _ _ _ h => h) (Or.inl ⟨by kernel_rfl, ?hy1x22⟩) (by assumption) ?hr1x22
  case hy1x22 => (intro w hSw; (try dsimp only at hSw); go_simp <;> with_reducible rfl)
  simp only [Act.put, List.setIfInBounds_toArray, List.set_cons_zero, List.set_cons_succ, List.getElem_toArray, List.getElem_cons_zero, List.getElem_cons_succ]
  refine wpAnyH_done (by kernel_rfl) ?_ _
  clear hH1x3
  all_goals
    obtain ⟨s0, s1, s2⟩ := cells3 (stor3 B_z2 (.int .i64 0) (.int .i64 0) (.slice none 0 0))
    have HF := stb3 HB (y := w.heap.size + 1 + 1) (by omega) 0 (.int .i64 0) 1 (.int .i64 0) 2 (.slice none 0 0)
    obtain ⟨c0z2, c1z2, c2z2⟩ := cells3 B_z2
    obtain ⟨f0z2, f1z2, f2z2⟩ := froz3 B_z2
    go_wp2_with fail
    exact bodyPost_ret (v := .tuple #[.agg #[.int .i64 0, .int .i64 0, .slice none 0 0], .int .i64 6]) (by simp [results, Try.results31, go_sem, s0, s1, s2]) rfl ⟨rfl, nextw HF.out (by exact sm)⟩
end Go.Proofs.Ytpjbkadhmjlpfaa
