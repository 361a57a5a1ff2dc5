/- zonogon.Apart. -/
import Derived.Test.YtpjbkadhmjlpfaaZ16
import Derived.Test.YtpjbkadhmjlpfaaZ11
set_option linter.unusedVariables false
set_option linter.unusedSimpArgs false
namespace Go.Proofs.Ytpjbkadhmjlpfaa
open Go Go.RowKit Hd

theorem nextr' {w0 w w' : World} (hb : Below w.heap.size w w') (h : Below w0.heap.size w0 w) : Below w0.heap.size w0 w' := nextw h hb
theorem step_app_run {ops : Array Oper} {o : Oper} {a : Act} {w w' : World} {K : Act → World → Prop} {Q : Exit → Act → World → Prop} {E : Prop} {v vx v' : Value} (hgd : o.guard = none) (s x : Operand)
    (ho : o.op = .call { callee := .builtin .append, args := #[s, x], argTypes := #[22, 22] }) (hs : a.eval s = v) (hx : a.eval x = vx)
    (hr : (Builtin.append_ #[22, 22] o.type #[v, vx]).run Try.prog w = .ok v' w') (h : K (a.put o.dst v') w') :
    if Region.wanted o (yielded ops a.tmps) = true then Oper.wp Try.prog o a w K Q else E := by
  have hw : Region.wanted o (yielded ops a.tmps) = true := by simp [Region.wanted, hgd]
  rw [if_pos hw]
  unfold Oper.wp execOp
  simp only [ho, resolve, invoke, builtin, Sem.run_bind, Sem.run_pure, Result.andThen_ok, List.map_toArray, List.map_cons, List.map_nil, hs, hx, hr]
  exact h
theorem alB' (w : World) (o : Obj) : Below w.heap.size w (w.alloc o) := (Below.refl _ _).alloc (Nat.le_refl _) _

set_option maxRecDepth 100000 in
set_option maxHeartbeats 4000000 in
theorem Apart_w1 (x y x0 y0 x1 y1 : Int) (A : Option Addr) (n c : Nat) (l : List P2)  (hn : n ≤ 1000) (dd0 : ¬ (OkZ x y l)) (w : World) {lo_L hi_L : Nat} (L : PL w lo_L hi_L A n c l) :
    Calls Try.prog 40 #[.agg #[.int .i64 x, .int .i64 y, .slice A n c], .agg #[.int .i64 x0, .int .i64 y0, .int .i64 x1, .int .i64 y1]] w fun e w' => e = .returned (.bool false) ∧ Below w.heap.size w w' := by
  replace L := Lib.hid L
  obtain ⟨HB, B_z0, B_z1⟩ := box2 w 24 #[.int .i64 x, .int .i64 y, .slice A n c] 31 #[.int .i64 x0, .int .i64 y0, .int .i64 x1, .int .i64 y1]
  replace L := Lib.hid (PL.below L.out HB.out)
  go_enter Try.func40, Try.ntmps40
  go_upto_region 1 with (fail)
  generalize (w.alloc (.cells #[.int .i64 x, .int .i64 y, .slice A n c] 24)).alloc (.cells #[.int .i64 x0, .int .i64 y0, .int .i64 x1, .int .i64 y1] 31) = W0 at *
  obtain ⟨c0z0, c1z0, c2z0⟩ := cells3 B_z0
  go_wp2_with fail
  refine (Valid_no dd0 (by omega) _ (PL.below L.out (by exact sm))).mono ?_
  clear c0z0 c1z0 c2z0
  rintro e w1 ⟨rfl, bb⟩
  replace bb := nextw (w0 := W0) (by exact sm) bb
  replace B_z0 := mv B_z0 bb
  replace B_z1 := mv B_z1 bb
  replace L := Lib.hid (PL.below L.out bb)
  replace HB := nx HB bb
  clear bb
  go_wp2
  go_ret
  exact ⟨(by first | rfl | exact rbt (by omega) | exact rbf (by omega)), nextw HB.out (by exact sm)⟩

set_option maxRecDepth 100000 in
set_option maxHeartbeats 4000000 in
theorem Apart_w2 (x y x0 y0 x1 y1 : Int) (A : Option Addr) (n c : Nat) (l : List P2)  (hn : n ≤ 1000) (dd0 : OkZ x y l) (dd1 : ¬ (OkR x0 y0 x1 y1)) (w : World) {lo_L hi_L : Nat} (L : PL w lo_L hi_L A n c l) :
    Calls Try.prog 40 #[.agg #[.int .i64 x, .int .i64 y, .slice A n c], .agg #[.int .i64 x0, .int .i64 y0, .int .i64 x1, .int .i64 y1]] w fun e w' => e = .returned (.bool false) ∧ Below w.heap.size w w' := by
  replace L := Lib.hid L
  have H1 := Lib.hid (fun w => validRect_is x0 y0 x1 y1 w)
  obtain ⟨HB, B_z0, B_z1⟩ := box2 w 24 #[.int .i64 x, .int .i64 y, .slice A n c] 31 #[.int .i64 x0, .int .i64 y0, .int .i64 x1, .int .i64 y1]
  replace L := Lib.hid (PL.below L.out HB.out)
  go_enter Try.func40, Try.ntmps40
  go_upto_region 1 with (fail)
  generalize (w.alloc (.cells #[.int .i64 x, .int .i64 y, .slice A n c] 24)).alloc (.cells #[.int .i64 x0, .int .i64 y0, .int .i64 x1, .int .i64 y1] 31) = W0 at *
  obtain ⟨c0z0, c1z0, c2z0⟩ := cells3 B_z0
  go_wp2_with fail
  refine (Valid_yes dd0 (by omega) _ (PL.below L.out (by exact sm))).mono ?_
  clear c0z0 c1z0 c2z0
  rintro e w1 ⟨rfl, bb⟩
  replace bb := nextw (w0 := W0) (by exact sm) bb
  replace B_z0 := mv B_z0 bb
  replace B_z1 := mv B_z1 bb
  replace L := Lib.hid (PL.below L.out bb)
  replace HB := nx HB bb
  clear bb
  obtain ⟨c0z1, c1z1, c2z1, c3z1⟩ := cells4 B_z1
  go_wp2_with fail
  refine (H1.out _).mono ?_
  clear c0z1 c1z1 c2z1 c3z1
  rintro e w2 ⟨rfl, bb⟩
  replace bb := nextw (w0 := w1) (by exact sm) bb
  replace B_z0 := mv B_z0 bb
  replace B_z1 := mv B_z1 bb
  replace L := Lib.hid (PL.below L.out bb)
  replace HB := nx HB bb
  clear bb
  go_wp2
  go_ret
  exact ⟨(by first | rfl | exact rbt (by omega) | exact rbf (by omega)), nextw HB.out (by exact sm)⟩

set_option maxRecDepth 100000 in
set_option maxHeartbeats 4000000 in
theorem Apart_yes (x y : Int) (A : Option Addr) (n c : Nat) (l : List P2) (x0 y0 x1 y1 : Int) (hn : n ≤ 1000) (hz : OkZ x y l) (hr : OkR x0 y0 x1 y1) (w : World) {lo_L hi_L : Nat} (L : PL w lo_L hi_L A n c l) :
    Calls Try.prog 40 #[.agg #[.int .i64 x, .int .i64 y, .slice A n c], .agg #[.int .i64 x0, .int .i64 y0, .int .i64 x1, .int .i64 y1]] w fun e w' => e = .returned (.bool (!decide (Rc (l ++ [(x1 - x0, 0), (0, y1 - y0)]) (x0 + x1 - x) (y0 + y1 - y)))) ∧ Below w.heap.size w w' := by
  have zx1 := hz.1.1
  have zx2 := hz.1.2
  have zy1 := hz.2.1.1
  have zy2 := hz.2.1.2
  obtain ⟨⟨ra, rb⟩, ⟨rc, rd⟩, ⟨re, rf⟩, ⟨rg, rh⟩, ri, rj⟩ := (id hr : OkR x0 y0 x1 y1)
  obtain ⟨dx, hdx⟩ : ∃ dx, x1 - x0 = dx := ⟨_, rfl⟩
  obtain ⟨dy, hdy⟩ : ∃ dy, y1 - y0 = dy := ⟨_, rfl⟩
  rw [hdx, hdy]
  have ed1 : IntKind.i64.wrap (x1 - x0) = dx := by rw [IntKind.wrap_i64]; omega
  have ed2 : IntKind.i64.wrap (y1 - y0) = dy := by rw [IntKind.wrap_i64]; omega
  have hl16 := okz_len hz
  have HSD : Hid (∀ p ∈ l ++ [(dx, 0), (0, dy)], Sd p) := by intro p hp; rcases List.mem_append.mp hp with h | h; exact okz_sd hz p h; (simp at h; rcases h with rfl | rfl; exact ⟨⟨by omega, by omega⟩, by dsimp only; omega, by dsimp only; omega⟩; exact ⟨⟨by dsimp only; omega, by dsimp only; omega⟩, by omega, by omega⟩)
  have hll : (l ++ [(dx, 0), (0, dy)]).length ≤ 18 := by simp; omega
  have HAP := Lib.hid (fun (w w' : World) (base lo hi n c : Nat) (v : Value) (B : Option Addr) (ty : TypeId) (ho : OwnP w base v l) (M : PL w lo hi B n c [(dx, 0), (0, dy)]) (hn : n ≤ 1000) (hb : base ≤ w.heap.size) => run_app_pl w ty ho M (by omega) hn hb)
  generalize l ++ [(dx, 0), (0, dy)] = ll at *
  clear hdx hdy
  replace L := Lib.hid L
  obtain ⟨HB, B_z0, B_z1⟩ := box2 w 24 #[.int .i64 x, .int .i64 y, .slice A n c] 31 #[.int .i64 x0, .int .i64 y0, .int .i64 x1, .int .i64 y1]
  replace L := plm L HB.out
  go_enter Try.func40, Try.ntmps40
  go_upto_region 1 with (fail)
  generalize (w.alloc (.cells #[.int .i64 x, .int .i64 y, .slice A n c] 24)).alloc (.cells #[.int .i64 x0, .int .i64 y0, .int .i64 x1, .int .i64 y1] 31) = W0 at *
  have HVR := Lib.hid (fun w => validRect_is x0 y0 x1 y1 w)
  rw [decide_eq_true hr] at HVR
  obtain ⟨c0z0, c1z0, c2z0⟩ := cells3 B_z0
  go_wp2_with fail
  refine (Valid_yes hz (by omega) _ (PL.below L.out (by exact sm))).mono ?_
  clear c0z0 c1z0 c2z0
  rintro e w1 ⟨rfl, bb⟩
  replace bb := nextw (w0 := W0) (by exact sm) bb
  replace B_z0 := mv B_z0 bb
  replace B_z1 := mv B_z1 bb
  replace L := Lib.hid (PL.below L.out bb)
  replace HB := nx HB bb
  clear bb
  obtain ⟨c0z1, c1z1, c2z1, c3z1⟩ := cells4 B_z1
  go_wp2_with fail
  refine (HVR.out _).mono ?_
  clear c0z1 c1z1 c2z1 c3z1
  rintro e w2 ⟨rfl, bb⟩
  replace bb := nextw (w0 := w1) (by exact sm) bb
  replace B_z0 := mv B_z0 bb
  replace B_z1 := mv B_z1 bb
  replace L := Lib.hid (PL.below L.out bb)
  replace HB := nx HB bb
  clear bb
  go_upto_region 3 with (fail)
  go_cut [5] (fun sv wx => ∃ (A3 : Option Addr) (c3 lo3 hi3 : Nat), sv = .slice A3 ll.length c3 ∧ Hid (PL wx lo3 hi3 A3 ll.length c3 ll) ∧ Hid (Bx wx (w.heap.size) 24 #[.int .i64 x, .int .i64 y, .slice A n c]) ∧ Hid (Bx wx (w.heap.size + 1) 31 #[.int .i64 x0, .int .i64 y0, .int .i64 x1, .int .i64 y1]) ∧ Hid (Below w.heap.size w wx))
  case first =>
    obtain ⟨c0z0, c1z0, c2z0⟩ := cells3 B_z0
    obtain ⟨c0z1, c1z1, c2z1, c3z1⟩ := cells4 B_z1
    refine wp_region_held_drew (S := fun w' => w'.cell? ⟨w.heap.size, 0, none⟩ = some (.int .i64 x) ∧ w'.cell? ⟨w.heap.size, 1, none⟩ = some (.int .i64 y) ∧ w'.cell? ⟨w.heap.size, 2, none⟩ = some (.slice A n c) ∧ w'.cell? ⟨w.heap.size + 1, 0, none⟩ = some (.int .i64 x0) ∧ w'.cell? ⟨w.heap.size + 1, 1, none⟩ = some (.int .i64 y0) ∧ w'.cell? ⟨w.heap.size + 1, 2, none⟩ = some (.int .i64 x1) ∧ w'.cell? ⟨w.heap.size + 1, 3, none⟩ = some (.int .i64 y1)) (by kernel_rfl) ?_ (fun hH0 => ?_)
    · ((try dsimp only); (repeat' apply And.intro) <;> (first | (with_reducible assumption) | ((repeat (first | (with_reducible refine Eq.trans (cell_drew1 _ _) ?_) | (with_reducible refine Eq.trans (cell_far (by omega) _ _ _) ?_) | (with_reducible refine Eq.trans (World.cell?_alloc_lt _ _ _ (by first | (dsimp only; omega) | (simp only [World.size_alloc, World.size_setCell]; omega))) ?_))); with_reducible assumption) | assumption | go_keep))
    refine wpAnyH_take (i := 0) (v := ?hv2x0) rfl (by kernel_rfl) (by kernel_rfl) (by kernel_rfl) (fun _ _ _ h => h) (Or.inl ⟨by kernel_rfl, ?hy2x0⟩) (by assumption) ?hr2x0
    case hy2x0 => (intro w hSw; (try dsimp only at hSw); go_simp <;> with_reducible rfl)
    simp only [Act.put, List.setIfInBounds_toArray, List.set_cons_zero, List.set_cons_succ, List.getElem_toArray, List.getElem_cons_zero, List.getElem_cons_succ]
    refine wpAnyH_take (i := 1) (v := ?hv2x1) rfl (by kernel_rfl) (by kernel_rfl) (by kernel_rfl) (fun _ _ _ h => h) (Or.inl ⟨by kernel_rfl, ?hy2x1⟩) (by assumption) ?hr2x1
    case hy2x1 => (intro w hSw; (try dsimp only at hSw); go_simp <;> with_reducible rfl)
    simp only [Act.put, List.setIfInBounds_toArray, List.set_cons_zero, List.set_cons_succ, List.getElem_toArray, List.getElem_cons_zero, List.getElem_cons_succ]
    refine wpAnyH_take (i := 3) (v := ?hv2x3) rfl (by kernel_rfl) (by kernel_rfl) (by kernel_rfl) (fun _ _ _ h => h) (Or.inl ⟨by kernel_rfl, ?hy2x3⟩) (by assumption) ?hr2x3
    case hy2x3 => (intro w hSw; (try dsimp only at hSw); go_simp <;> with_reducible rfl)
    simp only [Act.put, List.setIfInBounds_toArray, List.set_cons_zero, List.set_cons_succ, List.getElem_toArray, List.getElem_cons_zero, List.getElem_cons_succ]
    refine wpAnyH_take (i := 4) (v := ?hv2x4) rfl (by kernel_rfl) (by kernel_rfl) (by kernel_rfl) (fun _ _ _ h => h) (Or.inl ⟨by kernel_rfl, ?hy2x4⟩) (by assumption) ?hr2x4
    case hy2x4 => (intro w hSw; (try dsimp only at hSw); go_simp <;> with_reducible rfl)
    simp only [Act.put, List.setIfInBounds_toArray, List.set_cons_zero, List.set_cons_succ, List.getElem_toArray, List.getElem_cons_zero, List.getElem_cons_succ]
    refine wpAnyH_take (i := 5) (v := ?hv2x5) rfl (by kernel_rfl) (by kernel_rfl) (by kernel_rfl) (fun _ _ _ h => h) (Or.inl ⟨by kernel_rfl, ?hy2x5⟩) (by assumption) ?hr2x5
    case hy2x5 => (intro w hSw; (try dsimp only at hSw); go_simp <;> with_reducible rfl)
    simp only [Act.put, List.setIfInBounds_toArray, List.set_cons_zero, List.set_cons_succ, List.getElem_toArray, List.getElem_cons_zero, List.getElem_cons_succ]
    refine wpAnyH_take (i := 6) (v := ?hv2x6) rfl (by kernel_rfl) (by kernel_rfl) (by kernel_rfl) (fun _ _ _ h => h) (Or.inl ⟨by kernel_rfl, ?hy2x6⟩) (by assumption) ?hr2x6
    case hy2x6 => (intro w hSw; (try dsimp only at hSw); go_simp <;> with_reducible rfl)
    simp only [Act.put, List.setIfInBounds_toArray, List.set_cons_zero, List.set_cons_succ, List.getElem_toArray, List.getElem_cons_zero, List.getElem_cons_succ]
    refine wpAnyH_take (i := 7) (v := ?hv2x7) rfl (by kernel_rfl) (by kernel_rfl) (by kernel_rfl) (fun _ _ _ h => h) (Or.inl ⟨by kernel_rfl, ?hy2x7⟩) (by assumption) ?hr2x7
    case hy2x7 => (intro w hSw; (try dsimp only at hSw); go_simp <;> with_reducible rfl)
    simp only [Act.put, List.setIfInBounds_toArray, List.set_cons_zero, List.set_cons_succ, List.getElem_toArray, List.getElem_cons_zero, List.getElem_cons_succ]
    refine wpAnyH_take (i := 8) (v := ?hv2x8) rfl (by kernel_rfl) (by kernel_rfl) (by kernel_rfl) (fun _ _ _ h => h) (Or.inl ⟨by kernel_rfl, ?hy2x8⟩) (by assumption) ?hr2x8
    case hy2x8 => (intro w hSw; (try dsimp only at hSw); go_simp <;> with_reducible rfl)
    simp only [Act.put, List.setIfInBounds_toArray, List.set_cons_zero, List.set_cons_succ, List.getElem_toArray, List.getElem_cons_zero, List.getElem_cons_succ]
    refine wpAnyH_take (i := 9) (v := ?hv2x9) rfl (by kernel_rfl) (by kernel_rfl) (by kernel_rfl) (fun _ _ _ h => h) (Or.inl ⟨by kernel_rfl, ?hy2x9⟩) (by assumption) ?hr2x9
    case hy2x9 => (intro w hSw; (try dsimp only at hSw); go_simp <;> with_reducible rfl)
    simp only [Act.put, List.setIfInBounds_toArray, List.set_cons_zero, List.set_cons_succ, List.getElem_toArray, List.getElem_cons_zero, List.getElem_cons_succ]
    refine wpAnyH_take (i := 10) (v := ?hv2x10) rfl (by kernel_rfl) (by kernel_rfl) (by kernel_rfl) (fun _ _ _ h => h) (Or.inl ⟨by kernel_rfl, ?hy2x10⟩) (by assumption) ?hr2x10
    case hy2x10 => (intro w hSw; (try dsimp only at hSw); go_simp <;> with_reducible rfl)
    simp only [Act.put, List.setIfInBounds_toArray, List.set_cons_zero, List.set_cons_succ, List.getElem_toArray, List.getElem_cons_zero, List.getElem_cons_succ]
    refine wpAnyH_take (i := 11) (v := ?hv2x11) rfl (by kernel_rfl) (by kernel_rfl) (by kernel_rfl) (fun _ _ _ h => h) (Or.inl ⟨by kernel_rfl, ?hy2x11⟩) (by assumption) ?hr2x11
    case hy2x11 => (intro w hSw; (try dsimp only at hSw); go_simp <;> with_reducible rfl)
    simp only [Act.put, List.setIfInBounds_toArray, List.set_cons_zero, List.set_cons_succ, List.getElem_toArray, List.getElem_cons_zero, List.getElem_cons_succ]
    refine wpAnyH_take (i := 12) (v := ?hv2x12) rfl (by kernel_rfl) (by kernel_rfl) (by kernel_rfl) (fun _ _ _ h => h) (Or.inl ⟨by kernel_rfl, ?hy2x12⟩) (by assumption) ?hr2x12
    case hy2x12 => (intro w hSw; (try dsimp only at hSw); go_simp <;> with_reducible rfl)
    simp only [Act.put, List.setIfInBounds_toArray, List.set_cons_zero, List.set_cons_succ, List.getElem_toArray, List.getElem_cons_zero, List.getElem_cons_succ]
    refine wpAnyH_take (i := 13) (v := ?hv2x13) rfl (by kernel_rfl) (by kernel_rfl) (by kernel_rfl) (fun _ _ _ h => h) (Or.inl ⟨by kernel_rfl, ?hy2x13⟩) (by assumption) ?hr2x13
    case hy2x13 => (intro w hSw; (try dsimp only at hSw); go_simp <;> with_reducible rfl)
    simp only [Act.put, List.setIfInBounds_toArray, List.set_cons_zero, List.set_cons_succ, List.getElem_toArray, List.getElem_cons_zero, List.getElem_cons_succ]
    refine wpAnyH_take (i := 14) (v := ?hv2x14) rfl (by kernel_rfl) (by kernel_rfl) (by kernel_rfl) (fun _ _ _ h => h) (Or.inl ⟨by kernel_rfl, ?hy2x14⟩) (by assumption) ?hr2x14
    case hy2x14 => (intro w hSw; (try dsimp only at hSw); go_simp <;> with_reducible rfl)
    simp only [Act.put, List.setIfInBounds_toArray, List.set_cons_zero, List.set_cons_succ, List.getElem_toArray, List.getElem_cons_zero, List.getElem_cons_succ]
    refine wpAnyH_ready (rs := [2, 15]) (by kernel_rfl) (by simp) ?_
    refine AllReadyH.cons rfl (fun K hK => ?_) (AllReadyH.cons rfl (fun K hK => ?_) AllReadyH.nil)
    · skip
      have LT_z0 : Hid (w.heap.size < w2.heap.size) := B_z0.out.lt
      have LT_z1 : Hid (w.heap.size + 1 < w2.heap.size) := B_z1.out.lt
      have HW : Hid (w.heap.size ≤ w2.heap.size) := HB.out.size
      go_simp
      go_at_call 67
      refine (Clone_is A n c l (by omega) _ (PL.below L.out (by exact sm))).mono ?_
      rintro e w3 ⟨v, rfl, ho, bb⟩
      replace bb := nextw (w0 := w2) (by exact sm) bb
      replace B_z0 := mv B_z0 bb
      replace B_z1 := mv B_z1 bb
      replace L := Lib.hid (PL.below L.out bb)
      replace HB := nx HB bb
      have HS : Hid (w2.heap.size ≤ w3.heap.size) := bb.size
      clear bb c0z0 c1z0 c2z0 c0z1 c1z1 c2z1 c3z1
      have HO : Hid (OwnP w3 w2.heap.size v l) := ho
      clear ho
      have c0z0 : w3.cell? ⟨w.heap.size, 0, none⟩ = some (.int .i64 x) := B_z0.out.cell 0 rfl
      have c1z0 : w3.cell? ⟨w.heap.size, 1, none⟩ = some (.int .i64 y) := B_z0.out.cell 1 rfl
      have c2z0 : w3.cell? ⟨w.heap.size, 2, none⟩ = some (.slice A n c) := B_z0.out.cell 2 rfl
      have c0z1 : w3.cell? ⟨w.heap.size + 1, 0, none⟩ = some (.int .i64 x0) := B_z1.out.cell 0 rfl
      have c1z1 : w3.cell? ⟨w.heap.size + 1, 1, none⟩ = some (.int .i64 y0) := B_z1.out.cell 1 rfl
      have c2z1 : w3.cell? ⟨w.heap.size + 1, 2, none⟩ = some (.int .i64 x1) := B_z1.out.cell 2 rfl
      have c3z1 : w3.cell? ⟨w.heap.size + 1, 3, none⟩ = some (.int .i64 y1) := B_z1.out.cell 3 rfl
      go_wp2_with fail
      refine hK.out _ _ ?_ (fun hH1 => ?_)
      · ((try dsimp only); (repeat' apply And.intro) <;> (first | (with_reducible assumption) | ((repeat (first | (with_reducible refine Eq.trans (cell_drew1 _ _) ?_) | (with_reducible refine Eq.trans (cell_far (by omega) _ _ _) ?_) | (with_reducible refine Eq.trans (World.cell?_alloc_lt _ _ _ (by first | (dsimp only; omega) | (simp only [World.size_alloc, World.size_setCell]; omega))) ?_))); with_reducible assumption) | assumption | go_keep))
      clear hK K hH0
      try simp only [Act.put, List.setIfInBounds_toArray, List.set_cons_zero, List.set_cons_succ, List.getElem_toArray, List.getElem_cons_zero, List.getElem_cons_succ]
      refine wpAnyH_ready (rs := [15]) (by kernel_rfl) (by simp) ?_
      refine AllReadyH.cons rfl (fun K hK => ?_) AllReadyH.nil
      go_simp
      have B_cc : Hid (Bx ((w3.alloc (.cells #[.int .i64 dx, .int .i64 0, .int .i64 0, .int .i64 dy] 39))) w3.heap.size 39 #[.int .i64 dx, .int .i64 0, .int .i64 0, .int .i64 dy]) := Lib.hid (Bx.new w3 _ _)
      have bb : Below w3.heap.size w3 ((w3.alloc (.cells #[.int .i64 dx, .int .i64 0, .int .i64 0, .int .i64 dy] 39))) := nextw (alB' _ _) (by exact sm)
      replace B_z0 := mv B_z0 bb
      replace B_z1 := mv B_z1 bb
      replace L := Lib.hid (PL.below L.out bb)
      replace HS := Lib.hid (lebel HS.out bb)
      replace HB := nx HB bb
      replace HO : Hid (OwnP _ _ v l) := owm HO bb
      clear bb c0z0 c1z0 c2z0 c0z1 c1z1 c2z1 c3z1
      generalize (w3.alloc (.cells #[.int .i64 dx, .int .i64 0, .int .i64 0, .int .i64 dy] 39)) = w4 at *
      have c0z0 : w4.cell? ⟨w.heap.size, 0, none⟩ = some (.int .i64 x) := B_z0.out.cell 0 rfl
      have c1z0 : w4.cell? ⟨w.heap.size, 1, none⟩ = some (.int .i64 y) := B_z0.out.cell 1 rfl
      have c2z0 : w4.cell? ⟨w.heap.size, 2, none⟩ = some (.slice A n c) := B_z0.out.cell 2 rfl
      have c0z1 : w4.cell? ⟨w.heap.size + 1, 0, none⟩ = some (.int .i64 x0) := B_z1.out.cell 0 rfl
      have c1z1 : w4.cell? ⟨w.heap.size + 1, 1, none⟩ = some (.int .i64 y0) := B_z1.out.cell 1 rfl
      have c2z1 : w4.cell? ⟨w.heap.size + 1, 2, none⟩ = some (.int .i64 x1) := B_z1.out.cell 2 rfl
      have c3z1 : w4.cell? ⟨w.heap.size + 1, 3, none⟩ = some (.int .i64 y1) := B_z1.out.cell 3 rfl
      refine hK.out _ _ ?_ (fun hH2 => ?_)
      · ((try dsimp only); (repeat' apply And.intro) <;> (first | (with_reducible assumption) | ((repeat (first | (with_reducible refine Eq.trans (cell_drew1 _ _) ?_) | (with_reducible refine Eq.trans (cell_far (by omega) _ _ _) ?_) | (with_reducible refine Eq.trans (World.cell?_alloc_lt _ _ _ (by first | (dsimp only; omega) | (simp only [World.size_alloc, World.size_setCell]; omega))) ?_))); with_reducible assumption) | assumption | go_keep))
      clear hK K hH1
      try simp only [Act.put, List.setIfInBounds_toArray, List.set_cons_zero, List.set_cons_succ, List.getElem_toArray, List.getElem_cons_zero, List.getElem_cons_succ]
      obtain ⟨v5, w5, hr5, ho5, hb5⟩ := HAP.out w4 w4 (w2.heap.size) _ _ 2 2 v (some ⟨w3.heap.size, 0, none⟩) 22 HO.out (pl_2 B_cc.out) (by omega) HS.out
      have n_z0 := Lib.hid (Bx.below B_z0.out hb5 LT_z0.out)
      have n_z1 := Lib.hid (Bx.below B_z1.out hb5 LT_z1.out)
      have nHB := Lib.hid (HB.out.trans (hb5.mono HW.out))
      obtain ⟨A5, c5, e5, p5, -⟩ := ho5.pl
      subst e5
      have P5 := Lib.hid p5
      clear p5 ho5 hb5 c0z0 c1z0 c2z0 c0z1 c1z1 c2z1 c3z1
      refine wpAnyH_ready (rs := [16]) (by kernel_rfl) (by simp) ?_
      refine AllReadyH.cons rfl (fun K hK => ?_) AllReadyH.nil
      refine step_app_run rfl _ _ rfl rfl rfl hr5 ?_
      clear hr5 B_z0 B_z1 HB
      have B_z0 := n_z0
      have B_z1 := n_z1
      have HB := nHB
      clear n_z0 n_z1 nHB
      have c0z0 : w5.cell? ⟨w.heap.size, 0, none⟩ = some (.int .i64 x) := B_z0.out.cell 0 rfl
      have c1z0 : w5.cell? ⟨w.heap.size, 1, none⟩ = some (.int .i64 y) := B_z0.out.cell 1 rfl
      have c2z0 : w5.cell? ⟨w.heap.size, 2, none⟩ = some (.slice A n c) := B_z0.out.cell 2 rfl
      have c0z1 : w5.cell? ⟨w.heap.size + 1, 0, none⟩ = some (.int .i64 x0) := B_z1.out.cell 0 rfl
      have c1z1 : w5.cell? ⟨w.heap.size + 1, 1, none⟩ = some (.int .i64 y0) := B_z1.out.cell 1 rfl
      have c2z1 : w5.cell? ⟨w.heap.size + 1, 2, none⟩ = some (.int .i64 x1) := B_z1.out.cell 2 rfl
      have c3z1 : w5.cell? ⟨w.heap.size + 1, 3, none⟩ = some (.int .i64 y1) := B_z1.out.cell 3 rfl
      refine hK.out _ _ ?_ (fun hH3 => ?_)
      · ((try dsimp only); (repeat' apply And.intro) <;> (first | (with_reducible assumption) | ((repeat (first | (with_reducible refine Eq.trans (cell_drew1 _ _) ?_) | (with_reducible refine Eq.trans (cell_far (by omega) _ _ _) ?_) | (with_reducible refine Eq.trans (World.cell?_alloc_lt _ _ _ (by first | (dsimp only; omega) | (simp only [World.size_alloc, World.size_setCell]; omega))) ?_))); with_reducible assumption) | assumption | go_keep))
      clear hK K hH2
      try simp only [Act.put, List.setIfInBounds_toArray, List.set_cons_zero, List.set_cons_succ, List.getElem_toArray, List.getElem_cons_zero, List.getElem_cons_succ]
      refine wpAnyH_take (i := 17) (v := ?hv4x17) rfl (by kernel_rfl) (by kernel_rfl) (by kernel_rfl) (fun _ _ _ h => h) (Or.inl ⟨by kernel_rfl, ?hy4x17⟩) (by assumption) ?hr4x17
      case hy4x17 => (intro w hSw; (try dsimp only at hSw); go_simp <;> with_reducible rfl)
      simp only [Act.put, List.setIfInBounds_toArray, List.set_cons_zero, List.set_cons_succ, List.getElem_toArray, List.getElem_cons_zero, List.getElem_cons_succ]
      refine wpAnyH_done (by kernel_rfl) ?_ _
      clear hH3 c0z0 c1z0 c2z0 c0z1 c1z1 c2z1 c3z1
      all_goals go_wp2_with fail
      all_goals go_meet
      exact ⟨A5, c5, _, _, rfl, plm P5 (by exact sm), mv B_z0 sm, mv B_z1 sm, nx HB sm⟩
    · skip
      go_simp
      have B_cc : Hid (Bx ((w2.alloc (.cells #[.int .i64 dx, .int .i64 0, .int .i64 0, .int .i64 dy] 39)).drew) w2.heap.size 39 #[.int .i64 dx, .int .i64 0, .int .i64 0, .int .i64 dy]) := Lib.hid (Bx.new w2 _ _)
      have bb : Below w2.heap.size w2 ((w2.alloc (.cells #[.int .i64 dx, .int .i64 0, .int .i64 0, .int .i64 dy] 39)).drew) := nextw (alB' _ _) (by exact sm)
      replace B_z0 := mv B_z0 bb
      replace B_z1 := mv B_z1 bb
      replace L := Lib.hid (PL.below L.out bb)
      replace HB := nx HB bb
      clear bb c0z0 c1z0 c2z0 c0z1 c1z1 c2z1 c3z1
      generalize (w2.alloc (.cells #[.int .i64 dx, .int .i64 0, .int .i64 0, .int .i64 dy] 39)).drew = w5 at *
      have c0z0 : w5.cell? ⟨w.heap.size, 0, none⟩ = some (.int .i64 x) := B_z0.out.cell 0 rfl
      have c1z0 : w5.cell? ⟨w.heap.size, 1, none⟩ = some (.int .i64 y) := B_z0.out.cell 1 rfl
      have c2z0 : w5.cell? ⟨w.heap.size, 2, none⟩ = some (.slice A n c) := B_z0.out.cell 2 rfl
      have c0z1 : w5.cell? ⟨w.heap.size + 1, 0, none⟩ = some (.int .i64 x0) := B_z1.out.cell 0 rfl
      have c1z1 : w5.cell? ⟨w.heap.size + 1, 1, none⟩ = some (.int .i64 y0) := B_z1.out.cell 1 rfl
      have c2z1 : w5.cell? ⟨w.heap.size + 1, 2, none⟩ = some (.int .i64 x1) := B_z1.out.cell 2 rfl
      have c3z1 : w5.cell? ⟨w.heap.size + 1, 3, none⟩ = some (.int .i64 y1) := B_z1.out.cell 3 rfl
      refine hK.out _ _ ?_ (fun hH1 => ?_)
      · ((try dsimp only); (repeat' apply And.intro) <;> (first | (with_reducible assumption) | ((repeat (first | (with_reducible refine Eq.trans (cell_drew1 _ _) ?_) | (with_reducible refine Eq.trans (cell_far (by omega) _ _ _) ?_) | (with_reducible refine Eq.trans (World.cell?_alloc_lt _ _ _ (by first | (dsimp only; omega) | (simp only [World.size_alloc, World.size_setCell]; omega))) ?_))); with_reducible assumption) | assumption | go_keep))
      clear hK K hH0
      try simp only [Act.put, List.setIfInBounds_toArray, List.set_cons_zero, List.set_cons_succ, List.getElem_toArray, List.getElem_cons_zero, List.getElem_cons_succ]
      refine wpAnyH_ready (rs := [2]) (by kernel_rfl) (by simp) ?_
      refine AllReadyH.cons rfl (fun K hK => ?_) AllReadyH.nil
      have LT_z0 : Hid (w.heap.size < w5.heap.size) := B_z0.out.lt
      have LT_z1 : Hid (w.heap.size + 1 < w5.heap.size) := B_z1.out.lt
      have LT_cc : Hid (w2.heap.size < w5.heap.size) := B_cc.out.lt
      have HW : Hid (w.heap.size ≤ w5.heap.size) := HB.out.size
      go_simp
      go_at_call 67
      refine (Clone_is A n c l (by omega) _ (PL.below L.out (by exact sm))).mono ?_
      rintro e w6 ⟨v, rfl, ho, bb⟩
      replace bb := nextw (w0 := w5) (by exact sm) bb
      replace B_z0 := mv B_z0 bb
      replace B_z1 := mv B_z1 bb
      replace B_cc := mv B_cc bb
      replace L := Lib.hid (PL.below L.out bb)
      replace HB := nx HB bb
      have HS : Hid (w5.heap.size ≤ w6.heap.size) := bb.size
      clear bb c0z0 c1z0 c2z0 c0z1 c1z1 c2z1 c3z1
      have HO : Hid (OwnP w6 w5.heap.size v l) := ho
      clear ho
      have c0z0 : w6.cell? ⟨w.heap.size, 0, none⟩ = some (.int .i64 x) := B_z0.out.cell 0 rfl
      have c1z0 : w6.cell? ⟨w.heap.size, 1, none⟩ = some (.int .i64 y) := B_z0.out.cell 1 rfl
      have c2z0 : w6.cell? ⟨w.heap.size, 2, none⟩ = some (.slice A n c) := B_z0.out.cell 2 rfl
      have c0z1 : w6.cell? ⟨w.heap.size + 1, 0, none⟩ = some (.int .i64 x0) := B_z1.out.cell 0 rfl
      have c1z1 : w6.cell? ⟨w.heap.size + 1, 1, none⟩ = some (.int .i64 y0) := B_z1.out.cell 1 rfl
      have c2z1 : w6.cell? ⟨w.heap.size + 1, 2, none⟩ = some (.int .i64 x1) := B_z1.out.cell 2 rfl
      have c3z1 : w6.cell? ⟨w.heap.size + 1, 3, none⟩ = some (.int .i64 y1) := B_z1.out.cell 3 rfl
      go_wp2_with fail
      refine hK.out _ _ ?_ (fun hH2 => ?_)
      · ((try dsimp only); (repeat' apply And.intro) <;> (first | (with_reducible assumption) | ((repeat (first | (with_reducible refine Eq.trans (cell_drew1 _ _) ?_) | (with_reducible refine Eq.trans (cell_far (by omega) _ _ _) ?_) | (with_reducible refine Eq.trans (World.cell?_alloc_lt _ _ _ (by first | (dsimp only; omega) | (simp only [World.size_alloc, World.size_setCell]; omega))) ?_))); with_reducible assumption) | assumption | go_keep))
      clear hK K hH1
      try simp only [Act.put, List.setIfInBounds_toArray, List.set_cons_zero, List.set_cons_succ, List.getElem_toArray, List.getElem_cons_zero, List.getElem_cons_succ]
      obtain ⟨v5, w5, hr5, ho5, hb5⟩ := HAP.out w6 w6 (w5.heap.size) _ _ 2 2 v (some ⟨w2.heap.size, 0, none⟩) 22 HO.out (pl_2 B_cc.out) (by omega) HS.out
      have n_z0 := Lib.hid (Bx.below B_z0.out hb5 LT_z0.out)
      have n_z1 := Lib.hid (Bx.below B_z1.out hb5 LT_z1.out)
      have nHB := Lib.hid (HB.out.trans (hb5.mono HW.out))
      obtain ⟨A5, c5, e5, p5, -⟩ := ho5.pl
      subst e5
      have P5 := Lib.hid p5
      clear p5 ho5 hb5 c0z0 c1z0 c2z0 c0z1 c1z1 c2z1 c3z1
      refine wpAnyH_ready (rs := [16]) (by kernel_rfl) (by simp) ?_
      refine AllReadyH.cons rfl (fun K hK => ?_) AllReadyH.nil
      refine step_app_run rfl _ _ rfl rfl rfl hr5 ?_
      clear hr5 B_z0 B_z1 HB
      have B_z0 := n_z0
      have B_z1 := n_z1
      have HB := nHB
      clear n_z0 n_z1 nHB
      have c0z0 : w5.cell? ⟨w.heap.size, 0, none⟩ = some (.int .i64 x) := B_z0.out.cell 0 rfl
      have c1z0 : w5.cell? ⟨w.heap.size, 1, none⟩ = some (.int .i64 y) := B_z0.out.cell 1 rfl
      have c2z0 : w5.cell? ⟨w.heap.size, 2, none⟩ = some (.slice A n c) := B_z0.out.cell 2 rfl
      have c0z1 : w5.cell? ⟨w.heap.size + 1, 0, none⟩ = some (.int .i64 x0) := B_z1.out.cell 0 rfl
      have c1z1 : w5.cell? ⟨w.heap.size + 1, 1, none⟩ = some (.int .i64 y0) := B_z1.out.cell 1 rfl
      have c2z1 : w5.cell? ⟨w.heap.size + 1, 2, none⟩ = some (.int .i64 x1) := B_z1.out.cell 2 rfl
      have c3z1 : w5.cell? ⟨w.heap.size + 1, 3, none⟩ = some (.int .i64 y1) := B_z1.out.cell 3 rfl
      refine hK.out _ _ ?_ (fun hH3 => ?_)
      · ((try dsimp only); (repeat' apply And.intro) <;> (first | (with_reducible assumption) | ((repeat (first | (with_reducible refine Eq.trans (cell_drew1 _ _) ?_) | (with_reducible refine Eq.trans (cell_far (by omega) _ _ _) ?_) | (with_reducible refine Eq.trans (World.cell?_alloc_lt _ _ _ (by first | (dsimp only; omega) | (simp only [World.size_alloc, World.size_setCell]; omega))) ?_))); with_reducible assumption) | assumption | go_keep))
      clear hK K hH2
      try simp only [Act.put, List.setIfInBounds_toArray, List.set_cons_zero, List.set_cons_succ, List.getElem_toArray, List.getElem_cons_zero, List.getElem_cons_succ]
      refine wpAnyH_take (i := 17) (v := ?hv6x17) rfl (by kernel_rfl) (by kernel_rfl) (by kernel_rfl) (fun _ _ _ h => h) (Or.inl ⟨by kernel_rfl, ?hy6x17⟩) (by assumption) ?hr6x17
      case hy6x17 => (intro w hSw; (try dsimp only at hSw); go_simp <;> with_reducible rfl)
      simp only [Act.put, List.setIfInBounds_toArray, List.set_cons_zero, List.set_cons_succ, List.getElem_toArray, List.getElem_cons_zero, List.getElem_cons_succ]
      refine wpAnyH_done (by kernel_rfl) ?_ _
      clear hH3 c0z0 c1z0 c2z0 c0z1 c1z1 c2z1 c3z1
      all_goals go_wp2_with fail
      all_goals go_meet
      exact ⟨A5, c5, _, _, rfl, plm P5 (by exact sm), mv B_z0 sm, mv B_z1 sm, nx HB sm⟩
  case rest =>
    clear B_z0 B_z1 HB L
    rename World => wc
    obtain ⟨A3, c3, lo3, hi3, rfl, L3, B_z0, B_z1, HB⟩ := hcut
    have ex1 : IntKind.i64.wrap (x0 + x1) = x0 + x1 := by rw [IntKind.wrap_i64]; omega
    have ex2 : IntKind.i64.wrap (x0 + x1 - x) = x0 + x1 - x := by rw [IntKind.wrap_i64]; omega
    have ey1 : IntKind.i64.wrap (y0 + y1) = y0 + y1 := by rw [IntKind.wrap_i64]; omega
    have ey2 : IntKind.i64.wrap (y0 + y1 - y) = y0 + y1 - y := by rw [IntKind.wrap_i64]; omega
    obtain ⟨c0z0, c1z0, c2z0⟩ := cells3 B_z0
    obtain ⟨c0z1, c1z1, c2z1, c3z1⟩ := cells4 B_z1
    go_wp2_with fail
    refine (reaches_is (x0 + x1 - x) (y0 + y1 - y) A3 ll.length c3 ll (by omega) ⟨⟨by omega, by omega⟩, by omega, by omega⟩ HSD.out _ (PL.below L3.out (by exact sm))).mono ?_
    clear c0z0 c1z0 c2z0 c0z1 c1z1 c2z1 c3z1
    rintro e w7 ⟨rfl, bb⟩
    replace bb := nextw (w0 := wc) (by exact sm) bb
    replace B_z0 := mv B_z0 bb
    replace B_z1 := mv B_z1 bb
    replace L3 := Lib.hid (PL.below L3.out bb)
    replace HB := nx HB bb
    clear bb
    go_wp2
    go_ret
    exact ⟨rfl, nextw HB.out (by exact sm)⟩
end Go.Proofs.Ytpjbkadhmjlpfaa
