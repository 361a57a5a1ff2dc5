/- Copying numbers: append to an empty literal; the laws' clone. -/
import Derived.Test.YtldfamjlnphokaaGreatDoorQFewL
import Derived.Maps.AppendAt

set_option linter.unusedVariables false
set_option linter.unusedSimpArgs false

namespace Go.Proofs.YtldfamjlnphokaaGreatDoor
open Go Go.RowKit Num

theorem below_push2 {w w' : World} {o o2 : Obj} (h1 : w'.os = w.os) (h2 : w'.tape = w.tape) (h3 : w'.output = w.output) (h4 : w'.heap = (w.heap.push o).push o2) : Below w.heap.size w w' :=
  ⟨h1, h2, h3, by rw [h4]; simp; omega, fun k hk => by rw [h4]; simp [Array.getElem?_push, show k ≠ w.heap.size + 1 by omega, show k ≠ w.heap.size by omega]⟩
theorem run_app_none (w : World) (ty : TypeId) {g c : Nat} (hg : w.heap[g]? = some (.cells #[] 49)) :
    (Builtin.append_ #[22, 22] ty #[.slice (some ⟨g, 0, none⟩) 0 0, .slice none 0 c]).run Tryz.prog w = .ok (.slice (some ⟨g, 0, none⟩) 0 0) w := by
  obtain ⟨i0, hi, hz0, hz1, hz2⟩ := info_parts info32
  simp [Builtin.append_, run_underlying Tryz.underlying22, sizeOf, typeInfo, hi, Builtin.lenOf, Builtin.firstCells, storeCells]
theorem cells_row {w : World} {l : List Nat} {b off : Nat} (hc : ∀ i, i < l.length → w.cell? ⟨b, off + i, none⟩ = some (.int .u32 (l.getD i 0 : Nat))) :
    ∀ j u, (ws l)[j]? = some u → w.cell? ((⟨b, off, none⟩ : Addr).add j) = some u := by
  intro j u hu
  have hj : j < l.length := by
    rcases Nat.lt_or_ge j l.length with h1 | h1
    · exact h1
    · rw [ws_getElem?, List.getElem?_eq_none h1] at hu; cases hu
  have h2 : (⟨b, off, none⟩ : Addr).add j = ⟨b, off + j, none⟩ := by
    unfold Addr.add
    by_cases h0 : j = 0
    · simp [h0]
    · simp [h0]
  rw [ws_getElem?] at hu
  rw [h2, hc j hj]
  rw [List.getElem?_eq_getElem hj] at hu
  simp only [Option.map_some] at hu
  rw [← hu]
  simp [List.getD, hj]
/-- What is appended to an empty literal reads as the source did; only the literal's block may change. -/
theorem run_app_u32 (w : World) (ty : TypeId) {g k c : Nat} {A : Option Addr} {l : List Nat} (hg : w.heap[g]? = some (.cells #[] 49)) (hu : U32 w (.slice A k c) l) (hl : l.length ≤ 1000000) :
    ∃ A' k' c' w', (Builtin.append_ #[22, 22] ty #[.slice (some ⟨g, 0, none⟩) 0 0, .slice A k c]).run Tryz.prog w = .ok (.slice A' k' c') w' ∧ U32 w' (.slice A' k' c') l ∧ (Value.ownBlock (.slice A' k' c') = some g ∨ Value.ownBlock (.slice A' k' c') = some w.heap.size) ∧ w.grownBy w' (some g) := by
  obtain ⟨i0, hi, hz0, hz1, hz2⟩ := info_parts info32
  have hgl : g < w.heap.size := by
    rcases Nat.lt_or_ge g w.heap.size with h1 | h1
    · exact h1
    · rw [Array.getElem?_eq_none h1] at hg; cases hg
  have hown : w.ownsRow g 49 1 (.slice (some ⟨g, 0, none⟩) 0 0) 0 [] := ⟨by simp, .inr ⟨g, 0, #[], rfl, Nat.le_refl _, hg, Nat.le_refl _, Nat.zero_le _, rfl, rfl⟩⟩
  have lift : ∀ (a : Addr) (m c : Nat), m = l.length → (∀ j u, (ws l)[j]? = some u → w.cell? (a.add j) = some u) → (∀ x ∈ l, x < 4294967296) →
      ∃ A' k' c' w', (Builtin.append_ #[22, 22] ty #[.slice (some ⟨g, 0, none⟩) 0 0, .slice (some a) m c]).run Tryz.prog w = .ok (.slice A' k' c') w' ∧ U32 w' (.slice A' k' c') l ∧ (Value.ownBlock (.slice A' k' c') = some g ∨ Value.ownBlock (.slice A' k' c') = some w.heap.size) ∧ w.grownBy w' (some g) := by
    intro a m c hm hn hlt
    subst hm
    obtain ⟨v', w', hr, h2, h3, -, h5⟩ := run_append_own_at (P := Tryz.prog) w g 22 ty 49 i0 (.int .u32 0) 1 4 Tryz.underlying22 hi hz0 hz1 hz2 rfl (by decide) _ 0 [] hown a l.length c (ws l) (by rw [ws_length]; omega) hn (ws_oneCell l) (by simp only [maxLen]; omega) (by omega) (Nat.le_of_lt hgl)
    rw [Nat.zero_add, List.nil_append] at h2
    have hu' := U32.of_own hlt h2
    obtain ⟨A', c', rfl, -⟩ := hu'.form
    exact ⟨A', _, c', w', hr, hu', h5, h3⟩
  rcases hu.cases with ⟨rfl, A', cap, e, hcap⟩ | ⟨hpos, b, off, cap, e, hlc, hcap, hb, hc⟩
  · simp only [Value.slice.injEq] at e
    obtain ⟨rfl, rfl, rfl⟩ := e
    rcases A with _ | a
    · exact ⟨_, _, _, w, run_app_none w ty hg, U32.nil _ (Nat.zero_le _), .inl rfl, ⟨rfl, rfl, rfl, Nat.le_refl _, fun _ _ _ => rfl⟩⟩
    · exact lift a 0 c rfl (fun j u hj => by simp [ws] at hj) (by simp)
  · simp only [Value.slice.injEq] at e
    obtain ⟨rfl, rfl, rfl⟩ := e
    exact lift _ _ c rfl (cells_row hc) hu.lt
theorem step_app_u32 {ops : Array Oper} {o : Oper} {a : Act} {w : World} {K : Act → World → Prop} {Q : Exit → Act → World → Prop} {E : Prop} (hgd : o.guard = none) (s x : Operand)
    (ho : o.op = .call { callee := .builtin .append, args := #[s, x], argTypes := #[22, 22] })
    {g k c : Nat} {A : Option Addr} {l : List Nat} (hs : a.eval s = .slice (some ⟨g, 0, none⟩) 0 0) (hx : a.eval x = .slice A k c) (hg : w.heap[g]? = some (.cells #[] 49)) (hu : U32 w (.slice A k c) l) (hl : l.length ≤ 1000000)
    (h : ∀ A' k' c' w', U32 w' (.slice A' k' c') l → (Value.ownBlock (.slice A' k' c') = some g ∨ Value.ownBlock (.slice A' k' c') = some w.heap.size) → w.grownBy w' (some g) → K (a.put o.dst (.slice A' k' c')) w') :
    if Region.wanted o (yielded ops a.tmps) = true then Oper.wp Tryz.prog o a w K Q else E := by
  have hw : Region.wanted o (yielded ops a.tmps) = true := by simp [Region.wanted, hgd]
  rw [if_pos hw]
  obtain ⟨A', k', c', w', hr, h2, h4, h3⟩ := run_app_u32 w o.type hg hu hl
  unfold Oper.wp execOp
  simp only [ho, resolve, invoke, builtin, Sem.run_bind, Sem.run_pure, Result.andThen_ok, List.map_toArray, List.map_cons, List.map_nil, hs, hx, hr]
  exact h A' k' c' w' h2 h4 h3
theorem lit_a (w : World) (o : Obj) : (w.alloc o).heap[w.heap.size]? = some o := heap_alloc_new w o
theorem lit_b (w : World) (o o2 : Obj) : ((w.alloc o).alloc o2).heap[w.heap.size]? = some o := by
  rw [Below.heap_alloc (w.alloc o) o2 w.heap.size (by simp)]; exact heap_alloc_new w o
theorem lit_c (w : World) (o o2 : Obj) : ((w.alloc o).alloc o2).heap[w.heap.size + 1]? = some o2 := by
  have := heap_alloc_new (w.alloc o) o2; simpa using this
theorem lit_g {w w' : World} {g g' : Nat} {o : Obj} (h : w.grownBy w' (some g)) (hne : g' ≠ g) (hl : w.heap[g']? = some o) : w'.heap[g']? = some o := by
  have hlt : g' < w.heap.size := by
    rcases Nat.lt_or_ge g' w.heap.size with h1 | h1
    · exact h1
    · rw [Array.getElem?_eq_none h1] at hl; cases hl
  rw [h.block g' hlt (by simp; omega)]; exact hl
theorem below_grown {a w w' : World} {g : Nat} (hb : Below a.heap.size a w) (h : w.grownBy w' (some g)) (hg : a.heap.size ≤ g) : Below a.heap.size a w' :=
  ⟨h.os.trans hb.os, h.tape.trans hb.tape, h.output.trans hb.output, Nat.le_trans hb.size h.size, fun k hk => (h.block k (Nat.lt_of_lt_of_le hk hb.size) (by simp; omega)).trans (hb.block k hk)⟩
theorem U32.late {w w1 w2 : World} {v : Value} {l : List Nat} {g : Nat} (h : U32 w v l) (hb : Below w.heap.size w w1) (hg : w1.grownBy w2 (some g)) (hl : w.heap.size ≤ g) : U32 w2 v l := h.below (below_grown hb hg hl)
theorem U32.early {w w1 w2 : World} {v : Value} {l : List Nat} {g g1 m : Nat} (h : U32 w v l) (ho : v.ownBlock = some g1 ∨ v.ownBlock = some m) (hb : Below w.heap.size w w1) (hg : w1.grownBy w2 (some g)) (h1 : g ≠ g1) (h2 : g ≠ m) : U32 w2 v l := by
  have h' := h.below hb
  refine ⟨h'.lt, ?_⟩
  obtain ⟨A, cap, rfl, e1, e2, e3⟩ := h'.form
  refine ⟨A, cap, rfl, e1, e2, fun hne => ?_⟩
  obtain ⟨b, off, rfl, hlt, hc⟩ := e3 hne
  have hbg : b ≠ g := by rcases ho with ho | ho <;> simp [Value.ownBlock] at ho <;> omega
  exact ⟨b, off, rfl, Nat.lt_of_lt_of_le hlt hg.size, fun i hi => (World.cell?_of_block (hg.block b hlt (by simp; omega))).trans (hc i hi)⟩
theorem Box4.keepsU32 {l : List Nat} {w : World} {x : Nat} {s t : Bool} {v : Value} {A C : Option Addr} {k c k' c' : Nat} (h : Box4 w x s (.slice A k c) t (.slice C k' c')) (hu : U32 w v l) (u0 u1 u2 u3 : Value) : U32 (st4 w x u0 u1 u2 u3) v l := h.keeps hu u0 u1 u2 u3
set_option maxRecDepth 100000 in
set_option maxHeartbeats 16000000 in
theorem clone_q {s t : Bool} {A1 C1 : Option Addr} {n1 c1 j1 d1 : Nat} {l r : List Nat} {w : World} (h1 : U32 w (.slice A1 n1 c1) l) (h2 : U32 w (.slice C1 j1 d1) r) (f1 : l.length ≤ 1000000) (f2 : r.length ≤ 1000000) :
    Calls Tryz.prog 12 #[.agg #[.bool s, .slice A1 n1 c1, .bool t, .slice C1 j1 d1]] w fun e w' => ∃ A n c C j d, e = .returned (.agg #[.bool s, .slice A n c, .bool t, .slice C j d]) ∧ U32 w' (.slice A n c) l ∧ U32 w' (.slice C j d) r ∧ Below w.heap.size w w' := by
  have V_n := Lib.hid h1
  have V_d := Lib.hid h2
  clear h1 h2
  have hb0 : Below w.heap.size w ((w.alloc (.cells #[.bool s, (.slice A1 n1 c1), .bool t, (.slice C1 j1 d1)] 26)).alloc (.cells #[.bool false, (.slice none 0 0), .bool false, (.slice none 0 0)] 26)) := (Below.alloc (Below.alloc (Below.refl w.heap.size w) (by simp <;> omega) _) (by simp <;> omega) _)
  have B_x : Box4 ((w.alloc (.cells #[.bool s, (.slice A1 n1 c1), .bool t, (.slice C1 j1 d1)] 26)).alloc (.cells #[.bool false, (.slice none 0 0), .bool false, (.slice none 0 0)] 26)) (w.heap.size) s (.slice A1 n1 c1) t (.slice C1 j1 d1) := by have h := Box4.alloc (Box4.new w s (.slice A1 n1 c1) t (.slice C1 j1 d1)) (.cells #[.bool false, (.slice none 0 0), .bool false, (.slice none 0 0)] 26); simpa using h
  replace B_x := Lib.hid B_x
  have B_r : Box4 ((w.alloc (.cells #[.bool s, (.slice A1 n1 c1), .bool t, (.slice C1 j1 d1)] 26)).alloc (.cells #[.bool false, (.slice none 0 0), .bool false, (.slice none 0 0)] 26)) (w.heap.size + 1) false (.slice none 0 0) false (.slice none 0 0) := by have h := Box4.new (w.alloc (.cells #[.bool s, (.slice A1 n1 c1), .bool t, (.slice C1 j1 d1)] 26)) false (.slice none 0 0) false (.slice none 0 0); simpa using h
  replace B_r := Lib.hid B_r
  replace V_n := Lib.hid (U32.below V_n.out hb0)
  replace V_d := Lib.hid (U32.below V_d.out hb0)
  have HB := Lib.hid hb0
  clear hb0
  have c0x := B_x.out.c0
  have c1x := B_x.out.c1
  have c2x := B_x.out.c2
  have c3x := B_x.out.c3
  have f0x := B_x.out.f0
  have f1x := B_x.out.f1
  have f2x := B_x.out.f2
  have f3x := B_x.out.f3
  have c0r := B_r.out.c0
  have c1r := B_r.out.c1
  have c2r := B_r.out.c2
  have c3r := B_r.out.c3
  have f0r := B_r.out.f0
  have f1r := B_r.out.f1
  have f2r := B_r.out.f2
  have f3r := B_r.out.f3
  go_enter Tryz.func12, Tryz.ntmps12
  go_wp2_with fail
  clear c0x c1x c2x c3x f0x f1x f2x f3x c0r c1r c2r c3r f0r f1r f2r f3r
  generalize (w.alloc (.cells #[.bool s, (.slice A1 n1 c1), .bool t, (.slice C1 j1 d1)] 26)).alloc (.cells #[.bool false, (.slice none 0 0), .bool false, (.slice none 0 0)] 26) = W0 at *
  have c0x := B_x.out.c0
  have c1x := B_x.out.c1
  have c2x := B_x.out.c2
  have c3x := B_x.out.c3
  have B0_x := B_x
  have B0_r := B_r
  have HB0 := HB
  have tk0 : True := trivial
  go_region_held3 (fun w' => w'.cell? ⟨w.heap.size, 0, none⟩ = some (.bool s) ∧ w'.cell? ⟨w.heap.size, 1, none⟩ = some (.slice A1 n1 c1) ∧ w'.cell? ⟨w.heap.size, 2, none⟩ = some (.bool t) ∧ w'.cell? ⟨w.heap.size, 3, none⟩ = some (.slice C1 j1 d1)) (((try dsimp only); (repeat' apply And.intro) <;> (first | (with_reducible assumption) | ((repeat (first | (with_reducible refine Eq.trans (cell_drew1 _ _) ?_) | (with_reducible refine Eq.trans (cell_set4 (by omega) _ _ _ _) ?_))); with_reducible assumption) | assumption | go_keep)))
    (first
      | (have _t := tk0; clear _t tk0; refine step_app_u32 (by rfl) _ _ (by rfl) (by rfl) (by rfl) (by first | exact lit_a _ _ | exact lit_b _ _ _ | exact lit_c _ _ _) (U32.below V_n.out (by first | exact ⟨rfl, rfl, rfl, Nat.le_refl _, fun _ _ => rfl⟩ | exact below_push rfl rfl rfl rfl | exact below_push2 rfl rfl rfl rfl)) (by omega) ?_; intro Aa ka ca w1 hv hob gr; have bw := below_grown (a := W0) (by first | exact ⟨rfl, rfl, rfl, Nat.le_refl _, fun _ _ => rfl⟩ | exact below_push rfl rfl rfl rfl | exact below_push2 rfl rfl rfl rfl) gr (by first | exact Nat.le_refl _ | exact Nat.le_add_right _ _ | exact BW.out.size | (simp; omega)); have BW := Lib.hid bw; replace B_x := Lib.hid (Box4.below B0_x.out bw B0_x.out.lt); replace B_r := Lib.hid (Box4.below B0_r.out bw B0_r.out.lt); replace HB := Lib.hid (nextw HB0.out bw); have c0x := B_x.out.c0; have c1x := B_x.out.c1; have c2x := B_x.out.c2; have c3x := B_x.out.c3; have V_a := Lib.hid hv; have GR := Lib.hid gr; have OB := Lib.hid hob; clear hv hob gr bw; have tkn : True := trivial)
      | (have _t := tk0; clear _t tk0; refine step_app_u32 (by rfl) _ _ (by rfl) (by rfl) (by rfl) (by first | exact lit_a _ _ | exact lit_b _ _ _ | exact lit_c _ _ _) (U32.below V_d.out (by first | exact ⟨rfl, rfl, rfl, Nat.le_refl _, fun _ _ => rfl⟩ | exact below_push rfl rfl rfl rfl | exact below_push2 rfl rfl rfl rfl)) (by omega) ?_; intro Ab kb cb w1 hv hob gr; have bw := below_grown (a := W0) (by first | exact ⟨rfl, rfl, rfl, Nat.le_refl _, fun _ _ => rfl⟩ | exact below_push rfl rfl rfl rfl | exact below_push2 rfl rfl rfl rfl) gr (by first | exact Nat.le_refl _ | exact Nat.le_add_right _ _ | exact BW.out.size | (simp; omega)); have BW := Lib.hid bw; replace B_x := Lib.hid (Box4.below B0_x.out bw B0_x.out.lt); replace B_r := Lib.hid (Box4.below B0_r.out bw B0_r.out.lt); replace HB := Lib.hid (nextw HB0.out bw); have c0x := B_x.out.c0; have c1x := B_x.out.c1; have c2x := B_x.out.c2; have c3x := B_x.out.c3; have V_b := Lib.hid hv; have GR := Lib.hid gr; have OB := Lib.hid hob; clear hv hob gr bw; have tkd : True := trivial)
      | (have _t := tkn; clear _t tkn; refine step_app_u32 (by rfl) _ _ (by rfl) (by rfl) (by rfl) (by first | exact lit_a _ _ | exact lit_g GR.out (by omega) (lit_b _ _ _) | exact lit_g GR.out (by omega) (lit_c _ _ _)) (U32.below V_d.out (nextw BW.out (by first | exact ⟨rfl, rfl, rfl, Nat.le_refl _, fun _ _ => rfl⟩ | exact below_push rfl rfl rfl rfl | exact below_push2 rfl rfl rfl rfl))) (by omega) ?_; intro Ab kb cb w2 hv hob gr; have bw := below_grown (a := W0) (nextw BW.out (by first | exact ⟨rfl, rfl, rfl, Nat.le_refl _, fun _ _ => rfl⟩ | exact below_push rfl rfl rfl rfl | exact below_push2 rfl rfl rfl rfl)) gr (by first | exact Nat.le_refl _ | exact Nat.le_add_right _ _ | exact BW.out.size | (simp; omega)); have h2 : U32 w2 (.slice Aa ka ca) _ := (by first | exact U32.late V_a.out (by first | exact ⟨rfl, rfl, rfl, Nat.le_refl _, fun _ _ => rfl⟩ | exact below_push rfl rfl rfl rfl | exact below_push2 rfl rfl rfl rfl) gr (Nat.le_refl _) | exact U32.early V_a.out OB.out (by first | exact ⟨rfl, rfl, rfl, Nat.le_refl _, fun _ _ => rfl⟩ | exact below_push rfl rfl rfl rfl | exact below_push2 rfl rfl rfl rfl) gr (by omega) (by simp; omega) | exact U32.early V_a.out OB.out (by first | exact ⟨rfl, rfl, rfl, Nat.le_refl _, fun _ _ => rfl⟩ | exact below_push rfl rfl rfl rfl | exact below_push2 rfl rfl rfl rfl) gr (by omega) (by simp)); replace V_a := Lib.hid h2; replace B_x := Lib.hid (Box4.below B0_x.out bw B0_x.out.lt); replace B_r := Lib.hid (Box4.below B0_r.out bw B0_r.out.lt); replace HB := Lib.hid (nextw HB0.out bw); have c0x := B_x.out.c0; have c1x := B_x.out.c1; have c2x := B_x.out.c2; have c3x := B_x.out.c3; have V_b := Lib.hid hv; clear hv hob gr bw h2 GR OB; have tkz : True := trivial; have c0r := B_r.out.c0; have c1r := B_r.out.c1; have c2r := B_r.out.c2; have c3r := B_r.out.c3; have f0r := B_r.out.f0; have f1r := B_r.out.f1; have f2r := B_r.out.f2; have f3r := B_r.out.f3)
      | (have _t := tkd; clear _t tkd; refine step_app_u32 (by rfl) _ _ (by rfl) (by rfl) (by rfl) (by first | exact lit_a _ _ | exact lit_g GR.out (by omega) (lit_b _ _ _) | exact lit_g GR.out (by omega) (lit_c _ _ _)) (U32.below V_n.out (nextw BW.out (by first | exact ⟨rfl, rfl, rfl, Nat.le_refl _, fun _ _ => rfl⟩ | exact below_push rfl rfl rfl rfl | exact below_push2 rfl rfl rfl rfl))) (by omega) ?_; intro Aa ka ca w2 hv hob gr; have bw := below_grown (a := W0) (nextw BW.out (by first | exact ⟨rfl, rfl, rfl, Nat.le_refl _, fun _ _ => rfl⟩ | exact below_push rfl rfl rfl rfl | exact below_push2 rfl rfl rfl rfl)) gr (by first | exact Nat.le_refl _ | exact Nat.le_add_right _ _ | exact BW.out.size | (simp; omega)); have h2 : U32 w2 (.slice Ab kb cb) _ := (by first | exact U32.late V_b.out (by first | exact ⟨rfl, rfl, rfl, Nat.le_refl _, fun _ _ => rfl⟩ | exact below_push rfl rfl rfl rfl | exact below_push2 rfl rfl rfl rfl) gr (Nat.le_refl _) | exact U32.early V_b.out OB.out (by first | exact ⟨rfl, rfl, rfl, Nat.le_refl _, fun _ _ => rfl⟩ | exact below_push rfl rfl rfl rfl | exact below_push2 rfl rfl rfl rfl) gr (by omega) (by simp; omega) | exact U32.early V_b.out OB.out (by first | exact ⟨rfl, rfl, rfl, Nat.le_refl _, fun _ _ => rfl⟩ | exact below_push rfl rfl rfl rfl | exact below_push2 rfl rfl rfl rfl) gr (by omega) (by simp)); replace V_b := Lib.hid h2; replace B_x := Lib.hid (Box4.below B0_x.out bw B0_x.out.lt); replace B_r := Lib.hid (Box4.below B0_r.out bw B0_r.out.lt); replace HB := Lib.hid (nextw HB0.out bw); have c0x := B_x.out.c0; have c1x := B_x.out.c1; have c2x := B_x.out.c2; have c3x := B_x.out.c3; have V_a := Lib.hid hv; clear hv hob gr bw h2 GR OB; have tkz : True := trivial; have c0r := B_r.out.c0; have c1r := B_r.out.c1; have c2r := B_r.out.c2; have c3r := B_r.out.c3; have f0r := B_r.out.f0; have f1r := B_r.out.f1; have f2r := B_r.out.f2; have f3r := B_r.out.f3))
  all_goals
    clear V_n V_d B0_x B0_r HB0 B_x
    skip
    have K_a := V_a
    have K_b := V_b
    replace K_a := Lib.hid (Box4.keepsU32 B_r.out K_a.out (.bool s) (.slice Aa ka ca) (.bool t) (.slice Ab kb cb))
    replace K_b := Lib.hid (Box4.keepsU32 B_r.out K_b.out (.bool s) (.slice Aa ka ca) (.bool t) (.slice Ab kb cb))
    have HB1 := Lib.hid (Below.store4 HB.out (y := w.heap.size + 1) (by omega) (.bool s) (.slice Aa ka ca) (.bool t) (.slice Ab kb cb))
    have N0r := Lib.hid (Box4.store B_r.out s (.slice Aa ka ca) t (.slice Ab kb cb))
    have s0r := N0r.out.c0
    have s1r := N0r.out.c1
    have s2r := N0r.out.c2
    have s3r := N0r.out.c3
    simp only [st4] at s0r s1r s2r s3r
    have HBF := HB1
    have c0r := B_r.out.c0
    have c1r := B_r.out.c1
    have c2r := B_r.out.c2
    have c3r := B_r.out.c3
    have f0r := B_r.out.f0
    have f1r := B_r.out.f1
    have f2r := B_r.out.f2
    have f3r := B_r.out.f3
    go_wp2_with fail
    exact bodyPost_ret (v := .agg #[.bool s, (.slice Aa ka ca), .bool t, (.slice Ab kb cb)]) (by simp [results, Tryz.results12, go_sem, s0r, s1r, s2r, s3r]) rfl ⟨_, _, _, _, _, _, rfl, (U32.below K_a.out (by exact ⟨rfl, rfl, rfl, Nat.le_refl _, fun _ _ => rfl⟩)), (U32.below K_b.out (by exact ⟨rfl, rfl, rfl, Nat.le_refl _, fun _ _ => rfl⟩)), (nextw HBF.out (by exact ⟨rfl, rfl, rfl, Nat.le_refl _, fun _ _ => rfl⟩))⟩
end Go.Proofs.YtldfamjlnphokaaGreatDoor
