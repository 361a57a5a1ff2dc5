/- heading.Norm, Turn. -/
import Derived.Test.YtincejndchdcdaaHVal
namespace Go.Proofs.Ytincejndchdcdaa
open Go Go.RowKit Hd

abbrev cv (x y d : Int) : Obj := .cells #[.int .i64 x, .int .i64 y, .int .i64 d] 24

theorem boxes2 (w : World) (x y d : Int) : Box3 ((w.alloc (cv x y d)).alloc (cv 0 0 0)) w.heap.size x y d ∧ Box3 ((w.alloc (cv x y d)).alloc (cv 0 0 0)) (w.heap.size + 1) 0 0 0 ∧ Below w.heap.size w ((w.alloc (cv x y d)).alloc (cv 0 0 0)) := by
  have h2 := Box3.new (w.alloc (cv x y d)) 0 0 0
  rw [World.size_alloc] at h2
  exact ⟨(Box3.new w x y d).alloc _, h2, ((Below.refl _ _).alloc (Nat.le_refl _) _).alloc (by simp) _⟩
theorem boxes3 (w : World) (x y d x' y' d' : Int) : Box3 (((w.alloc (cv x y d)).alloc (cv x' y' d')).alloc (cv 0 0 0)) w.heap.size x y d ∧ Box3 (((w.alloc (cv x y d)).alloc (cv x' y' d')).alloc (cv 0 0 0)) (w.heap.size + 1) x' y' d' ∧ Box3 (((w.alloc (cv x y d)).alloc (cv x' y' d')).alloc (cv 0 0 0)) (w.heap.size + 2) 0 0 0 ∧ Below w.heap.size w (((w.alloc (cv x y d)).alloc (cv x' y' d')).alloc (cv 0 0 0)) := by
  have h2 := Box3.new (w.alloc (cv x y d)) x' y' d'
  have h3 := Box3.new ((w.alloc (cv x y d)).alloc (cv x' y' d')) 0 0 0
  rw [World.size_alloc] at h2
  rw [World.size_alloc, World.size_alloc] at h3
  exact ⟨((Box3.new w x y d).alloc _).alloc _, h2.alloc _, h3, (((Below.refl _ _).alloc (Nat.le_refl _) _).alloc (by simp) _).alloc (by simp; omega) _⟩

set_option maxRecDepth 100000 in
set_option maxHeartbeats 1000000 in
theorem Norm_bad (v : V3) (hf : Fit v) (hn : ¬ Ok v) (w : World) :
    Calls Try.prog 22 #[vv v] w fun e w' => e = .returned (.tuple #[vv ⟨0, 0, 0⟩, .int .i64 1]) ∧ Below w.heap.size w w' := by
  have HV := Lib.hid (fun w => Valid_no v hf hn w)
  obtain ⟨x, y, d⟩ := v
  obtain ⟨ba, br, hb⟩ := boxes2 w x y d
  have BA := Lib.hid ba
  have BR := Lib.hid br
  have HB := Lib.hid hb
  clear ba br hb hf hn
  go_enter Try.func22, Try.ntmps22
  go_wp2_with fail
  generalize (w.alloc (.cells #[.int .i64 x, .int .i64 y, .int .i64 d] 24)).alloc (.cells #[.int .i64 0, .int .i64 0, .int .i64 0] 24) = W0 at *
  refine (HV.out _).mono ?_
  rintro e w1 ⟨rfl, bb⟩
  replace BR := Lib.hid (Box3.below BR.out bb BR.out.lt)
  replace HB := Lib.hid (nextw HB.out bb)
  clear bb BA HV
  have c0 := BR.out.c0
  have c1 := BR.out.c1
  have c2 := BR.out.c2
  have f0 := BR.out.f0
  have f1 := BR.out.f1
  have f2 := BR.out.f2
  have sS := Box3.store BR.out 0 0 0
  have s0 := sS.c0
  have s1 := sS.c1
  have s2 := sS.c2
  have HF := Lib.hid (Below.store3 HB.out (y := w.heap.size + 1) (by omega) (.int .i64 0) (.int .i64 0) (.int .i64 0))
  simp only [st3] at s0 s1 s2
  clear sS HB BR
  go_wp2
  exact bodyPost_ret (v := .tuple #[.agg #[.int .i64 0, .int .i64 0, .int .i64 0], .int .i64 1]) (by simp [results, Try.results22, go_sem, s0, s1, s2]) rfl ⟨rfl, nextw HF.out (by exact ⟨rfl, rfl, rfl, Nat.le_refl _, fun _ _ => rfl⟩)⟩

set_option maxRecDepth 100000 in
set_option maxHeartbeats 1000000 in
theorem Norm_ok (v : V3) (h : Ok v) (w : World) :
    Calls Try.prog 22 #[vv v] w fun e w' => e = .returned (.tuple #[vv (low v.x v.y v.d), .int .i64 0]) ∧ Below w.heap.size w w' := by
  have HV := Lib.hid (fun w => Valid_yes v h w)
  have hbx := h.bx
  have hby := h.by_
  obtain ⟨h1, h2, h3⟩ := h
  have HL := Lib.hid (fun w => lowest_any v.x v.y v.d w (by omega) (by omega) (by omega) (by omega) (by omega) (by omega))
  obtain ⟨x, y, d⟩ := v
  simp only at h1 h2 h3 hbx hby HL
  simp only
  generalize low x y d = L at *
  obtain ⟨ba, br, hb⟩ := boxes2 w x y d
  have BA := Lib.hid ba
  have BR := Lib.hid br
  have HB := Lib.hid hb
  clear ba br hb h3
  go_enter Try.func22, Try.ntmps22
  go_wp2_with fail
  generalize (w.alloc (.cells #[.int .i64 x, .int .i64 y, .int .i64 d] 24)).alloc (.cells #[.int .i64 0, .int .i64 0, .int .i64 0] 24) = W0 at *
  refine (HV.out _).mono ?_
  rintro e w1 ⟨rfl, bb⟩
  replace BA := Lib.hid (Box3.below BA.out bb BA.out.lt)
  replace BR := Lib.hid (Box3.below BR.out bb BR.out.lt)
  replace HB := Lib.hid (nextw HB.out bb)
  clear bb HV
  have a0 := BA.out.c0
  have a1 := BA.out.c1
  have a2 := BA.out.c2
  go_wp2_with fail
  refine (HL.out _).mono ?_
  rintro e w2 ⟨rfl, bb⟩
  clear a0 a1 a2
  replace BR := Lib.hid (Box3.below BR.out bb BR.out.lt)
  replace HB := Lib.hid (nextw HB.out bb)
  clear bb BA HL
  have c0 := BR.out.c0
  have c1 := BR.out.c1
  have c2 := BR.out.c2
  have f0 := BR.out.f0
  have f1 := BR.out.f1
  have f2 := BR.out.f2
  have sS := Box3.store BR.out L.x L.y L.d
  have s0 := sS.c0
  have s1 := sS.c1
  have s2 := sS.c2
  have HF := Lib.hid (Below.store3 HB.out (y := w.heap.size + 1) (by omega) (.int .i64 L.x) (.int .i64 L.y) (.int .i64 L.d))
  simp only [st3] at s0 s1 s2
  clear sS HB BR
  go_wp2
  exact bodyPost_ret (v := .tuple #[.agg #[.int .i64 L.x, .int .i64 L.y, .int .i64 L.d], .int .i64 0]) (by simp [results, Try.results22, go_sem, s0, s1, s2]) rfl ⟨rfl, nextw HF.out (by exact ⟨rfl, rfl, rfl, Nat.le_refl _, fun _ _ => rfl⟩)⟩
end Go.Proofs.Ytincejndchdcdaa
