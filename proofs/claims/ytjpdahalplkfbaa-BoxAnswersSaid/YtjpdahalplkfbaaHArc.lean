/- heading.ValidArc, Has. -/
import Derived.Test.YtjpdahalplkfbaaHOne
namespace Go.Proofs.Ytjpdahalplkfbaa
open Go Go.RowKit Hd

/-- The value of an arc. -/
abbrev av (f c : Int) : Value := .agg #[.int .i64 f, .int .i64 c]
/-- A valid arc. -/
def OkA (f c : Int) : Prop := (c = 256 ∧ f = 0) ∨ (0 ≤ f ∧ f < 256 ∧ 1 ≤ c ∧ c < 256)
theorem OkA.f0 {f c : Int} (h : OkA f c) : 0 ≤ f := by unfold OkA at h; omega
theorem OkA.f1 {f c : Int} (h : OkA f c) : f < 256 := by unfold OkA at h; omega
theorem OkA.c0 {f c : Int} (h : OkA f c) : 1 ≤ c := by unfold OkA at h; omega
theorem OkA.c1 {f c : Int} (h : OkA f c) : c ≤ 256 := by unfold OkA at h; omega
theorem OkA.full {f c : Int} (h : OkA f c) (hc : c = 256) : f = 0 := by unfold OkA at h; omega
/-- Whether the mark h is in the arc. -/
def hasB (f c h : Int) : Bool := decide ((h - f) % 256 < c)

set_option maxRecDepth 100000 in
set_option maxHeartbeats 1000000 in
theorem VA_full  (w : World) :
    Calls Try.prog 47 #[av 0 256] w fun e w' => e = .returned (.bool true) ∧ Below w.heap.size w w' := by
  have HB := Lib.hid (show Below w.heap.size w (w.alloc (.cells #[.int .i64 0, .int .i64 256] 59)) from ((Below.refl _ _).alloc (by simp <;> omega) _))
  have B_a : Box2 (w.alloc (.cells #[.int .i64 0, .int .i64 256] 59)) (w.heap.size) 0 256 := by have h := (Box2.new w 0 256); simpa using h
  replace B_a := Lib.hid B_a
  go_enter Try.func47, Try.ntmps47
  go_wp2_with fail
  generalize w.alloc (.cells #[.int .i64 0, .int .i64 256] 59) = W0 at *
  have c0a := B_a.out.c0
  have c1a := B_a.out.c1
  go_wp2
  go_ret
  exact ⟨rfl, nextw HB.out (by exact ⟨rfl, rfl, rfl, Nat.le_refl _, fun _ _ => rfl⟩)⟩

set_option maxRecDepth 100000 in
set_option maxHeartbeats 1000000 in
theorem VA_fullno (f : Int) (hf : f ≠ 0) (w : World) :
    Calls Try.prog 47 #[av f 256] w fun e w' => e = .returned (.bool false) ∧ Below w.heap.size w w' := by
  have hz : (f == 0) = false := by simpa using hf
  clear hf
  have HB := Lib.hid (show Below w.heap.size w (w.alloc (.cells #[.int .i64 f, .int .i64 256] 59)) from ((Below.refl _ _).alloc (by simp <;> omega) _))
  have B_a : Box2 (w.alloc (.cells #[.int .i64 f, .int .i64 256] 59)) (w.heap.size) f 256 := by have h := (Box2.new w f 256); simpa using h
  replace B_a := Lib.hid B_a
  go_enter Try.func47, Try.ntmps47
  go_wp2_with fail
  generalize w.alloc (.cells #[.int .i64 f, .int .i64 256] 59) = W0 at *
  have c0a := B_a.out.c0
  have c1a := B_a.out.c1
  go_wp2
  go_ret
  exact ⟨rfl, nextw HB.out (by exact ⟨rfl, rfl, rfl, Nat.le_refl _, fun _ _ => rfl⟩)⟩

set_option maxRecDepth 100000 in
set_option maxHeartbeats 1000000 in
theorem VA_part (f c : Int) (hc : (c == 256) = false) (h1 : 0 ≤ f) (h2 : f < 256) (h3 : 1 ≤ c) (h4 : c < 256) (w : World) :
    Calls Try.prog 47 #[av f c] w fun e w' => e = .returned (.bool true) ∧ Below w.heap.size w w' := by
  have HB := Lib.hid (show Below w.heap.size w (w.alloc (.cells #[.int .i64 f, .int .i64 c] 59)) from ((Below.refl _ _).alloc (by simp <;> omega) _))
  have B_a : Box2 (w.alloc (.cells #[.int .i64 f, .int .i64 c] 59)) (w.heap.size) f c := by have h := (Box2.new w f c); simpa using h
  replace B_a := Lib.hid B_a
  go_enter Try.func47, Try.ntmps47
  go_wp2_with fail
  generalize w.alloc (.cells #[.int .i64 f, .int .i64 c] 59) = W0 at *
  have c0a := B_a.out.c0
  have c1a := B_a.out.c1
  go_wp2
  go_ret
  exact ⟨rfl, nextw HB.out (by exact ⟨rfl, rfl, rfl, Nat.le_refl _, fun _ _ => rfl⟩)⟩

set_option maxRecDepth 100000 in
set_option maxHeartbeats 1000000 in
theorem VA_n1 (f c : Int) (hc : (c == 256) = false) (h1 : f < 0) (w : World) :
    Calls Try.prog 47 #[av f c] w fun e w' => e = .returned (.bool false) ∧ Below w.heap.size w w' := by
  have HB := Lib.hid (show Below w.heap.size w (w.alloc (.cells #[.int .i64 f, .int .i64 c] 59)) from ((Below.refl _ _).alloc (by simp <;> omega) _))
  have B_a : Box2 (w.alloc (.cells #[.int .i64 f, .int .i64 c] 59)) (w.heap.size) f c := by have h := (Box2.new w f c); simpa using h
  replace B_a := Lib.hid B_a
  go_enter Try.func47, Try.ntmps47
  go_wp2_with fail
  generalize w.alloc (.cells #[.int .i64 f, .int .i64 c] 59) = W0 at *
  have c0a := B_a.out.c0
  have c1a := B_a.out.c1
  go_wp2
  go_ret
  exact ⟨rfl, nextw HB.out (by exact ⟨rfl, rfl, rfl, Nat.le_refl _, fun _ _ => rfl⟩)⟩

set_option maxRecDepth 100000 in
set_option maxHeartbeats 1000000 in
theorem VA_n2 (f c : Int) (hc : (c == 256) = false) (h1 : 0 ≤ f) (h2 : 256 ≤ f) (w : World) :
    Calls Try.prog 47 #[av f c] w fun e w' => e = .returned (.bool false) ∧ Below w.heap.size w w' := by
  have HB := Lib.hid (show Below w.heap.size w (w.alloc (.cells #[.int .i64 f, .int .i64 c] 59)) from ((Below.refl _ _).alloc (by simp <;> omega) _))
  have B_a : Box2 (w.alloc (.cells #[.int .i64 f, .int .i64 c] 59)) (w.heap.size) f c := by have h := (Box2.new w f c); simpa using h
  replace B_a := Lib.hid B_a
  go_enter Try.func47, Try.ntmps47
  go_wp2_with fail
  generalize w.alloc (.cells #[.int .i64 f, .int .i64 c] 59) = W0 at *
  have c0a := B_a.out.c0
  have c1a := B_a.out.c1
  go_wp2
  go_ret
  exact ⟨rfl, nextw HB.out (by exact ⟨rfl, rfl, rfl, Nat.le_refl _, fun _ _ => rfl⟩)⟩

set_option maxRecDepth 100000 in
set_option maxHeartbeats 1000000 in
theorem VA_n3 (f c : Int) (hc : (c == 256) = false) (h1 : 0 ≤ f) (h2 : f < 256) (h3 : c < 1) (w : World) :
    Calls Try.prog 47 #[av f c] w fun e w' => e = .returned (.bool false) ∧ Below w.heap.size w w' := by
  have HB := Lib.hid (show Below w.heap.size w (w.alloc (.cells #[.int .i64 f, .int .i64 c] 59)) from ((Below.refl _ _).alloc (by simp <;> omega) _))
  have B_a : Box2 (w.alloc (.cells #[.int .i64 f, .int .i64 c] 59)) (w.heap.size) f c := by have h := (Box2.new w f c); simpa using h
  replace B_a := Lib.hid B_a
  go_enter Try.func47, Try.ntmps47
  go_wp2_with fail
  generalize w.alloc (.cells #[.int .i64 f, .int .i64 c] 59) = W0 at *
  have c0a := B_a.out.c0
  have c1a := B_a.out.c1
  go_wp2
  go_ret
  exact ⟨rfl, nextw HB.out (by exact ⟨rfl, rfl, rfl, Nat.le_refl _, fun _ _ => rfl⟩)⟩

set_option maxRecDepth 100000 in
set_option maxHeartbeats 1000000 in
theorem VA_n4 (f c : Int) (hc : (c == 256) = false) (h1 : 0 ≤ f) (h2 : f < 256) (h3 : 1 ≤ c) (h4 : 256 ≤ c) (w : World) :
    Calls Try.prog 47 #[av f c] w fun e w' => e = .returned (.bool false) ∧ Below w.heap.size w w' := by
  have hz : decide (c < 256) = false := decide_eq_false (by omega)
  have HB := Lib.hid (show Below w.heap.size w (w.alloc (.cells #[.int .i64 f, .int .i64 c] 59)) from ((Below.refl _ _).alloc (by simp <;> omega) _))
  have B_a : Box2 (w.alloc (.cells #[.int .i64 f, .int .i64 c] 59)) (w.heap.size) f c := by have h := (Box2.new w f c); simpa using h
  replace B_a := Lib.hid B_a
  go_enter Try.func47, Try.ntmps47
  go_wp2_with fail
  generalize w.alloc (.cells #[.int .i64 f, .int .i64 c] 59) = W0 at *
  have c0a := B_a.out.c0
  have c1a := B_a.out.c1
  go_wp2
  go_ret
  exact ⟨rfl, nextw HB.out (by exact ⟨rfl, rfl, rfl, Nat.le_refl _, fun _ _ => rfl⟩)⟩

theorem VA_yes {f c : Int} (h : OkA f c) (w : World) :
    Calls Try.prog 47 #[av f c] w fun e w' => e = .returned (.bool true) ∧ Below w.heap.size w w' := by
  unfold OkA at h
  by_cases hc : c = 256
  · obtain rfl : f = 0 := by omega
    subst hc; exact VA_full w
  · exact VA_part f c (by simpa using hc) (by omega) (by omega) (by omega) (by omega) w
theorem VA_no {f c : Int} (h : ¬ OkA f c) (w : World) :
    Calls Try.prog 47 #[av f c] w fun e w' => e = .returned (.bool false) ∧ Below w.heap.size w w' := by
  unfold OkA at h
  by_cases hc : c = 256
  · subst hc; exact VA_fullno f (by omega) w
  have hb : (c == 256) = false := by simpa using hc
  by_cases h1 : f < 0
  · exact VA_n1 f c hb h1 w
  by_cases h2 : 256 ≤ f
  · exact VA_n2 f c hb (by omega) h2 w
  by_cases h3 : c < 1
  · exact VA_n3 f c hb (by omega) (by omega) h3 w
  · exact VA_n4 f c hb (by omega) (by omega) (by omega) (by omega) w
theorem residue_at {n m : Int} (h : n % 256 = m) (w : World) :
    Calls Try.prog 63 #[.int .i64 n] w fun e w' => e = .returned (.int .i64 m) ∧ w = w' := h ▸ residue_any n w
theorem wrap_mod (n : Int) : IntKind.i64.wrap n % 256 = n % 256 := by rw [IntKind.wrap_i64]; omega

set_option maxRecDepth 100000 in
set_option maxHeartbeats 1000000 in
theorem Has_bad (f c h : Int) (hn : ¬ OkA f c) (w : World) :
    Calls Try.prog 49 #[av f c, .int .i64 h] w fun e w' => e = .returned (.bool false) ∧ Below w.heap.size w w' := by
  have HV := Lib.hid (fun w => VA_no hn w)
  clear hn
  have HB := Lib.hid (show Below w.heap.size w (w.alloc (.cells #[.int .i64 f, .int .i64 c] 59)) from ((Below.refl _ _).alloc (by simp <;> omega) _))
  have B_a : Box2 (w.alloc (.cells #[.int .i64 f, .int .i64 c] 59)) (w.heap.size) f c := by have h := (Box2.new w f c); simpa using h
  replace B_a := Lib.hid B_a
  go_enter Try.func49, Try.ntmps49
  go_wp2_with fail
  generalize w.alloc (.cells #[.int .i64 f, .int .i64 c] 59) = W0 at *
  have c0a := B_a.out.c0
  have c1a := B_a.out.c1
  first | (go_region_with (first
        | (go_at_call 47; refine (HV.out _).mono ?_; rintro e w1 ⟨rfl, bb⟩; replace HB := Lib.hid (nextw HB.out (nextw (w0 := W0) (by exact ⟨rfl, rfl, rfl, Nat.le_refl _, fun _ _ => rfl⟩) bb)); clear bb))) | fail
  all_goals (go_wp2; go_ret; exact ⟨rfl, nextw HB.out (by exact ⟨rfl, rfl, rfl, Nat.le_refl _, fun _ _ => rfl⟩)⟩)

set_option maxRecDepth 100000 in
set_option maxHeartbeats 1000000 in
theorem Has_ok (f c h : Int) (hv : OkA f c) (w : World) :
    Calls Try.prog 49 #[av f c, .int .i64 h] w fun e w' => e = .returned (.bool (hasB f c h)) ∧ Below w.heap.size w w' := by
  have HV := Lib.hid (fun w => VA_yes hv w)
  obtain ⟨m, hm⟩ : ∃ m, (h - f) % 256 = m := ⟨_, rfl⟩
  have HM := Lib.hid (fun w => residue_at ((wrap_mod (h - f)).trans hm) w)
  have HE : Hid (hasB f c h = decide (m < c)) := by unfold Hid hasB; rw [hm]
  rw [HE.out]
  clear hv hm HE
  have HB := Lib.hid (show Below w.heap.size w (w.alloc (.cells #[.int .i64 f, .int .i64 c] 59)) from ((Below.refl _ _).alloc (by simp <;> omega) _))
  have B_a : Box2 (w.alloc (.cells #[.int .i64 f, .int .i64 c] 59)) (w.heap.size) f c := by have h := (Box2.new w f c); simpa using h
  replace B_a := Lib.hid B_a
  go_enter Try.func49, Try.ntmps49
  go_wp2_with fail
  generalize w.alloc (.cells #[.int .i64 f, .int .i64 c] 59) = W0 at *
  go_wp2_with fail
  have c0a := B_a.out.c0
  have c1a := B_a.out.c1
  have tk1x0 : True := trivial
  go_region_held3 (fun w' => w'.cell? ⟨w.heap.size, 0, none⟩ = some (.int .i64 f) ∧ w'.cell? ⟨w.heap.size, 1, none⟩ = some (.int .i64 c)) (((try dsimp only); (repeat' apply And.intro) <;> (first | (with_reducible assumption) | ((repeat (first | (with_reducible refine Eq.trans (cell_drew1 _ _) ?_) | (with_reducible refine Eq.trans (World.cell?_alloc_lt _ _ _ (by first | (dsimp only; omega) | (simp only [World.size_alloc, World.size_setCell]; omega))) ?_))); with_reducible assumption) | assumption | go_keep)))
    (first
      | (clear tk1x0; go_at_call 47; refine (HV.out _).mono ?_; rintro e w1 ⟨rfl, bb⟩; replace bb := nextw (w0 := W0) (by exact ⟨rfl, rfl, rfl, Nat.le_refl _, fun _ _ => rfl⟩) bb; replace B_a := Lib.hid (Box2.below B_a.out bb B_a.out.lt); replace HB := Lib.hid (nextw HB.out bb); clear bb c0a c1a; have c0a := B_a.out.c0; have c1a := B_a.out.c1; have tk1x1 : True := trivial)
      | (go_at_call 63; refine (HM.out _).mono ?_; rintro e w9 ⟨rfl, rfl⟩))
  clear c0a c1a
  go_wp2
  go_ret
  exact ⟨rfl, nextw HB.out (by exact ⟨rfl, rfl, rfl, Nat.le_refl _, fun _ _ => rfl⟩)⟩
end Go.Proofs.Ytjpdahalplkfbaa
