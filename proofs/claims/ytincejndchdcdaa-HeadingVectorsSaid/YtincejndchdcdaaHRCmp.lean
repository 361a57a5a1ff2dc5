/- The reference: lower, Cmp. -/
import Derived.Test.YtincejndchdcdaaHCmp
import Derived.Test.YtincejndchdcdaaHBVec
namespace Go.Proofs.Ytincejndchdcdaa
open Go Go.RowKit Hd

set_option maxRecDepth 100000 in
set_option maxHeartbeats 1000000 in
theorem rlower_any (v : V3) (w : World) :
    Calls Try.prog 52 #[vv v] w fun e w' => e = .returned (.bool (lowB v)) ∧ Below w.heap.size w w' := by
  obtain ⟨x, y, d⟩ := v
  have hb : Below w.heap.size w (w.alloc (.cells #[.int .i64 x, .int .i64 y, .int .i64 d] 24)) := (Below.refl _ _).alloc (Nat.le_refl _) _
  have HB := Lib.hid hb
  have ht := @decide_eq_true (y < 0 ∨ y = 0 ∧ x < 0) inferInstance
  have hn := @decide_eq_false (y < 0 ∨ y = 0 ∧ x < 0) inferInstance
  have HT : Hid ((y < 0 ∨ y = 0 ∧ x < 0) → lowB ⟨x, y, d⟩ = true) := ht
  have HN : Hid (¬ (y < 0 ∨ y = 0 ∧ x < 0) → lowB ⟨x, y, d⟩ = false) := hn
  clear hb ht hn
  by_cases c1 : y < 0
  · rw [HT.out (by omega)]
    go_enter Try.func52, Try.ntmps52
    go_wp2
    go_ret
    exact ⟨rfl, HB.out⟩
  by_cases c2 : y = 0
  · subst c2
    by_cases c3 : x < 0
    · rw [HT.out (by omega)]
      go_enter Try.func52, Try.ntmps52
      go_wp2
      go_ret
      exact ⟨rfl, HB.out⟩
    · rw [HN.out (by omega)]
      go_enter Try.func52, Try.ntmps52
      go_wp2
      go_ret
      exact ⟨rfl, HB.out⟩
  · rw [HN.out (by omega)]
    have hz : (y == 0) = false := by simpa using c2
    go_enter Try.func52, Try.ntmps52
    go_wp2
    go_ret
    exact ⟨rfl, HB.out⟩


set_option maxRecDepth 100000 in
set_option maxHeartbeats 1000000 in
theorem RCmp_bad1 (a b : V3) (hf : Fit a) (hn : ¬ Ok a) (w : World) :
    Calls Try.prog 27 #[vv a, vv b] w fun e w' => e = .returned (.int .i64 0) ∧ Below w.heap.size w w' := by
  have HV := Lib.hid (fun w => RValid_no a hn w)
  obtain ⟨x, y, d⟩ := a
  obtain ⟨u, v, f⟩ := b
  clear hf hn
  have HB := Lib.hid (show Below w.heap.size w ((w.alloc (.cells #[.int .i64 x, .int .i64 y, .int .i64 d] 24)).alloc (.cells #[.int .i64 u, .int .i64 v, .int .i64 f] 24)) from (((Below.refl _ _).alloc (by simp <;> omega) _).alloc (by simp <;> omega) _))
  have B_a : Box3 ((w.alloc (.cells #[.int .i64 x, .int .i64 y, .int .i64 d] 24)).alloc (.cells #[.int .i64 u, .int .i64 v, .int .i64 f] 24)) (w.heap.size) x y d := by have h := (Box3.alloc (Box3.new w x y d) (.cells #[.int .i64 u, .int .i64 v, .int .i64 f] 24)); simpa using h
  replace B_a := Lib.hid B_a
  have B_b : Box3 ((w.alloc (.cells #[.int .i64 x, .int .i64 y, .int .i64 d] 24)).alloc (.cells #[.int .i64 u, .int .i64 v, .int .i64 f] 24)) (w.heap.size + 1) u v f := by have h := (Box3.new (w.alloc (.cells #[.int .i64 x, .int .i64 y, .int .i64 d] 24)) u v f); simpa using h
  replace B_b := Lib.hid B_b
  go_enter Try.func27, Try.ntmps27
  go_wp2_with fail
  generalize (w.alloc (.cells #[.int .i64 x, .int .i64 y, .int .i64 d] 24)).alloc (.cells #[.int .i64 u, .int .i64 v, .int .i64 f] 24) = W0 at *
  have c0a := B_a.out.c0
  have c1a := B_a.out.c1
  have c2a := B_a.out.c2
  have c0b := B_b.out.c0
  have c1b := B_b.out.c1
  have c2b := B_b.out.c2
  refine (HV.out _).mono ?_
  clear c0a c1a c2a c0b c1b c2b
  rintro e w1 ⟨rfl, bb⟩
  replace bb := nextw (w0 := W0) (by exact ⟨rfl, rfl, rfl, Nat.le_refl _, fun _ _ => rfl⟩) bb
  replace B_a := Lib.hid (Box3.below B_a.out bb B_a.out.lt)
  replace B_b := Lib.hid (Box3.below B_b.out bb B_b.out.lt)
  replace HB := Lib.hid (nextw HB.out bb)
  clear bb
  have c0a := B_a.out.c0
  have c1a := B_a.out.c1
  have c2a := B_a.out.c2
  have c0b := B_b.out.c0
  have c1b := B_b.out.c1
  have c2b := B_b.out.c2
  clear c0a c1a c2a c0b c1b c2b
  go_wp2
  go_ret
  exact ⟨rfl, nextw HB.out (by exact ⟨rfl, rfl, rfl, Nat.le_refl _, fun _ _ => rfl⟩)⟩

set_option maxRecDepth 100000 in
set_option maxHeartbeats 1000000 in
theorem RCmp_bad2 (a b : V3) (ha : Ok a) (hf : Fit b) (hn : ¬ Ok b) (w : World) :
    Calls Try.prog 27 #[vv a, vv b] w fun e w' => e = .returned (.int .i64 0) ∧ Below w.heap.size w w' := by
  have HV := Lib.hid (fun w => RValid_yes a ha w)
  have HW := Lib.hid (fun w => RValid_no b hn w)
  obtain ⟨x, y, d⟩ := a
  obtain ⟨u, v, f⟩ := b
  clear ha hf hn
  have HB := Lib.hid (show Below w.heap.size w ((w.alloc (.cells #[.int .i64 x, .int .i64 y, .int .i64 d] 24)).alloc (.cells #[.int .i64 u, .int .i64 v, .int .i64 f] 24)) from (((Below.refl _ _).alloc (by simp <;> omega) _).alloc (by simp <;> omega) _))
  have B_a : Box3 ((w.alloc (.cells #[.int .i64 x, .int .i64 y, .int .i64 d] 24)).alloc (.cells #[.int .i64 u, .int .i64 v, .int .i64 f] 24)) (w.heap.size) x y d := by have h := (Box3.alloc (Box3.new w x y d) (.cells #[.int .i64 u, .int .i64 v, .int .i64 f] 24)); simpa using h
  replace B_a := Lib.hid B_a
  have B_b : Box3 ((w.alloc (.cells #[.int .i64 x, .int .i64 y, .int .i64 d] 24)).alloc (.cells #[.int .i64 u, .int .i64 v, .int .i64 f] 24)) (w.heap.size + 1) u v f := by have h := (Box3.new (w.alloc (.cells #[.int .i64 x, .int .i64 y, .int .i64 d] 24)) u v f); simpa using h
  replace B_b := Lib.hid B_b
  go_enter Try.func27, Try.ntmps27
  go_wp2_with fail
  generalize (w.alloc (.cells #[.int .i64 x, .int .i64 y, .int .i64 d] 24)).alloc (.cells #[.int .i64 u, .int .i64 v, .int .i64 f] 24) = W0 at *
  have c0a := B_a.out.c0
  have c1a := B_a.out.c1
  have c2a := B_a.out.c2
  have c0b := B_b.out.c0
  have c1b := B_b.out.c1
  have c2b := B_b.out.c2
  refine (HV.out _).mono ?_
  clear c0a c1a c2a c0b c1b c2b
  rintro e w1 ⟨rfl, bb⟩
  replace bb := nextw (w0 := W0) (by exact ⟨rfl, rfl, rfl, Nat.le_refl _, fun _ _ => rfl⟩) bb
  replace B_a := Lib.hid (Box3.below B_a.out bb B_a.out.lt)
  replace B_b := Lib.hid (Box3.below B_b.out bb B_b.out.lt)
  replace HB := Lib.hid (nextw HB.out bb)
  clear bb
  have c0a := B_a.out.c0
  have c1a := B_a.out.c1
  have c2a := B_a.out.c2
  have c0b := B_b.out.c0
  have c1b := B_b.out.c1
  have c2b := B_b.out.c2
  go_wp2_with fail
  refine (HW.out _).mono ?_
  clear c0a c1a c2a c0b c1b c2b
  rintro e w2 ⟨rfl, bb⟩
  replace bb := nextw (w0 := w1) (by exact ⟨rfl, rfl, rfl, Nat.le_refl _, fun _ _ => rfl⟩) bb
  replace B_a := Lib.hid (Box3.below B_a.out bb B_a.out.lt)
  replace B_b := Lib.hid (Box3.below B_b.out bb B_b.out.lt)
  replace HB := Lib.hid (nextw HB.out bb)
  clear bb
  have c0a := B_a.out.c0
  have c1a := B_a.out.c1
  have c2a := B_a.out.c2
  have c0b := B_b.out.c0
  have c1b := B_b.out.c1
  have c2b := B_b.out.c2
  clear c0a c1a c2a c0b c1b c2b
  go_wp2
  go_ret
  exact ⟨rfl, nextw HB.out (by exact ⟨rfl, rfl, rfl, Nat.le_refl _, fun _ _ => rfl⟩)⟩


theorem rlower_at {x y d : Int} {p : Bool} (h : lowB ⟨x, y, d⟩ = p) (w : World) : Calls Try.prog 52 #[.agg #[.int .i64 x, .int .i64 y, .int .i64 d]] w fun e w' => e = .returned (.bool p) ∧ Below w.heap.size w w' := h ▸ rlower_any ⟨x, y, d⟩ w

set_option maxRecDepth 100000 in
set_option maxHeartbeats 1000000 in
theorem RCmp_ft (a b : V3) (ha : Ok a) (hb : Ok b) (hp : lowB a = false) (hq : lowB b = true)  (w : World) :
    Calls Try.prog 27 #[vv a, vv b] w fun e w' => e = .returned (.int .i64 (-1)) ∧ Below w.heap.size w w' := by
  have HV := Lib.hid (fun w => RValid_yes a ha w)
  have HW := Lib.hid (fun w => RValid_yes b hb w)
  have hax := ha.bx
  have hay := ha.by_
  have hbx := hb.bx
  have hby := hb.by_
  have had := ha.lo
  have had2 := ha.hi
  have hbd := hb.lo
  have hbd2 := hb.hi
  have HLa := Lib.hid (fun w => rlower_at hp w)
  have HLb := Lib.hid (fun w => rlower_at hq w)
  obtain ⟨x, y, d⟩ := a
  obtain ⟨u, v, f⟩ := b
  simp only at hax hay hbx hby had had2 hbd hbd2
  clear ha hb hp hq
  have HB := Lib.hid (show Below w.heap.size w ((w.alloc (.cells #[.int .i64 x, .int .i64 y, .int .i64 d] 24)).alloc (.cells #[.int .i64 u, .int .i64 v, .int .i64 f] 24)) from (((Below.refl _ _).alloc (by simp <;> omega) _).alloc (by simp <;> omega) _))
  have B_a : Box3 ((w.alloc (.cells #[.int .i64 x, .int .i64 y, .int .i64 d] 24)).alloc (.cells #[.int .i64 u, .int .i64 v, .int .i64 f] 24)) (w.heap.size) x y d := by have h := (Box3.alloc (Box3.new w x y d) (.cells #[.int .i64 u, .int .i64 v, .int .i64 f] 24)); simpa using h
  replace B_a := Lib.hid B_a
  have B_b : Box3 ((w.alloc (.cells #[.int .i64 x, .int .i64 y, .int .i64 d] 24)).alloc (.cells #[.int .i64 u, .int .i64 v, .int .i64 f] 24)) (w.heap.size + 1) u v f := by have h := (Box3.new (w.alloc (.cells #[.int .i64 x, .int .i64 y, .int .i64 d] 24)) u v f); simpa using h
  replace B_b := Lib.hid B_b
  go_enter Try.func27, Try.ntmps27
  go_wp2_with fail
  generalize (w.alloc (.cells #[.int .i64 x, .int .i64 y, .int .i64 d] 24)).alloc (.cells #[.int .i64 u, .int .i64 v, .int .i64 f] 24) = W0 at *
  have c0a := B_a.out.c0
  have c1a := B_a.out.c1
  have c2a := B_a.out.c2
  have c0b := B_b.out.c0
  have c1b := B_b.out.c1
  have c2b := B_b.out.c2
  refine (HV.out _).mono ?_
  clear c0a c1a c2a c0b c1b c2b
  rintro e w1 ⟨rfl, bb⟩
  replace bb := nextw (w0 := W0) (by exact ⟨rfl, rfl, rfl, Nat.le_refl _, fun _ _ => rfl⟩) bb
  replace B_a := Lib.hid (Box3.below B_a.out bb B_a.out.lt)
  replace B_b := Lib.hid (Box3.below B_b.out bb B_b.out.lt)
  replace HB := Lib.hid (nextw HB.out bb)
  clear bb
  have c0a := B_a.out.c0
  have c1a := B_a.out.c1
  have c2a := B_a.out.c2
  have c0b := B_b.out.c0
  have c1b := B_b.out.c1
  have c2b := B_b.out.c2
  go_wp2_with fail
  refine (HW.out _).mono ?_
  clear c0a c1a c2a c0b c1b c2b
  rintro e w2 ⟨rfl, bb⟩
  replace bb := nextw (w0 := w1) (by exact ⟨rfl, rfl, rfl, Nat.le_refl _, fun _ _ => rfl⟩) bb
  replace B_a := Lib.hid (Box3.below B_a.out bb B_a.out.lt)
  replace B_b := Lib.hid (Box3.below B_b.out bb B_b.out.lt)
  replace HB := Lib.hid (nextw HB.out bb)
  clear bb
  have c0a := B_a.out.c0
  have c1a := B_a.out.c1
  have c2a := B_a.out.c2
  have c0b := B_b.out.c0
  have c1b := B_b.out.c1
  have c2b := B_b.out.c2
  clear c0a c1a c2a c0b c1b c2b
  go_wp2_with fail
  have c0a := B_a.out.c0
  have c1a := B_a.out.c1
  have c2a := B_a.out.c2
  have c0b := B_b.out.c0
  have c1b := B_b.out.c1
  have c2b := B_b.out.c2
  have tk1x0 : True := trivial
  go_region_held3 (fun w' => w'.cell? ⟨w.heap.size, 0, none⟩ = some (.int .i64 x) ∧ w'.cell? ⟨w.heap.size, 1, none⟩ = some (.int .i64 y) ∧ w'.cell? ⟨w.heap.size, 2, none⟩ = some (.int .i64 d) ∧ w'.cell? ⟨w.heap.size + 1, 0, none⟩ = some (.int .i64 u) ∧ w'.cell? ⟨w.heap.size + 1, 1, none⟩ = some (.int .i64 v) ∧ w'.cell? ⟨w.heap.size + 1, 2, none⟩ = some (.int .i64 f)) (((try dsimp only); (repeat' apply And.intro) <;> (first | (with_reducible assumption) | ((repeat (first | (with_reducible refine Eq.trans (cell_drew1 _ _) ?_) | (with_reducible refine Eq.trans (World.cell?_alloc_lt _ _ _ (by first | (dsimp only; omega) | (simp only [World.size_alloc, World.size_setCell]; omega))) ?_))); with_reducible assumption) | assumption | go_keep)))
    (first
      | (clear tk1x0; go_at_call 52; refine (HLa.out _).mono ?_; rintro e w3 ⟨rfl, bb⟩; replace bb := nextw (w0 := w2) (by exact ⟨rfl, rfl, rfl, Nat.le_refl _, fun _ _ => rfl⟩) bb; replace B_a := Lib.hid (Box3.below B_a.out bb B_a.out.lt); replace B_b := Lib.hid (Box3.below B_b.out bb B_b.out.lt); replace HB := Lib.hid (nextw HB.out bb); clear bb c0a c1a c2a c0b c1b c2b; have c0a := B_a.out.c0; have c1a := B_a.out.c1; have c2a := B_a.out.c2; have c0b := B_b.out.c0; have c1b := B_b.out.c1; have c2b := B_b.out.c2; have tk1x1 : True := trivial)
      | (clear tk1x1; go_at_call 52; refine (HLb.out _).mono ?_; rintro e w4 ⟨rfl, bb⟩; replace bb := nextw (w0 := w3) (by exact ⟨rfl, rfl, rfl, Nat.le_refl _, fun _ _ => rfl⟩) bb; replace B_a := Lib.hid (Box3.below B_a.out bb B_a.out.lt); replace B_b := Lib.hid (Box3.below B_b.out bb B_b.out.lt); replace HB := Lib.hid (nextw HB.out bb); clear bb c0a c1a c2a c0b c1b c2b; have c0a := B_a.out.c0; have c1a := B_a.out.c1; have c2a := B_a.out.c2; have c0b := B_b.out.c0; have c1b := B_b.out.c1; have c2b := B_b.out.c2; have tk1x2 : True := trivial))
  go_wp2_with fail
  refine (HLb.out _).mono ?_
  clear c0a c1a c2a c0b c1b c2b
  rintro e w5 ⟨rfl, bb⟩
  replace bb := nextw (w0 := w4) (by exact ⟨rfl, rfl, rfl, Nat.le_refl _, fun _ _ => rfl⟩) bb
  replace B_a := Lib.hid (Box3.below B_a.out bb B_a.out.lt)
  replace B_b := Lib.hid (Box3.below B_b.out bb B_b.out.lt)
  replace HB := Lib.hid (nextw HB.out bb)
  clear bb
  go_wp2
  go_ret
  exact ⟨rfl, nextw HB.out (by exact ⟨rfl, rfl, rfl, Nat.le_refl _, fun _ _ => rfl⟩)⟩

set_option maxRecDepth 100000 in
set_option maxHeartbeats 1000000 in
theorem RCmp_tf (a b : V3) (ha : Ok a) (hb : Ok b) (hp : lowB a = true) (hq : lowB b = false)  (w : World) :
    Calls Try.prog 27 #[vv a, vv b] w fun e w' => e = .returned (.int .i64 1) ∧ Below w.heap.size w w' := by
  have HV := Lib.hid (fun w => RValid_yes a ha w)
  have HW := Lib.hid (fun w => RValid_yes b hb w)
  have hax := ha.bx
  have hay := ha.by_
  have hbx := hb.bx
  have hby := hb.by_
  have had := ha.lo
  have had2 := ha.hi
  have hbd := hb.lo
  have hbd2 := hb.hi
  have HLa := Lib.hid (fun w => rlower_at hp w)
  have HLb := Lib.hid (fun w => rlower_at hq w)
  obtain ⟨x, y, d⟩ := a
  obtain ⟨u, v, f⟩ := b
  simp only at hax hay hbx hby had had2 hbd hbd2
  clear ha hb hp hq
  have HB := Lib.hid (show Below w.heap.size w ((w.alloc (.cells #[.int .i64 x, .int .i64 y, .int .i64 d] 24)).alloc (.cells #[.int .i64 u, .int .i64 v, .int .i64 f] 24)) from (((Below.refl _ _).alloc (by simp <;> omega) _).alloc (by simp <;> omega) _))
  have B_a : Box3 ((w.alloc (.cells #[.int .i64 x, .int .i64 y, .int .i64 d] 24)).alloc (.cells #[.int .i64 u, .int .i64 v, .int .i64 f] 24)) (w.heap.size) x y d := by have h := (Box3.alloc (Box3.new w x y d) (.cells #[.int .i64 u, .int .i64 v, .int .i64 f] 24)); simpa using h
  replace B_a := Lib.hid B_a
  have B_b : Box3 ((w.alloc (.cells #[.int .i64 x, .int .i64 y, .int .i64 d] 24)).alloc (.cells #[.int .i64 u, .int .i64 v, .int .i64 f] 24)) (w.heap.size + 1) u v f := by have h := (Box3.new (w.alloc (.cells #[.int .i64 x, .int .i64 y, .int .i64 d] 24)) u v f); simpa using h
  replace B_b := Lib.hid B_b
  go_enter Try.func27, Try.ntmps27
  go_wp2_with fail
  generalize (w.alloc (.cells #[.int .i64 x, .int .i64 y, .int .i64 d] 24)).alloc (.cells #[.int .i64 u, .int .i64 v, .int .i64 f] 24) = W0 at *
  have c0a := B_a.out.c0
  have c1a := B_a.out.c1
  have c2a := B_a.out.c2
  have c0b := B_b.out.c0
  have c1b := B_b.out.c1
  have c2b := B_b.out.c2
  refine (HV.out _).mono ?_
  clear c0a c1a c2a c0b c1b c2b
  rintro e w1 ⟨rfl, bb⟩
  replace bb := nextw (w0 := W0) (by exact ⟨rfl, rfl, rfl, Nat.le_refl _, fun _ _ => rfl⟩) bb
  replace B_a := Lib.hid (Box3.below B_a.out bb B_a.out.lt)
  replace B_b := Lib.hid (Box3.below B_b.out bb B_b.out.lt)
  replace HB := Lib.hid (nextw HB.out bb)
  clear bb
  have c0a := B_a.out.c0
  have c1a := B_a.out.c1
  have c2a := B_a.out.c2
  have c0b := B_b.out.c0
  have c1b := B_b.out.c1
  have c2b := B_b.out.c2
  go_wp2_with fail
  refine (HW.out _).mono ?_
  clear c0a c1a c2a c0b c1b c2b
  rintro e w2 ⟨rfl, bb⟩
  replace bb := nextw (w0 := w1) (by exact ⟨rfl, rfl, rfl, Nat.le_refl _, fun _ _ => rfl⟩) bb
  replace B_a := Lib.hid (Box3.below B_a.out bb B_a.out.lt)
  replace B_b := Lib.hid (Box3.below B_b.out bb B_b.out.lt)
  replace HB := Lib.hid (nextw HB.out bb)
  clear bb
  have c0a := B_a.out.c0
  have c1a := B_a.out.c1
  have c2a := B_a.out.c2
  have c0b := B_b.out.c0
  have c1b := B_b.out.c1
  have c2b := B_b.out.c2
  clear c0a c1a c2a c0b c1b c2b
  go_wp2_with fail
  have c0a := B_a.out.c0
  have c1a := B_a.out.c1
  have c2a := B_a.out.c2
  have c0b := B_b.out.c0
  have c1b := B_b.out.c1
  have c2b := B_b.out.c2
  have tk1x0 : True := trivial
  go_region_held3 (fun w' => w'.cell? ⟨w.heap.size, 0, none⟩ = some (.int .i64 x) ∧ w'.cell? ⟨w.heap.size, 1, none⟩ = some (.int .i64 y) ∧ w'.cell? ⟨w.heap.size, 2, none⟩ = some (.int .i64 d) ∧ w'.cell? ⟨w.heap.size + 1, 0, none⟩ = some (.int .i64 u) ∧ w'.cell? ⟨w.heap.size + 1, 1, none⟩ = some (.int .i64 v) ∧ w'.cell? ⟨w.heap.size + 1, 2, none⟩ = some (.int .i64 f)) (((try dsimp only); (repeat' apply And.intro) <;> (first | (with_reducible assumption) | ((repeat (first | (with_reducible refine Eq.trans (cell_drew1 _ _) ?_) | (with_reducible refine Eq.trans (World.cell?_alloc_lt _ _ _ (by first | (dsimp only; omega) | (simp only [World.size_alloc, World.size_setCell]; omega))) ?_))); with_reducible assumption) | assumption | go_keep)))
    (first
      | (clear tk1x0; go_at_call 52; refine (HLa.out _).mono ?_; rintro e w3 ⟨rfl, bb⟩; replace bb := nextw (w0 := w2) (by exact ⟨rfl, rfl, rfl, Nat.le_refl _, fun _ _ => rfl⟩) bb; replace B_a := Lib.hid (Box3.below B_a.out bb B_a.out.lt); replace B_b := Lib.hid (Box3.below B_b.out bb B_b.out.lt); replace HB := Lib.hid (nextw HB.out bb); clear bb c0a c1a c2a c0b c1b c2b; have c0a := B_a.out.c0; have c1a := B_a.out.c1; have c2a := B_a.out.c2; have c0b := B_b.out.c0; have c1b := B_b.out.c1; have c2b := B_b.out.c2; have tk1x1 : True := trivial)
      | (clear tk1x1; go_at_call 52; refine (HLb.out _).mono ?_; rintro e w4 ⟨rfl, bb⟩; replace bb := nextw (w0 := w3) (by exact ⟨rfl, rfl, rfl, Nat.le_refl _, fun _ _ => rfl⟩) bb; replace B_a := Lib.hid (Box3.below B_a.out bb B_a.out.lt); replace B_b := Lib.hid (Box3.below B_b.out bb B_b.out.lt); replace HB := Lib.hid (nextw HB.out bb); clear bb c0a c1a c2a c0b c1b c2b; have c0a := B_a.out.c0; have c1a := B_a.out.c1; have c2a := B_a.out.c2; have c0b := B_b.out.c0; have c1b := B_b.out.c1; have c2b := B_b.out.c2; have tk1x2 : True := trivial))
  go_wp2_with fail
  refine (HLb.out _).mono ?_
  clear c0a c1a c2a c0b c1b c2b
  rintro e w5 ⟨rfl, bb⟩
  replace bb := nextw (w0 := w4) (by exact ⟨rfl, rfl, rfl, Nat.le_refl _, fun _ _ => rfl⟩) bb
  replace B_a := Lib.hid (Box3.below B_a.out bb B_a.out.lt)
  replace B_b := Lib.hid (Box3.below B_b.out bb B_b.out.lt)
  replace HB := Lib.hid (nextw HB.out bb)
  clear bb
  go_wp2
  go_ret
  exact ⟨rfl, nextw HB.out (by exact ⟨rfl, rfl, rfl, Nat.le_refl _, fun _ _ => rfl⟩)⟩

set_option maxRecDepth 100000 in
set_option maxHeartbeats 1000000 in
theorem RCmp_flt (a b : V3) (ha : Ok a) (hb : Ok b) (hp : lowB a = false) (hq : lowB b = false) (hc : 0 < a.x * b.y - a.y * b.x) (w : World) :
    Calls Try.prog 27 #[vv a, vv b] w fun e w' => e = .returned (.int .i64 (-1)) ∧ Below w.heap.size w w' := by
  have HV := Lib.hid (fun w => RValid_yes a ha w)
  have HW := Lib.hid (fun w => RValid_yes b hb w)
  have hax := ha.bx
  have hay := ha.by_
  have hbx := hb.bx
  have hby := hb.by_
  have had := ha.lo
  have had2 := ha.hi
  have hbd := hb.lo
  have hbd2 := hb.hi
  have HLa := Lib.hid (fun w => rlower_at hp w)
  have HLb := Lib.hid (fun w => rlower_at hq w)
  obtain ⟨x, y, d⟩ := a
  obtain ⟨u, v, f⟩ := b
  simp only at hax hay hbx hby had had2 hbd hbd2 hc
  clear ha hb hp hq
  have m1 := mul_bound (a := y) (b := u) (by omega) (by omega) (by omega) (by omega)
  have m2 := mul_bound (a := x) (b := v) (by omega) (by omega) (by omega) (by omega)
  have HB := Lib.hid (show Below w.heap.size w ((w.alloc (.cells #[.int .i64 x, .int .i64 y, .int .i64 d] 24)).alloc (.cells #[.int .i64 u, .int .i64 v, .int .i64 f] 24)) from (((Below.refl _ _).alloc (by simp <;> omega) _).alloc (by simp <;> omega) _))
  have B_a : Box3 ((w.alloc (.cells #[.int .i64 x, .int .i64 y, .int .i64 d] 24)).alloc (.cells #[.int .i64 u, .int .i64 v, .int .i64 f] 24)) (w.heap.size) x y d := by have h := (Box3.alloc (Box3.new w x y d) (.cells #[.int .i64 u, .int .i64 v, .int .i64 f] 24)); simpa using h
  replace B_a := Lib.hid B_a
  have B_b : Box3 ((w.alloc (.cells #[.int .i64 x, .int .i64 y, .int .i64 d] 24)).alloc (.cells #[.int .i64 u, .int .i64 v, .int .i64 f] 24)) (w.heap.size + 1) u v f := by have h := (Box3.new (w.alloc (.cells #[.int .i64 x, .int .i64 y, .int .i64 d] 24)) u v f); simpa using h
  replace B_b := Lib.hid B_b
  go_enter Try.func27, Try.ntmps27
  go_wp2_with fail
  generalize (w.alloc (.cells #[.int .i64 x, .int .i64 y, .int .i64 d] 24)).alloc (.cells #[.int .i64 u, .int .i64 v, .int .i64 f] 24) = W0 at *
  have c0a := B_a.out.c0
  have c1a := B_a.out.c1
  have c2a := B_a.out.c2
  have c0b := B_b.out.c0
  have c1b := B_b.out.c1
  have c2b := B_b.out.c2
  refine (HV.out _).mono ?_
  clear c0a c1a c2a c0b c1b c2b
  rintro e w1 ⟨rfl, bb⟩
  replace bb := nextw (w0 := W0) (by exact ⟨rfl, rfl, rfl, Nat.le_refl _, fun _ _ => rfl⟩) bb
  replace B_a := Lib.hid (Box3.below B_a.out bb B_a.out.lt)
  replace B_b := Lib.hid (Box3.below B_b.out bb B_b.out.lt)
  replace HB := Lib.hid (nextw HB.out bb)
  clear bb
  have c0a := B_a.out.c0
  have c1a := B_a.out.c1
  have c2a := B_a.out.c2
  have c0b := B_b.out.c0
  have c1b := B_b.out.c1
  have c2b := B_b.out.c2
  go_wp2_with fail
  refine (HW.out _).mono ?_
  clear c0a c1a c2a c0b c1b c2b
  rintro e w2 ⟨rfl, bb⟩
  replace bb := nextw (w0 := w1) (by exact ⟨rfl, rfl, rfl, Nat.le_refl _, fun _ _ => rfl⟩) bb
  replace B_a := Lib.hid (Box3.below B_a.out bb B_a.out.lt)
  replace B_b := Lib.hid (Box3.below B_b.out bb B_b.out.lt)
  replace HB := Lib.hid (nextw HB.out bb)
  clear bb
  have c0a := B_a.out.c0
  have c1a := B_a.out.c1
  have c2a := B_a.out.c2
  have c0b := B_b.out.c0
  have c1b := B_b.out.c1
  have c2b := B_b.out.c2
  clear c0a c1a c2a c0b c1b c2b
  go_wp2_with fail
  have c0a := B_a.out.c0
  have c1a := B_a.out.c1
  have c2a := B_a.out.c2
  have c0b := B_b.out.c0
  have c1b := B_b.out.c1
  have c2b := B_b.out.c2
  have tk1x0 : True := trivial
  go_region_held3 (fun w' => w'.cell? ⟨w.heap.size, 0, none⟩ = some (.int .i64 x) ∧ w'.cell? ⟨w.heap.size, 1, none⟩ = some (.int .i64 y) ∧ w'.cell? ⟨w.heap.size, 2, none⟩ = some (.int .i64 d) ∧ w'.cell? ⟨w.heap.size + 1, 0, none⟩ = some (.int .i64 u) ∧ w'.cell? ⟨w.heap.size + 1, 1, none⟩ = some (.int .i64 v) ∧ w'.cell? ⟨w.heap.size + 1, 2, none⟩ = some (.int .i64 f)) (((try dsimp only); (repeat' apply And.intro) <;> (first | (with_reducible assumption) | ((repeat (first | (with_reducible refine Eq.trans (cell_drew1 _ _) ?_) | (with_reducible refine Eq.trans (World.cell?_alloc_lt _ _ _ (by first | (dsimp only; omega) | (simp only [World.size_alloc, World.size_setCell]; omega))) ?_))); with_reducible assumption) | assumption | go_keep)))
    (first
      | (clear tk1x0; go_at_call 52; refine (HLa.out _).mono ?_; rintro e w3 ⟨rfl, bb⟩; replace bb := nextw (w0 := w2) (by exact ⟨rfl, rfl, rfl, Nat.le_refl _, fun _ _ => rfl⟩) bb; replace B_a := Lib.hid (Box3.below B_a.out bb B_a.out.lt); replace B_b := Lib.hid (Box3.below B_b.out bb B_b.out.lt); replace HB := Lib.hid (nextw HB.out bb); clear bb c0a c1a c2a c0b c1b c2b; have c0a := B_a.out.c0; have c1a := B_a.out.c1; have c2a := B_a.out.c2; have c0b := B_b.out.c0; have c1b := B_b.out.c1; have c2b := B_b.out.c2; have tk1x1 : True := trivial)
      | (clear tk1x1; go_at_call 52; refine (HLb.out _).mono ?_; rintro e w4 ⟨rfl, bb⟩; replace bb := nextw (w0 := w3) (by exact ⟨rfl, rfl, rfl, Nat.le_refl _, fun _ _ => rfl⟩) bb; replace B_a := Lib.hid (Box3.below B_a.out bb B_a.out.lt); replace B_b := Lib.hid (Box3.below B_b.out bb B_b.out.lt); replace HB := Lib.hid (nextw HB.out bb); clear bb c0a c1a c2a c0b c1b c2b; have c0a := B_a.out.c0; have c1a := B_a.out.c1; have c2a := B_a.out.c2; have c0b := B_b.out.c0; have c1b := B_b.out.c1; have c2b := B_b.out.c2; have tk1x2 : True := trivial))
  clear c0a c1a c2a c0b c1b c2b
  have c0a := B_a.out.c0
  have c1a := B_a.out.c1
  have c2a := B_a.out.c2
  have c0b := B_b.out.c0
  have c1b := B_b.out.c1
  have c2b := B_b.out.c2
  go_wp2
  go_ret
  exact ⟨rfl, nextw HB.out (by exact ⟨rfl, rfl, rfl, Nat.le_refl _, fun _ _ => rfl⟩)⟩

set_option maxRecDepth 100000 in
set_option maxHeartbeats 1000000 in
theorem RCmp_tlt (a b : V3) (ha : Ok a) (hb : Ok b) (hp : lowB a = true) (hq : lowB b = true) (hc : 0 < a.x * b.y - a.y * b.x) (w : World) :
    Calls Try.prog 27 #[vv a, vv b] w fun e w' => e = .returned (.int .i64 (-1)) ∧ Below w.heap.size w w' := by
  have HV := Lib.hid (fun w => RValid_yes a ha w)
  have HW := Lib.hid (fun w => RValid_yes b hb w)
  have hax := ha.bx
  have hay := ha.by_
  have hbx := hb.bx
  have hby := hb.by_
  have had := ha.lo
  have had2 := ha.hi
  have hbd := hb.lo
  have hbd2 := hb.hi
  have HLa := Lib.hid (fun w => rlower_at hp w)
  have HLb := Lib.hid (fun w => rlower_at hq w)
  obtain ⟨x, y, d⟩ := a
  obtain ⟨u, v, f⟩ := b
  simp only at hax hay hbx hby had had2 hbd hbd2 hc
  clear ha hb hp hq
  have m1 := mul_bound (a := y) (b := u) (by omega) (by omega) (by omega) (by omega)
  have m2 := mul_bound (a := x) (b := v) (by omega) (by omega) (by omega) (by omega)
  have HB := Lib.hid (show Below w.heap.size w ((w.alloc (.cells #[.int .i64 x, .int .i64 y, .int .i64 d] 24)).alloc (.cells #[.int .i64 u, .int .i64 v, .int .i64 f] 24)) from (((Below.refl _ _).alloc (by simp <;> omega) _).alloc (by simp <;> omega) _))
  have B_a : Box3 ((w.alloc (.cells #[.int .i64 x, .int .i64 y, .int .i64 d] 24)).alloc (.cells #[.int .i64 u, .int .i64 v, .int .i64 f] 24)) (w.heap.size) x y d := by have h := (Box3.alloc (Box3.new w x y d) (.cells #[.int .i64 u, .int .i64 v, .int .i64 f] 24)); simpa using h
  replace B_a := Lib.hid B_a
  have B_b : Box3 ((w.alloc (.cells #[.int .i64 x, .int .i64 y, .int .i64 d] 24)).alloc (.cells #[.int .i64 u, .int .i64 v, .int .i64 f] 24)) (w.heap.size + 1) u v f := by have h := (Box3.new (w.alloc (.cells #[.int .i64 x, .int .i64 y, .int .i64 d] 24)) u v f); simpa using h
  replace B_b := Lib.hid B_b
  go_enter Try.func27, Try.ntmps27
  go_wp2_with fail
  generalize (w.alloc (.cells #[.int .i64 x, .int .i64 y, .int .i64 d] 24)).alloc (.cells #[.int .i64 u, .int .i64 v, .int .i64 f] 24) = W0 at *
  have c0a := B_a.out.c0
  have c1a := B_a.out.c1
  have c2a := B_a.out.c2
  have c0b := B_b.out.c0
  have c1b := B_b.out.c1
  have c2b := B_b.out.c2
  refine (HV.out _).mono ?_
  clear c0a c1a c2a c0b c1b c2b
  rintro e w1 ⟨rfl, bb⟩
  replace bb := nextw (w0 := W0) (by exact ⟨rfl, rfl, rfl, Nat.le_refl _, fun _ _ => rfl⟩) bb
  replace B_a := Lib.hid (Box3.below B_a.out bb B_a.out.lt)
  replace B_b := Lib.hid (Box3.below B_b.out bb B_b.out.lt)
  replace HB := Lib.hid (nextw HB.out bb)
  clear bb
  have c0a := B_a.out.c0
  have c1a := B_a.out.c1
  have c2a := B_a.out.c2
  have c0b := B_b.out.c0
  have c1b := B_b.out.c1
  have c2b := B_b.out.c2
  go_wp2_with fail
  refine (HW.out _).mono ?_
  clear c0a c1a c2a c0b c1b c2b
  rintro e w2 ⟨rfl, bb⟩
  replace bb := nextw (w0 := w1) (by exact ⟨rfl, rfl, rfl, Nat.le_refl _, fun _ _ => rfl⟩) bb
  replace B_a := Lib.hid (Box3.below B_a.out bb B_a.out.lt)
  replace B_b := Lib.hid (Box3.below B_b.out bb B_b.out.lt)
  replace HB := Lib.hid (nextw HB.out bb)
  clear bb
  have c0a := B_a.out.c0
  have c1a := B_a.out.c1
  have c2a := B_a.out.c2
  have c0b := B_b.out.c0
  have c1b := B_b.out.c1
  have c2b := B_b.out.c2
  clear c0a c1a c2a c0b c1b c2b
  go_wp2_with fail
  have c0a := B_a.out.c0
  have c1a := B_a.out.c1
  have c2a := B_a.out.c2
  have c0b := B_b.out.c0
  have c1b := B_b.out.c1
  have c2b := B_b.out.c2
  have tk1x0 : True := trivial
  go_region_held3 (fun w' => w'.cell? ⟨w.heap.size, 0, none⟩ = some (.int .i64 x) ∧ w'.cell? ⟨w.heap.size, 1, none⟩ = some (.int .i64 y) ∧ w'.cell? ⟨w.heap.size, 2, none⟩ = some (.int .i64 d) ∧ w'.cell? ⟨w.heap.size + 1, 0, none⟩ = some (.int .i64 u) ∧ w'.cell? ⟨w.heap.size + 1, 1, none⟩ = some (.int .i64 v) ∧ w'.cell? ⟨w.heap.size + 1, 2, none⟩ = some (.int .i64 f)) (((try dsimp only); (repeat' apply And.intro) <;> (first | (with_reducible assumption) | ((repeat (first | (with_reducible refine Eq.trans (cell_drew1 _ _) ?_) | (with_reducible refine Eq.trans (World.cell?_alloc_lt _ _ _ (by first | (dsimp only; omega) | (simp only [World.size_alloc, World.size_setCell]; omega))) ?_))); with_reducible assumption) | assumption | go_keep)))
    (first
      | (clear tk1x0; go_at_call 52; refine (HLa.out _).mono ?_; rintro e w3 ⟨rfl, bb⟩; replace bb := nextw (w0 := w2) (by exact ⟨rfl, rfl, rfl, Nat.le_refl _, fun _ _ => rfl⟩) bb; replace B_a := Lib.hid (Box3.below B_a.out bb B_a.out.lt); replace B_b := Lib.hid (Box3.below B_b.out bb B_b.out.lt); replace HB := Lib.hid (nextw HB.out bb); clear bb c0a c1a c2a c0b c1b c2b; have c0a := B_a.out.c0; have c1a := B_a.out.c1; have c2a := B_a.out.c2; have c0b := B_b.out.c0; have c1b := B_b.out.c1; have c2b := B_b.out.c2; have tk1x1 : True := trivial)
      | (clear tk1x1; go_at_call 52; refine (HLb.out _).mono ?_; rintro e w4 ⟨rfl, bb⟩; replace bb := nextw (w0 := w3) (by exact ⟨rfl, rfl, rfl, Nat.le_refl _, fun _ _ => rfl⟩) bb; replace B_a := Lib.hid (Box3.below B_a.out bb B_a.out.lt); replace B_b := Lib.hid (Box3.below B_b.out bb B_b.out.lt); replace HB := Lib.hid (nextw HB.out bb); clear bb c0a c1a c2a c0b c1b c2b; have c0a := B_a.out.c0; have c1a := B_a.out.c1; have c2a := B_a.out.c2; have c0b := B_b.out.c0; have c1b := B_b.out.c1; have c2b := B_b.out.c2; have tk1x2 : True := trivial))
  clear c0a c1a c2a c0b c1b c2b
  have c0a := B_a.out.c0
  have c1a := B_a.out.c1
  have c2a := B_a.out.c2
  have c0b := B_b.out.c0
  have c1b := B_b.out.c1
  have c2b := B_b.out.c2
  go_wp2
  go_ret
  exact ⟨rfl, nextw HB.out (by exact ⟨rfl, rfl, rfl, Nat.le_refl _, fun _ _ => rfl⟩)⟩

set_option maxRecDepth 100000 in
set_option maxHeartbeats 1000000 in
theorem RCmp_fgt (a b : V3) (ha : Ok a) (hb : Ok b) (hp : lowB a = false) (hq : lowB b = false) (hc : a.x * b.y - a.y * b.x < 0) (w : World) :
    Calls Try.prog 27 #[vv a, vv b] w fun e w' => e = .returned (.int .i64 1) ∧ Below w.heap.size w w' := by
  have HV := Lib.hid (fun w => RValid_yes a ha w)
  have HW := Lib.hid (fun w => RValid_yes b hb w)
  have hax := ha.bx
  have hay := ha.by_
  have hbx := hb.bx
  have hby := hb.by_
  have had := ha.lo
  have had2 := ha.hi
  have hbd := hb.lo
  have hbd2 := hb.hi
  have HLa := Lib.hid (fun w => rlower_at hp w)
  have HLb := Lib.hid (fun w => rlower_at hq w)
  obtain ⟨x, y, d⟩ := a
  obtain ⟨u, v, f⟩ := b
  simp only at hax hay hbx hby had had2 hbd hbd2 hc
  clear ha hb hp hq
  have m1 := mul_bound (a := y) (b := u) (by omega) (by omega) (by omega) (by omega)
  have m2 := mul_bound (a := x) (b := v) (by omega) (by omega) (by omega) (by omega)
  have HB := Lib.hid (show Below w.heap.size w ((w.alloc (.cells #[.int .i64 x, .int .i64 y, .int .i64 d] 24)).alloc (.cells #[.int .i64 u, .int .i64 v, .int .i64 f] 24)) from (((Below.refl _ _).alloc (by simp <;> omega) _).alloc (by simp <;> omega) _))
  have B_a : Box3 ((w.alloc (.cells #[.int .i64 x, .int .i64 y, .int .i64 d] 24)).alloc (.cells #[.int .i64 u, .int .i64 v, .int .i64 f] 24)) (w.heap.size) x y d := by have h := (Box3.alloc (Box3.new w x y d) (.cells #[.int .i64 u, .int .i64 v, .int .i64 f] 24)); simpa using h
  replace B_a := Lib.hid B_a
  have B_b : Box3 ((w.alloc (.cells #[.int .i64 x, .int .i64 y, .int .i64 d] 24)).alloc (.cells #[.int .i64 u, .int .i64 v, .int .i64 f] 24)) (w.heap.size + 1) u v f := by have h := (Box3.new (w.alloc (.cells #[.int .i64 x, .int .i64 y, .int .i64 d] 24)) u v f); simpa using h
  replace B_b := Lib.hid B_b
  go_enter Try.func27, Try.ntmps27
  go_wp2_with fail
  generalize (w.alloc (.cells #[.int .i64 x, .int .i64 y, .int .i64 d] 24)).alloc (.cells #[.int .i64 u, .int .i64 v, .int .i64 f] 24) = W0 at *
  have c0a := B_a.out.c0
  have c1a := B_a.out.c1
  have c2a := B_a.out.c2
  have c0b := B_b.out.c0
  have c1b := B_b.out.c1
  have c2b := B_b.out.c2
  refine (HV.out _).mono ?_
  clear c0a c1a c2a c0b c1b c2b
  rintro e w1 ⟨rfl, bb⟩
  replace bb := nextw (w0 := W0) (by exact ⟨rfl, rfl, rfl, Nat.le_refl _, fun _ _ => rfl⟩) bb
  replace B_a := Lib.hid (Box3.below B_a.out bb B_a.out.lt)
  replace B_b := Lib.hid (Box3.below B_b.out bb B_b.out.lt)
  replace HB := Lib.hid (nextw HB.out bb)
  clear bb
  have c0a := B_a.out.c0
  have c1a := B_a.out.c1
  have c2a := B_a.out.c2
  have c0b := B_b.out.c0
  have c1b := B_b.out.c1
  have c2b := B_b.out.c2
  go_wp2_with fail
  refine (HW.out _).mono ?_
  clear c0a c1a c2a c0b c1b c2b
  rintro e w2 ⟨rfl, bb⟩
  replace bb := nextw (w0 := w1) (by exact ⟨rfl, rfl, rfl, Nat.le_refl _, fun _ _ => rfl⟩) bb
  replace B_a := Lib.hid (Box3.below B_a.out bb B_a.out.lt)
  replace B_b := Lib.hid (Box3.below B_b.out bb B_b.out.lt)
  replace HB := Lib.hid (nextw HB.out bb)
  clear bb
  have c0a := B_a.out.c0
  have c1a := B_a.out.c1
  have c2a := B_a.out.c2
  have c0b := B_b.out.c0
  have c1b := B_b.out.c1
  have c2b := B_b.out.c2
  clear c0a c1a c2a c0b c1b c2b
  go_wp2_with fail
  have c0a := B_a.out.c0
  have c1a := B_a.out.c1
  have c2a := B_a.out.c2
  have c0b := B_b.out.c0
  have c1b := B_b.out.c1
  have c2b := B_b.out.c2
  have tk1x0 : True := trivial
  go_region_held3 (fun w' => w'.cell? ⟨w.heap.size, 0, none⟩ = some (.int .i64 x) ∧ w'.cell? ⟨w.heap.size, 1, none⟩ = some (.int .i64 y) ∧ w'.cell? ⟨w.heap.size, 2, none⟩ = some (.int .i64 d) ∧ w'.cell? ⟨w.heap.size + 1, 0, none⟩ = some (.int .i64 u) ∧ w'.cell? ⟨w.heap.size + 1, 1, none⟩ = some (.int .i64 v) ∧ w'.cell? ⟨w.heap.size + 1, 2, none⟩ = some (.int .i64 f)) (((try dsimp only); (repeat' apply And.intro) <;> (first | (with_reducible assumption) | ((repeat (first | (with_reducible refine Eq.trans (cell_drew1 _ _) ?_) | (with_reducible refine Eq.trans (World.cell?_alloc_lt _ _ _ (by first | (dsimp only; omega) | (simp only [World.size_alloc, World.size_setCell]; omega))) ?_))); with_reducible assumption) | assumption | go_keep)))
    (first
      | (clear tk1x0; go_at_call 52; refine (HLa.out _).mono ?_; rintro e w3 ⟨rfl, bb⟩; replace bb := nextw (w0 := w2) (by exact ⟨rfl, rfl, rfl, Nat.le_refl _, fun _ _ => rfl⟩) bb; replace B_a := Lib.hid (Box3.below B_a.out bb B_a.out.lt); replace B_b := Lib.hid (Box3.below B_b.out bb B_b.out.lt); replace HB := Lib.hid (nextw HB.out bb); clear bb c0a c1a c2a c0b c1b c2b; have c0a := B_a.out.c0; have c1a := B_a.out.c1; have c2a := B_a.out.c2; have c0b := B_b.out.c0; have c1b := B_b.out.c1; have c2b := B_b.out.c2; have tk1x1 : True := trivial)
      | (clear tk1x1; go_at_call 52; refine (HLb.out _).mono ?_; rintro e w4 ⟨rfl, bb⟩; replace bb := nextw (w0 := w3) (by exact ⟨rfl, rfl, rfl, Nat.le_refl _, fun _ _ => rfl⟩) bb; replace B_a := Lib.hid (Box3.below B_a.out bb B_a.out.lt); replace B_b := Lib.hid (Box3.below B_b.out bb B_b.out.lt); replace HB := Lib.hid (nextw HB.out bb); clear bb c0a c1a c2a c0b c1b c2b; have c0a := B_a.out.c0; have c1a := B_a.out.c1; have c2a := B_a.out.c2; have c0b := B_b.out.c0; have c1b := B_b.out.c1; have c2b := B_b.out.c2; have tk1x2 : True := trivial))
  clear c0a c1a c2a c0b c1b c2b
  have c0a := B_a.out.c0
  have c1a := B_a.out.c1
  have c2a := B_a.out.c2
  have c0b := B_b.out.c0
  have c1b := B_b.out.c1
  have c2b := B_b.out.c2
  go_wp2
  go_ret
  exact ⟨rfl, nextw HB.out (by exact ⟨rfl, rfl, rfl, Nat.le_refl _, fun _ _ => rfl⟩)⟩

set_option maxRecDepth 100000 in
set_option maxHeartbeats 1000000 in
theorem RCmp_tgt (a b : V3) (ha : Ok a) (hb : Ok b) (hp : lowB a = true) (hq : lowB b = true) (hc : a.x * b.y - a.y * b.x < 0) (w : World) :
    Calls Try.prog 27 #[vv a, vv b] w fun e w' => e = .returned (.int .i64 1) ∧ Below w.heap.size w w' := by
  have HV := Lib.hid (fun w => RValid_yes a ha w)
  have HW := Lib.hid (fun w => RValid_yes b hb w)
  have hax := ha.bx
  have hay := ha.by_
  have hbx := hb.bx
  have hby := hb.by_
  have had := ha.lo
  have had2 := ha.hi
  have hbd := hb.lo
  have hbd2 := hb.hi
  have HLa := Lib.hid (fun w => rlower_at hp w)
  have HLb := Lib.hid (fun w => rlower_at hq w)
  obtain ⟨x, y, d⟩ := a
  obtain ⟨u, v, f⟩ := b
  simp only at hax hay hbx hby had had2 hbd hbd2 hc
  clear ha hb hp hq
  have m1 := mul_bound (a := y) (b := u) (by omega) (by omega) (by omega) (by omega)
  have m2 := mul_bound (a := x) (b := v) (by omega) (by omega) (by omega) (by omega)
  have HB := Lib.hid (show Below w.heap.size w ((w.alloc (.cells #[.int .i64 x, .int .i64 y, .int .i64 d] 24)).alloc (.cells #[.int .i64 u, .int .i64 v, .int .i64 f] 24)) from (((Below.refl _ _).alloc (by simp <;> omega) _).alloc (by simp <;> omega) _))
  have B_a : Box3 ((w.alloc (.cells #[.int .i64 x, .int .i64 y, .int .i64 d] 24)).alloc (.cells #[.int .i64 u, .int .i64 v, .int .i64 f] 24)) (w.heap.size) x y d := by have h := (Box3.alloc (Box3.new w x y d) (.cells #[.int .i64 u, .int .i64 v, .int .i64 f] 24)); simpa using h
  replace B_a := Lib.hid B_a
  have B_b : Box3 ((w.alloc (.cells #[.int .i64 x, .int .i64 y, .int .i64 d] 24)).alloc (.cells #[.int .i64 u, .int .i64 v, .int .i64 f] 24)) (w.heap.size + 1) u v f := by have h := (Box3.new (w.alloc (.cells #[.int .i64 x, .int .i64 y, .int .i64 d] 24)) u v f); simpa using h
  replace B_b := Lib.hid B_b
  go_enter Try.func27, Try.ntmps27
  go_wp2_with fail
  generalize (w.alloc (.cells #[.int .i64 x, .int .i64 y, .int .i64 d] 24)).alloc (.cells #[.int .i64 u, .int .i64 v, .int .i64 f] 24) = W0 at *
  have c0a := B_a.out.c0
  have c1a := B_a.out.c1
  have c2a := B_a.out.c2
  have c0b := B_b.out.c0
  have c1b := B_b.out.c1
  have c2b := B_b.out.c2
  refine (HV.out _).mono ?_
  clear c0a c1a c2a c0b c1b c2b
  rintro e w1 ⟨rfl, bb⟩
  replace bb := nextw (w0 := W0) (by exact ⟨rfl, rfl, rfl, Nat.le_refl _, fun _ _ => rfl⟩) bb
  replace B_a := Lib.hid (Box3.below B_a.out bb B_a.out.lt)
  replace B_b := Lib.hid (Box3.below B_b.out bb B_b.out.lt)
  replace HB := Lib.hid (nextw HB.out bb)
  clear bb
  have c0a := B_a.out.c0
  have c1a := B_a.out.c1
  have c2a := B_a.out.c2
  have c0b := B_b.out.c0
  have c1b := B_b.out.c1
  have c2b := B_b.out.c2
  go_wp2_with fail
  refine (HW.out _).mono ?_
  clear c0a c1a c2a c0b c1b c2b
  rintro e w2 ⟨rfl, bb⟩
  replace bb := nextw (w0 := w1) (by exact ⟨rfl, rfl, rfl, Nat.le_refl _, fun _ _ => rfl⟩) bb
  replace B_a := Lib.hid (Box3.below B_a.out bb B_a.out.lt)
  replace B_b := Lib.hid (Box3.below B_b.out bb B_b.out.lt)
  replace HB := Lib.hid (nextw HB.out bb)
  clear bb
  have c0a := B_a.out.c0
  have c1a := B_a.out.c1
  have c2a := B_a.out.c2
  have c0b := B_b.out.c0
  have c1b := B_b.out.c1
  have c2b := B_b.out.c2
  clear c0a c1a c2a c0b c1b c2b
  go_wp2_with fail
  have c0a := B_a.out.c0
  have c1a := B_a.out.c1
  have c2a := B_a.out.c2
  have c0b := B_b.out.c0
  have c1b := B_b.out.c1
  have c2b := B_b.out.c2
  have tk1x0 : True := trivial
  go_region_held3 (fun w' => w'.cell? ⟨w.heap.size, 0, none⟩ = some (.int .i64 x) ∧ w'.cell? ⟨w.heap.size, 1, none⟩ = some (.int .i64 y) ∧ w'.cell? ⟨w.heap.size, 2, none⟩ = some (.int .i64 d) ∧ w'.cell? ⟨w.heap.size + 1, 0, none⟩ = some (.int .i64 u) ∧ w'.cell? ⟨w.heap.size + 1, 1, none⟩ = some (.int .i64 v) ∧ w'.cell? ⟨w.heap.size + 1, 2, none⟩ = some (.int .i64 f)) (((try dsimp only); (repeat' apply And.intro) <;> (first | (with_reducible assumption) | ((repeat (first | (with_reducible refine Eq.trans (cell_drew1 _ _) ?_) | (with_reducible refine Eq.trans (World.cell?_alloc_lt _ _ _ (by first | (dsimp only; omega) | (simp only [World.size_alloc, World.size_setCell]; omega))) ?_))); with_reducible assumption) | assumption | go_keep)))
    (first
      | (clear tk1x0; go_at_call 52; refine (HLa.out _).mono ?_; rintro e w3 ⟨rfl, bb⟩; replace bb := nextw (w0 := w2) (by exact ⟨rfl, rfl, rfl, Nat.le_refl _, fun _ _ => rfl⟩) bb; replace B_a := Lib.hid (Box3.below B_a.out bb B_a.out.lt); replace B_b := Lib.hid (Box3.below B_b.out bb B_b.out.lt); replace HB := Lib.hid (nextw HB.out bb); clear bb c0a c1a c2a c0b c1b c2b; have c0a := B_a.out.c0; have c1a := B_a.out.c1; have c2a := B_a.out.c2; have c0b := B_b.out.c0; have c1b := B_b.out.c1; have c2b := B_b.out.c2; have tk1x1 : True := trivial)
      | (clear tk1x1; go_at_call 52; refine (HLb.out _).mono ?_; rintro e w4 ⟨rfl, bb⟩; replace bb := nextw (w0 := w3) (by exact ⟨rfl, rfl, rfl, Nat.le_refl _, fun _ _ => rfl⟩) bb; replace B_a := Lib.hid (Box3.below B_a.out bb B_a.out.lt); replace B_b := Lib.hid (Box3.below B_b.out bb B_b.out.lt); replace HB := Lib.hid (nextw HB.out bb); clear bb c0a c1a c2a c0b c1b c2b; have c0a := B_a.out.c0; have c1a := B_a.out.c1; have c2a := B_a.out.c2; have c0b := B_b.out.c0; have c1b := B_b.out.c1; have c2b := B_b.out.c2; have tk1x2 : True := trivial))
  clear c0a c1a c2a c0b c1b c2b
  have c0a := B_a.out.c0
  have c1a := B_a.out.c1
  have c2a := B_a.out.c2
  have c0b := B_b.out.c0
  have c1b := B_b.out.c1
  have c2b := B_b.out.c2
  go_wp2
  go_ret
  exact ⟨rfl, nextw HB.out (by exact ⟨rfl, rfl, rfl, Nat.le_refl _, fun _ _ => rfl⟩)⟩

set_option maxRecDepth 100000 in
set_option maxHeartbeats 1000000 in
theorem RCmp_feq (a b : V3) (ha : Ok a) (hb : Ok b) (hp : lowB a = false) (hq : lowB b = false) (hc : a.x * b.y = a.y * b.x) (w : World) :
    Calls Try.prog 27 #[vv a, vv b] w fun e w' => e = .returned (.int .i64 0) ∧ Below w.heap.size w w' := by
  have HV := Lib.hid (fun w => RValid_yes a ha w)
  have HW := Lib.hid (fun w => RValid_yes b hb w)
  have hax := ha.bx
  have hay := ha.by_
  have hbx := hb.bx
  have hby := hb.by_
  have had := ha.lo
  have had2 := ha.hi
  have hbd := hb.lo
  have hbd2 := hb.hi
  have HLa := Lib.hid (fun w => rlower_at hp w)
  have HLb := Lib.hid (fun w => rlower_at hq w)
  obtain ⟨x, y, d⟩ := a
  obtain ⟨u, v, f⟩ := b
  simp only at hax hay hbx hby had had2 hbd hbd2 hc
  clear ha hb hp hq
  have m1 := mul_bound (a := y) (b := u) (by omega) (by omega) (by omega) (by omega)
  have m2 := mul_bound (a := x) (b := v) (by omega) (by omega) (by omega) (by omega)
  have e0 : x * v - y * u = 0 := by omega
  have HB := Lib.hid (show Below w.heap.size w ((w.alloc (.cells #[.int .i64 x, .int .i64 y, .int .i64 d] 24)).alloc (.cells #[.int .i64 u, .int .i64 v, .int .i64 f] 24)) from (((Below.refl _ _).alloc (by simp <;> omega) _).alloc (by simp <;> omega) _))
  have B_a : Box3 ((w.alloc (.cells #[.int .i64 x, .int .i64 y, .int .i64 d] 24)).alloc (.cells #[.int .i64 u, .int .i64 v, .int .i64 f] 24)) (w.heap.size) x y d := by have h := (Box3.alloc (Box3.new w x y d) (.cells #[.int .i64 u, .int .i64 v, .int .i64 f] 24)); simpa using h
  replace B_a := Lib.hid B_a
  have B_b : Box3 ((w.alloc (.cells #[.int .i64 x, .int .i64 y, .int .i64 d] 24)).alloc (.cells #[.int .i64 u, .int .i64 v, .int .i64 f] 24)) (w.heap.size + 1) u v f := by have h := (Box3.new (w.alloc (.cells #[.int .i64 x, .int .i64 y, .int .i64 d] 24)) u v f); simpa using h
  replace B_b := Lib.hid B_b
  go_enter Try.func27, Try.ntmps27
  go_wp2_with fail
  generalize (w.alloc (.cells #[.int .i64 x, .int .i64 y, .int .i64 d] 24)).alloc (.cells #[.int .i64 u, .int .i64 v, .int .i64 f] 24) = W0 at *
  have c0a := B_a.out.c0
  have c1a := B_a.out.c1
  have c2a := B_a.out.c2
  have c0b := B_b.out.c0
  have c1b := B_b.out.c1
  have c2b := B_b.out.c2
  refine (HV.out _).mono ?_
  clear c0a c1a c2a c0b c1b c2b
  rintro e w1 ⟨rfl, bb⟩
  replace bb := nextw (w0 := W0) (by exact ⟨rfl, rfl, rfl, Nat.le_refl _, fun _ _ => rfl⟩) bb
  replace B_a := Lib.hid (Box3.below B_a.out bb B_a.out.lt)
  replace B_b := Lib.hid (Box3.below B_b.out bb B_b.out.lt)
  replace HB := Lib.hid (nextw HB.out bb)
  clear bb
  have c0a := B_a.out.c0
  have c1a := B_a.out.c1
  have c2a := B_a.out.c2
  have c0b := B_b.out.c0
  have c1b := B_b.out.c1
  have c2b := B_b.out.c2
  go_wp2_with fail
  refine (HW.out _).mono ?_
  clear c0a c1a c2a c0b c1b c2b
  rintro e w2 ⟨rfl, bb⟩
  replace bb := nextw (w0 := w1) (by exact ⟨rfl, rfl, rfl, Nat.le_refl _, fun _ _ => rfl⟩) bb
  replace B_a := Lib.hid (Box3.below B_a.out bb B_a.out.lt)
  replace B_b := Lib.hid (Box3.below B_b.out bb B_b.out.lt)
  replace HB := Lib.hid (nextw HB.out bb)
  clear bb
  have c0a := B_a.out.c0
  have c1a := B_a.out.c1
  have c2a := B_a.out.c2
  have c0b := B_b.out.c0
  have c1b := B_b.out.c1
  have c2b := B_b.out.c2
  clear c0a c1a c2a c0b c1b c2b
  go_wp2_with fail
  have c0a := B_a.out.c0
  have c1a := B_a.out.c1
  have c2a := B_a.out.c2
  have c0b := B_b.out.c0
  have c1b := B_b.out.c1
  have c2b := B_b.out.c2
  have tk1x0 : True := trivial
  go_region_held3 (fun w' => w'.cell? ⟨w.heap.size, 0, none⟩ = some (.int .i64 x) ∧ w'.cell? ⟨w.heap.size, 1, none⟩ = some (.int .i64 y) ∧ w'.cell? ⟨w.heap.size, 2, none⟩ = some (.int .i64 d) ∧ w'.cell? ⟨w.heap.size + 1, 0, none⟩ = some (.int .i64 u) ∧ w'.cell? ⟨w.heap.size + 1, 1, none⟩ = some (.int .i64 v) ∧ w'.cell? ⟨w.heap.size + 1, 2, none⟩ = some (.int .i64 f)) (((try dsimp only); (repeat' apply And.intro) <;> (first | (with_reducible assumption) | ((repeat (first | (with_reducible refine Eq.trans (cell_drew1 _ _) ?_) | (with_reducible refine Eq.trans (World.cell?_alloc_lt _ _ _ (by first | (dsimp only; omega) | (simp only [World.size_alloc, World.size_setCell]; omega))) ?_))); with_reducible assumption) | assumption | go_keep)))
    (first
      | (clear tk1x0; go_at_call 52; refine (HLa.out _).mono ?_; rintro e w3 ⟨rfl, bb⟩; replace bb := nextw (w0 := w2) (by exact ⟨rfl, rfl, rfl, Nat.le_refl _, fun _ _ => rfl⟩) bb; replace B_a := Lib.hid (Box3.below B_a.out bb B_a.out.lt); replace B_b := Lib.hid (Box3.below B_b.out bb B_b.out.lt); replace HB := Lib.hid (nextw HB.out bb); clear bb c0a c1a c2a c0b c1b c2b; have c0a := B_a.out.c0; have c1a := B_a.out.c1; have c2a := B_a.out.c2; have c0b := B_b.out.c0; have c1b := B_b.out.c1; have c2b := B_b.out.c2; have tk1x1 : True := trivial)
      | (clear tk1x1; go_at_call 52; refine (HLb.out _).mono ?_; rintro e w4 ⟨rfl, bb⟩; replace bb := nextw (w0 := w3) (by exact ⟨rfl, rfl, rfl, Nat.le_refl _, fun _ _ => rfl⟩) bb; replace B_a := Lib.hid (Box3.below B_a.out bb B_a.out.lt); replace B_b := Lib.hid (Box3.below B_b.out bb B_b.out.lt); replace HB := Lib.hid (nextw HB.out bb); clear bb c0a c1a c2a c0b c1b c2b; have c0a := B_a.out.c0; have c1a := B_a.out.c1; have c2a := B_a.out.c2; have c0b := B_b.out.c0; have c1b := B_b.out.c1; have c2b := B_b.out.c2; have tk1x2 : True := trivial))
  clear c0a c1a c2a c0b c1b c2b
  have c0a := B_a.out.c0
  have c1a := B_a.out.c1
  have c2a := B_a.out.c2
  have c0b := B_b.out.c0
  have c1b := B_b.out.c1
  have c2b := B_b.out.c2
  go_wp2
  go_ret
  exact ⟨rfl, nextw HB.out (by exact ⟨rfl, rfl, rfl, Nat.le_refl _, fun _ _ => rfl⟩)⟩

set_option maxRecDepth 100000 in
set_option maxHeartbeats 1000000 in
theorem RCmp_teq (a b : V3) (ha : Ok a) (hb : Ok b) (hp : lowB a = true) (hq : lowB b = true) (hc : a.x * b.y = a.y * b.x) (w : World) :
    Calls Try.prog 27 #[vv a, vv b] w fun e w' => e = .returned (.int .i64 0) ∧ Below w.heap.size w w' := by
  have HV := Lib.hid (fun w => RValid_yes a ha w)
  have HW := Lib.hid (fun w => RValid_yes b hb w)
  have hax := ha.bx
  have hay := ha.by_
  have hbx := hb.bx
  have hby := hb.by_
  have had := ha.lo
  have had2 := ha.hi
  have hbd := hb.lo
  have hbd2 := hb.hi
  have HLa := Lib.hid (fun w => rlower_at hp w)
  have HLb := Lib.hid (fun w => rlower_at hq w)
  obtain ⟨x, y, d⟩ := a
  obtain ⟨u, v, f⟩ := b
  simp only at hax hay hbx hby had had2 hbd hbd2 hc
  clear ha hb hp hq
  have m1 := mul_bound (a := y) (b := u) (by omega) (by omega) (by omega) (by omega)
  have m2 := mul_bound (a := x) (b := v) (by omega) (by omega) (by omega) (by omega)
  have e0 : x * v - y * u = 0 := by omega
  have HB := Lib.hid (show Below w.heap.size w ((w.alloc (.cells #[.int .i64 x, .int .i64 y, .int .i64 d] 24)).alloc (.cells #[.int .i64 u, .int .i64 v, .int .i64 f] 24)) from (((Below.refl _ _).alloc (by simp <;> omega) _).alloc (by simp <;> omega) _))
  have B_a : Box3 ((w.alloc (.cells #[.int .i64 x, .int .i64 y, .int .i64 d] 24)).alloc (.cells #[.int .i64 u, .int .i64 v, .int .i64 f] 24)) (w.heap.size) x y d := by have h := (Box3.alloc (Box3.new w x y d) (.cells #[.int .i64 u, .int .i64 v, .int .i64 f] 24)); simpa using h
  replace B_a := Lib.hid B_a
  have B_b : Box3 ((w.alloc (.cells #[.int .i64 x, .int .i64 y, .int .i64 d] 24)).alloc (.cells #[.int .i64 u, .int .i64 v, .int .i64 f] 24)) (w.heap.size + 1) u v f := by have h := (Box3.new (w.alloc (.cells #[.int .i64 x, .int .i64 y, .int .i64 d] 24)) u v f); simpa using h
  replace B_b := Lib.hid B_b
  go_enter Try.func27, Try.ntmps27
  go_wp2_with fail
  generalize (w.alloc (.cells #[.int .i64 x, .int .i64 y, .int .i64 d] 24)).alloc (.cells #[.int .i64 u, .int .i64 v, .int .i64 f] 24) = W0 at *
  have c0a := B_a.out.c0
  have c1a := B_a.out.c1
  have c2a := B_a.out.c2
  have c0b := B_b.out.c0
  have c1b := B_b.out.c1
  have c2b := B_b.out.c2
  refine (HV.out _).mono ?_
  clear c0a c1a c2a c0b c1b c2b
  rintro e w1 ⟨rfl, bb⟩
  replace bb := nextw (w0 := W0) (by exact ⟨rfl, rfl, rfl, Nat.le_refl _, fun _ _ => rfl⟩) bb
  replace B_a := Lib.hid (Box3.below B_a.out bb B_a.out.lt)
  replace B_b := Lib.hid (Box3.below B_b.out bb B_b.out.lt)
  replace HB := Lib.hid (nextw HB.out bb)
  clear bb
  have c0a := B_a.out.c0
  have c1a := B_a.out.c1
  have c2a := B_a.out.c2
  have c0b := B_b.out.c0
  have c1b := B_b.out.c1
  have c2b := B_b.out.c2
  go_wp2_with fail
  refine (HW.out _).mono ?_
  clear c0a c1a c2a c0b c1b c2b
  rintro e w2 ⟨rfl, bb⟩
  replace bb := nextw (w0 := w1) (by exact ⟨rfl, rfl, rfl, Nat.le_refl _, fun _ _ => rfl⟩) bb
  replace B_a := Lib.hid (Box3.below B_a.out bb B_a.out.lt)
  replace B_b := Lib.hid (Box3.below B_b.out bb B_b.out.lt)
  replace HB := Lib.hid (nextw HB.out bb)
  clear bb
  have c0a := B_a.out.c0
  have c1a := B_a.out.c1
  have c2a := B_a.out.c2
  have c0b := B_b.out.c0
  have c1b := B_b.out.c1
  have c2b := B_b.out.c2
  clear c0a c1a c2a c0b c1b c2b
  go_wp2_with fail
  have c0a := B_a.out.c0
  have c1a := B_a.out.c1
  have c2a := B_a.out.c2
  have c0b := B_b.out.c0
  have c1b := B_b.out.c1
  have c2b := B_b.out.c2
  have tk1x0 : True := trivial
  go_region_held3 (fun w' => w'.cell? ⟨w.heap.size, 0, none⟩ = some (.int .i64 x) ∧ w'.cell? ⟨w.heap.size, 1, none⟩ = some (.int .i64 y) ∧ w'.cell? ⟨w.heap.size, 2, none⟩ = some (.int .i64 d) ∧ w'.cell? ⟨w.heap.size + 1, 0, none⟩ = some (.int .i64 u) ∧ w'.cell? ⟨w.heap.size + 1, 1, none⟩ = some (.int .i64 v) ∧ w'.cell? ⟨w.heap.size + 1, 2, none⟩ = some (.int .i64 f)) (((try dsimp only); (repeat' apply And.intro) <;> (first | (with_reducible assumption) | ((repeat (first | (with_reducible refine Eq.trans (cell_drew1 _ _) ?_) | (with_reducible refine Eq.trans (World.cell?_alloc_lt _ _ _ (by first | (dsimp only; omega) | (simp only [World.size_alloc, World.size_setCell]; omega))) ?_))); with_reducible assumption) | assumption | go_keep)))
    (first
      | (clear tk1x0; go_at_call 52; refine (HLa.out _).mono ?_; rintro e w3 ⟨rfl, bb⟩; replace bb := nextw (w0 := w2) (by exact ⟨rfl, rfl, rfl, Nat.le_refl _, fun _ _ => rfl⟩) bb; replace B_a := Lib.hid (Box3.below B_a.out bb B_a.out.lt); replace B_b := Lib.hid (Box3.below B_b.out bb B_b.out.lt); replace HB := Lib.hid (nextw HB.out bb); clear bb c0a c1a c2a c0b c1b c2b; have c0a := B_a.out.c0; have c1a := B_a.out.c1; have c2a := B_a.out.c2; have c0b := B_b.out.c0; have c1b := B_b.out.c1; have c2b := B_b.out.c2; have tk1x1 : True := trivial)
      | (clear tk1x1; go_at_call 52; refine (HLb.out _).mono ?_; rintro e w4 ⟨rfl, bb⟩; replace bb := nextw (w0 := w3) (by exact ⟨rfl, rfl, rfl, Nat.le_refl _, fun _ _ => rfl⟩) bb; replace B_a := Lib.hid (Box3.below B_a.out bb B_a.out.lt); replace B_b := Lib.hid (Box3.below B_b.out bb B_b.out.lt); replace HB := Lib.hid (nextw HB.out bb); clear bb c0a c1a c2a c0b c1b c2b; have c0a := B_a.out.c0; have c1a := B_a.out.c1; have c2a := B_a.out.c2; have c0b := B_b.out.c0; have c1b := B_b.out.c1; have c2b := B_b.out.c2; have tk1x2 : True := trivial))
  clear c0a c1a c2a c0b c1b c2b
  have c0a := B_a.out.c0
  have c1a := B_a.out.c1
  have c2a := B_a.out.c2
  have c0b := B_b.out.c0
  have c1b := B_b.out.c1
  have c2b := B_b.out.c2
  go_wp2
  go_ret
  exact ⟨rfl, nextw HB.out (by exact ⟨rfl, rfl, rfl, Nat.le_refl _, fun _ _ => rfl⟩)⟩

theorem RCmp_ok (a b : V3) (ha : Ok a) (hb : Ok b) (w : World) :
    Calls Try.prog 27 #[vv a, vv b] w fun e w' => e = .returned (.int .i64 (cmpV a b)) ∧ Below w.heap.size w w' := by
  unfold cmpV
  rcases hp : lowB a with _ | _ <;> rcases hq : lowB b with _ | _
  · rw [if_pos rfl]; unfold cmpI
    rcases Int.lt_trichotomy (a.y * b.x) (a.x * b.y) with h | h | h
    · rw [if_pos h]; exact RCmp_flt a b ha hb hp hq (by omega) w
    · rw [if_neg (by omega), if_neg (by omega)]; exact RCmp_feq a b ha hb hp hq h.symm w
    · rw [if_neg (by omega), if_pos h]; exact RCmp_fgt a b ha hb hp hq (by omega) w
  · exact RCmp_ft a b ha hb hp hq w
  · exact RCmp_tf a b ha hb hp hq w
  · rw [if_pos rfl]; unfold cmpI
    rcases Int.lt_trichotomy (a.y * b.x) (a.x * b.y) with h | h | h
    · rw [if_pos h]; exact RCmp_tlt a b ha hb hp hq (by omega) w
    · rw [if_neg (by omega), if_neg (by omega)]; exact RCmp_teq a b ha hb hp hq h.symm w
    · rw [if_neg (by omega), if_pos h]; exact RCmp_tgt a b ha hb hp hq (by omega) w
end Go.Proofs.Ytincejndchdcdaa
