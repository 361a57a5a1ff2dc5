/- The law HeadingArcs. -/
import Derived.Test.YtincejndchdcdaaHAwake
import Derived.Test.YtincejndchdcdaaHRHas
namespace Go.Proofs.Ytincejndchdcdaa
open Go Go.RowKit Hd

theorem nil_ri (w : World) : RI w (.slice none 0 0) [] := ⟨none, 0, rfl, by simp, fun h => absurd rfl h⟩

set_option maxRecDepth 100000 in
set_option maxHeartbeats 4000000 in
theorem Arcs_ok (f c h : Int) (hv : OkA f c) (w : World) :
    Calls Try.prog 9 #[av f c, .int .i64 h] w fun e w' => e = .returned (.bool true) ∧ Below w.heap.size w w' := by
  have HA := Lib.hid (fun w => awake_any w)
  have HV := Lib.hid (fun w => VA_yes hv w)
  have HW := Lib.hid (fun w => RVA_yes hv w)
  have HH := Lib.hid (fun w => Has_ok f c h hv w)
  have HR := Lib.hid (fun w => RHas_ok f c h hv w)
  have HL := Lib.hid (fun w => List_ok f c hv w)
  have HM := Lib.hid (fun w => RList_ok f c hv w)
  have HN : Hid ((marks f c.toNat).length ≤ maxLen) := by unfold Hid; rw [marks_length]; have := hv.c1; simp only [maxLen]; omega
  generalize marks f c.toNat = l at *
  generalize hasB f c h = b at *
  clear hv
  have HB := Lib.hid (show Below w.heap.size w (w.alloc (.cells #[.int .i64 f, .int .i64 c] 43)) from ((Below.refl _ _).alloc (by simp <;> omega) _))
  have B_a : Box2 (w.alloc (.cells #[.int .i64 f, .int .i64 c] 43)) (w.heap.size) f c := by have h := (Box2.new w f c); simpa using h
  replace B_a := Lib.hid B_a
  go_enter Try.func9, Try.ntmps9
  go_wp2_with fail
  generalize w.alloc (.cells #[.int .i64 f, .int .i64 c] 43) = W0 at *
  refine (HA.out _).mono ?_
  rintro e w1 ⟨rfl, bb⟩
  replace bb := nextw (w0 := W0) (by exact ⟨rfl, rfl, rfl, Nat.le_refl _, fun _ _ => rfl⟩) bb
  replace B_a := Lib.hid (Box2.below B_a.out bb B_a.out.lt)
  replace HB := Lib.hid (nextw HB.out bb)
  clear bb
  clear HA
  go_wp2_with fail
  have c0a := B_a.out.c0
  have c1a := B_a.out.c1
  have tk1x0 : True := trivial
  go_region_held3 (fun w' => w'.cell? ⟨w.heap.size, 0, none⟩ = some (.int .i64 f) ∧ w'.cell? ⟨w.heap.size, 1, none⟩ = some (.int .i64 c)) (((try dsimp only); (repeat' apply And.intro) <;> (first | (with_reducible assumption) | ((repeat (first | (with_reducible refine Eq.trans (cell_drew1 _ _) ?_) | (with_reducible refine Eq.trans (World.cell?_alloc_lt _ _ _ (by first | (dsimp only; omega) | (simp only [World.size_alloc, World.size_setCell]; omega))) ?_))); with_reducible assumption) | assumption | go_keep)))
    (first
      | (clear tk1x0; go_at_call 30; refine (HV.out _).mono ?_; rintro e w2 ⟨rfl, bb⟩; replace bb := nextw (w0 := w1) (by exact ⟨rfl, rfl, rfl, Nat.le_refl _, fun _ _ => rfl⟩) bb; replace B_a := Lib.hid (Box2.below B_a.out bb B_a.out.lt); replace HB := Lib.hid (nextw HB.out bb); clear bb c0a c1a; have c0a := B_a.out.c0; have c1a := B_a.out.c1; have tk1x1 : True := trivial)
      | (clear tk1x1; go_at_call 31; refine (HW.out _).mono ?_; rintro e w3 ⟨rfl, bb⟩; replace bb := nextw (w0 := w2) (by exact ⟨rfl, rfl, rfl, Nat.le_refl _, fun _ _ => rfl⟩) bb; replace B_a := Lib.hid (Box2.below B_a.out bb B_a.out.lt); replace HB := Lib.hid (nextw HB.out bb); clear bb c0a c1a; have c0a := B_a.out.c0; have c1a := B_a.out.c1; have tk1x2 : True := trivial)
      | (clear tk1x2; go_at_call 32; refine (HH.out _).mono ?_; rintro e w4 ⟨rfl, bb⟩; replace bb := nextw (w0 := w3) (by exact ⟨rfl, rfl, rfl, Nat.le_refl _, fun _ _ => rfl⟩) bb; replace B_a := Lib.hid (Box2.below B_a.out bb B_a.out.lt); replace HB := Lib.hid (nextw HB.out bb); clear bb c0a c1a; have c0a := B_a.out.c0; have c1a := B_a.out.c1; have tk1x3 : True := trivial)
      | (clear tk1x3; go_at_call 33; refine (HR.out _).mono ?_; rintro e w5 ⟨rfl, bb⟩; replace bb := nextw (w0 := w4) (by exact ⟨rfl, rfl, rfl, Nat.le_refl _, fun _ _ => rfl⟩) bb; replace B_a := Lib.hid (Box2.below B_a.out bb B_a.out.lt); replace HB := Lib.hid (nextw HB.out bb); clear bb c0a c1a; have c0a := B_a.out.c0; have c1a := B_a.out.c1; have tk1x4 : True := trivial)
      | (clear tk1x4; go_at_call 35; refine (HL.out _).mono ?_; rintro e w6 ⟨g1, rfl, -, ho, bb⟩; replace bb := nextw (w0 := w5) (by exact ⟨rfl, rfl, rfl, Nat.le_refl _, fun _ _ => rfl⟩) bb; replace B_a := Lib.hid (Box2.below B_a.out bb B_a.out.lt); replace HB := Lib.hid (nextw HB.out bb); clear bb c0a c1a; have V1 := Lib.hid (ho.ri HN.out); clear ho; have c0a := B_a.out.c0; have c1a := B_a.out.c1; have tk1x5 : True := trivial)
      | (clear tk1x5; go_at_call 36; refine (HM.out _).mono ?_; rintro e w7 ⟨v2, rfl, hr, bb⟩; replace bb := nextw (w0 := w6) (by exact ⟨rfl, rfl, rfl, Nat.le_refl _, fun _ _ => rfl⟩) bb; replace B_a := Lib.hid (Box2.below B_a.out bb B_a.out.lt); replace V1 := Lib.hid (RI.below V1.out bb); replace HB := Lib.hid (nextw HB.out bb); clear bb c0a c1a; have V2 := Lib.hid hr; clear hr; have c0a := B_a.out.c0; have c1a := B_a.out.c1; have tk1x6 : True := trivial)
      | (clear tk1x6; go_at_call 34; refine (Ints_same (RI.below V1.out (by exact ⟨rfl, rfl, rfl, Nat.le_refl _, fun _ _ => rfl⟩)) (RI.below V2.out (by exact ⟨rfl, rfl, rfl, Nat.le_refl _, fun _ _ => rfl⟩))).mono ?_; rintro e w8 ⟨rfl, bb⟩; replace bb := nextw (w0 := w7) (by exact ⟨rfl, rfl, rfl, Nat.le_refl _, fun _ _ => rfl⟩) bb; replace B_a := Lib.hid (Box2.below B_a.out bb B_a.out.lt); replace V1 := Lib.hid (RI.below V1.out bb); replace V2 := Lib.hid (RI.below V2.out bb); replace HB := Lib.hid (nextw HB.out bb); clear bb c0a c1a; have c0a := B_a.out.c0; have c1a := B_a.out.c1; have tk1x7 : True := trivial))
  clear c0a c1a
  go_wp2
  go_ret
  exact ⟨rfl, nextw HB.out (by exact ⟨rfl, rfl, rfl, Nat.le_refl _, fun _ _ => rfl⟩)⟩

set_option maxRecDepth 100000 in
set_option maxHeartbeats 4000000 in
theorem Arcs_bad (f c h : Int) (hv : ¬ OkA f c) (w : World) :
    Calls Try.prog 9 #[av f c, .int .i64 h] w fun e w' => e = .returned (.bool true) ∧ Below w.heap.size w w' := by
  have HA := Lib.hid (fun w => awake_any w)
  have HV := Lib.hid (fun w => VA_no hv w)
  have HW := Lib.hid (fun w => RVA_no hv w)
  have HH := Lib.hid (fun w => Has_bad f c h hv w)
  have HR := Lib.hid (fun w => RHas_bad f c h hv w)
  have HL := Lib.hid (fun w => List_bad f c hv w)
  have HM := Lib.hid (fun w => RList_bad f c hv w)
  clear hv
  have HB := Lib.hid (show Below w.heap.size w (w.alloc (.cells #[.int .i64 f, .int .i64 c] 43)) from ((Below.refl _ _).alloc (by simp <;> omega) _))
  have B_a : Box2 (w.alloc (.cells #[.int .i64 f, .int .i64 c] 43)) (w.heap.size) f c := by have h := (Box2.new w f c); simpa using h
  replace B_a := Lib.hid B_a
  go_enter Try.func9, Try.ntmps9
  go_wp2_with fail
  generalize w.alloc (.cells #[.int .i64 f, .int .i64 c] 43) = W0 at *
  refine (HA.out _).mono ?_
  rintro e w1 ⟨rfl, bb⟩
  replace bb := nextw (w0 := W0) (by exact ⟨rfl, rfl, rfl, Nat.le_refl _, fun _ _ => rfl⟩) bb
  replace B_a := Lib.hid (Box2.below B_a.out bb B_a.out.lt)
  replace HB := Lib.hid (nextw HB.out bb)
  clear bb
  clear HA
  go_wp2_with fail
  have c0a := B_a.out.c0
  have c1a := B_a.out.c1
  have tk1x0 : True := trivial
  go_region_held3 (fun w' => w'.cell? ⟨w.heap.size, 0, none⟩ = some (.int .i64 f) ∧ w'.cell? ⟨w.heap.size, 1, none⟩ = some (.int .i64 c)) (((try dsimp only); (repeat' apply And.intro) <;> (first | (with_reducible assumption) | ((repeat (first | (with_reducible refine Eq.trans (cell_drew1 _ _) ?_) | (with_reducible refine Eq.trans (World.cell?_alloc_lt _ _ _ (by first | (dsimp only; omega) | (simp only [World.size_alloc, World.size_setCell]; omega))) ?_))); with_reducible assumption) | assumption | go_keep)))
    (first
      | (clear tk1x0; go_at_call 30; refine (HV.out _).mono ?_; rintro e w2 ⟨rfl, bb⟩; replace bb := nextw (w0 := w1) (by exact ⟨rfl, rfl, rfl, Nat.le_refl _, fun _ _ => rfl⟩) bb; replace B_a := Lib.hid (Box2.below B_a.out bb B_a.out.lt); replace HB := Lib.hid (nextw HB.out bb); clear bb c0a c1a; have c0a := B_a.out.c0; have c1a := B_a.out.c1; have tk1x1 : True := trivial)
      | (clear tk1x1; go_at_call 31; refine (HW.out _).mono ?_; rintro e w3 ⟨rfl, bb⟩; replace bb := nextw (w0 := w2) (by exact ⟨rfl, rfl, rfl, Nat.le_refl _, fun _ _ => rfl⟩) bb; replace B_a := Lib.hid (Box2.below B_a.out bb B_a.out.lt); replace HB := Lib.hid (nextw HB.out bb); clear bb c0a c1a; have c0a := B_a.out.c0; have c1a := B_a.out.c1; have tk1x2 : True := trivial)
      | (clear tk1x2; go_at_call 32; refine (HH.out _).mono ?_; rintro e w4 ⟨rfl, bb⟩; replace bb := nextw (w0 := w3) (by exact ⟨rfl, rfl, rfl, Nat.le_refl _, fun _ _ => rfl⟩) bb; replace B_a := Lib.hid (Box2.below B_a.out bb B_a.out.lt); replace HB := Lib.hid (nextw HB.out bb); clear bb c0a c1a; have c0a := B_a.out.c0; have c1a := B_a.out.c1; have tk1x3 : True := trivial)
      | (clear tk1x3; go_at_call 33; refine (HR.out _).mono ?_; rintro e w5 ⟨rfl, bb⟩; replace bb := nextw (w0 := w4) (by exact ⟨rfl, rfl, rfl, Nat.le_refl _, fun _ _ => rfl⟩) bb; replace B_a := Lib.hid (Box2.below B_a.out bb B_a.out.lt); replace HB := Lib.hid (nextw HB.out bb); clear bb c0a c1a; have c0a := B_a.out.c0; have c1a := B_a.out.c1; have tk1x4 : True := trivial)
      | (clear tk1x4; go_at_call 35; refine (HL.out _).mono ?_; rintro e w6 ⟨rfl, bb⟩; replace bb := nextw (w0 := w5) (by exact ⟨rfl, rfl, rfl, Nat.le_refl _, fun _ _ => rfl⟩) bb; replace B_a := Lib.hid (Box2.below B_a.out bb B_a.out.lt); replace HB := Lib.hid (nextw HB.out bb); clear bb c0a c1a; have c0a := B_a.out.c0; have c1a := B_a.out.c1; have tk1x5 : True := trivial)
      | (clear tk1x5; go_at_call 36; refine (HM.out _).mono ?_; rintro e w7 ⟨rfl, bb⟩; replace bb := nextw (w0 := w6) (by exact ⟨rfl, rfl, rfl, Nat.le_refl _, fun _ _ => rfl⟩) bb; replace B_a := Lib.hid (Box2.below B_a.out bb B_a.out.lt); replace HB := Lib.hid (nextw HB.out bb); clear bb c0a c1a; have c0a := B_a.out.c0; have c1a := B_a.out.c1; have tk1x6 : True := trivial)
      | (clear tk1x6; go_at_call 34; refine (Ints_same (nil_ri _) (nil_ri _)).mono ?_; rintro e w8 ⟨rfl, bb⟩; replace bb := nextw (w0 := w7) (by exact ⟨rfl, rfl, rfl, Nat.le_refl _, fun _ _ => rfl⟩) bb; replace B_a := Lib.hid (Box2.below B_a.out bb B_a.out.lt); replace HB := Lib.hid (nextw HB.out bb); clear bb c0a c1a; have c0a := B_a.out.c0; have c1a := B_a.out.c1; have tk1x7 : True := trivial))
  clear c0a c1a
  go_wp2
  go_ret
  exact ⟨rfl, nextw HB.out (by exact ⟨rfl, rfl, rfl, Nat.le_refl _, fun _ _ => rfl⟩)⟩

theorem Arcs_any (f c h : Int) (w : World) :
    Calls Try.prog 9 #[av f c, .int .i64 h] w fun e w' => e = .returned (.bool true) ∧ Below w.heap.size w w' := by
  by_cases hv : OkA f c
  · exact Arcs_ok f c h hv w
  · exact Arcs_bad f c h hv w
end Go.Proofs.Ytincejndchdcdaa
