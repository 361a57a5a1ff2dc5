/- heading.Hull. -/
import Derived.Test.YtjpdahalplkfbaaHTwo
namespace Go.Proofs.Ytjpdahalplkfbaa
open Go Go.RowKit Hd

set_option maxRecDepth 100000 in
set_option maxHeartbeats 1000000 in
theorem Hull_bad1 (f c g d : Int) (hn : ¬ OkA f c) (w : World) :
    Calls Try.prog 41 #[av f c, av g d] w fun e w' => e = .returned (.tuple #[av 0 0, .int .i64 1]) ∧ Below w.heap.size w w' := by
  have HV := Lib.hid (fun w => VA_no hn w)
  clear hn
  have HB := Lib.hid (show Below w.heap.size w (((w.alloc (.cells #[.int .i64 f, .int .i64 c] 59)).alloc (.cells #[.int .i64 g, .int .i64 d] 59)).alloc (.cells #[.int .i64 0, .int .i64 0] 59)) from ((((Below.refl _ _).alloc (by simp <;> omega) _).alloc (by simp <;> omega) _).alloc (by simp <;> omega) _))
  have B_a : Box2 (((w.alloc (.cells #[.int .i64 f, .int .i64 c] 59)).alloc (.cells #[.int .i64 g, .int .i64 d] 59)).alloc (.cells #[.int .i64 0, .int .i64 0] 59)) (w.heap.size) f c := by have h := (Box2.alloc (Box2.alloc (Box2.new w f c) (.cells #[.int .i64 g, .int .i64 d] 59)) (.cells #[.int .i64 0, .int .i64 0] 59)); simpa using h
  replace B_a := Lib.hid B_a
  have B_b : Box2 (((w.alloc (.cells #[.int .i64 f, .int .i64 c] 59)).alloc (.cells #[.int .i64 g, .int .i64 d] 59)).alloc (.cells #[.int .i64 0, .int .i64 0] 59)) (w.heap.size + 1) g d := by have h := (Box2.alloc (Box2.new (w.alloc (.cells #[.int .i64 f, .int .i64 c] 59)) g d) (.cells #[.int .i64 0, .int .i64 0] 59)); simpa using h
  replace B_b := Lib.hid B_b
  have B_r : Box2 (((w.alloc (.cells #[.int .i64 f, .int .i64 c] 59)).alloc (.cells #[.int .i64 g, .int .i64 d] 59)).alloc (.cells #[.int .i64 0, .int .i64 0] 59)) (w.heap.size + 1 + 1) 0 0 := by have h := (Box2.new ((w.alloc (.cells #[.int .i64 f, .int .i64 c] 59)).alloc (.cells #[.int .i64 g, .int .i64 d] 59)) 0 0); simpa using h
  replace B_r := Lib.hid B_r
  go_enter Try.func41, Try.ntmps41
  go_wp2_with fail
  generalize ((w.alloc (.cells #[.int .i64 f, .int .i64 c] 59)).alloc (.cells #[.int .i64 g, .int .i64 d] 59)).alloc (.cells #[.int .i64 0, .int .i64 0] 59) = W0 at *
  have c0a := B_a.out.c0
  have c1a := B_a.out.c1
  have c0b := B_b.out.c0
  have c1b := B_b.out.c1
  refine (HV.out _).mono ?_
  clear c0a c1a c0b c1b
  rintro e w1 ⟨rfl, bb⟩
  replace bb := nextw (w0 := W0) (by exact ⟨rfl, rfl, rfl, Nat.le_refl _, fun _ _ => rfl⟩) bb
  replace B_a := Lib.hid (Box2.below B_a.out bb B_a.out.lt)
  replace B_b := Lib.hid (Box2.below B_b.out bb B_b.out.lt)
  replace B_r := Lib.hid (Box2.below B_r.out bb B_r.out.lt)
  replace HB := Lib.hid (nextw HB.out bb)
  clear bb
  have c0a := B_a.out.c0
  have c1a := B_a.out.c1
  have c0b := B_b.out.c0
  have c1b := B_b.out.c1
  clear c0a c1a c0b c1b
  have sS := Box2.store B_r.out 0 0
  have s0 := sS.c0
  have s1 := sS.c1
  have HF := Lib.hid (Below.store2 HB.out (y := w.heap.size + 1 + 1) (by omega) (.int .i64 0) (.int .i64 0))
  clear sS
  have c0r := B_r.out.c0
  have f0r := B_r.out.f0
  have c1r := B_r.out.c1
  have f1r := B_r.out.f1
  go_wp2_with fail
  exact bodyPost_ret (v := .tuple #[.agg #[.int .i64 0, .int .i64 0], .int .i64 1]) (by simp [results, Try.results41, go_sem, s0, s1]) rfl ⟨rfl, nextw HF.out (by exact ⟨rfl, rfl, rfl, Nat.le_refl _, fun _ _ => rfl⟩)⟩

set_option maxRecDepth 100000 in
set_option maxHeartbeats 1000000 in
theorem Hull_bad2 (f c g d : Int) (ha : OkA f c) (hn : ¬ OkA g d) (w : World) :
    Calls Try.prog 41 #[av f c, av g d] w fun e w' => e = .returned (.tuple #[av 0 0, .int .i64 1]) ∧ Below w.heap.size w w' := by
  have HV := Lib.hid (fun w => VA_yes ha w)
  have HW := Lib.hid (fun w => VA_no hn w)
  clear ha hn
  have HB := Lib.hid (show Below w.heap.size w (((w.alloc (.cells #[.int .i64 f, .int .i64 c] 59)).alloc (.cells #[.int .i64 g, .int .i64 d] 59)).alloc (.cells #[.int .i64 0, .int .i64 0] 59)) from ((((Below.refl _ _).alloc (by simp <;> omega) _).alloc (by simp <;> omega) _).alloc (by simp <;> omega) _))
  have B_a : Box2 (((w.alloc (.cells #[.int .i64 f, .int .i64 c] 59)).alloc (.cells #[.int .i64 g, .int .i64 d] 59)).alloc (.cells #[.int .i64 0, .int .i64 0] 59)) (w.heap.size) f c := by have h := (Box2.alloc (Box2.alloc (Box2.new w f c) (.cells #[.int .i64 g, .int .i64 d] 59)) (.cells #[.int .i64 0, .int .i64 0] 59)); simpa using h
  replace B_a := Lib.hid B_a
  have B_b : Box2 (((w.alloc (.cells #[.int .i64 f, .int .i64 c] 59)).alloc (.cells #[.int .i64 g, .int .i64 d] 59)).alloc (.cells #[.int .i64 0, .int .i64 0] 59)) (w.heap.size + 1) g d := by have h := (Box2.alloc (Box2.new (w.alloc (.cells #[.int .i64 f, .int .i64 c] 59)) g d) (.cells #[.int .i64 0, .int .i64 0] 59)); simpa using h
  replace B_b := Lib.hid B_b
  have B_r : Box2 (((w.alloc (.cells #[.int .i64 f, .int .i64 c] 59)).alloc (.cells #[.int .i64 g, .int .i64 d] 59)).alloc (.cells #[.int .i64 0, .int .i64 0] 59)) (w.heap.size + 1 + 1) 0 0 := by have h := (Box2.new ((w.alloc (.cells #[.int .i64 f, .int .i64 c] 59)).alloc (.cells #[.int .i64 g, .int .i64 d] 59)) 0 0); simpa using h
  replace B_r := Lib.hid B_r
  go_enter Try.func41, Try.ntmps41
  go_wp2_with fail
  generalize ((w.alloc (.cells #[.int .i64 f, .int .i64 c] 59)).alloc (.cells #[.int .i64 g, .int .i64 d] 59)).alloc (.cells #[.int .i64 0, .int .i64 0] 59) = W0 at *
  have c0a := B_a.out.c0
  have c1a := B_a.out.c1
  have c0b := B_b.out.c0
  have c1b := B_b.out.c1
  refine (HV.out _).mono ?_
  clear c0a c1a c0b c1b
  rintro e w1 ⟨rfl, bb⟩
  replace bb := nextw (w0 := W0) (by exact ⟨rfl, rfl, rfl, Nat.le_refl _, fun _ _ => rfl⟩) bb
  replace B_a := Lib.hid (Box2.below B_a.out bb B_a.out.lt)
  replace B_b := Lib.hid (Box2.below B_b.out bb B_b.out.lt)
  replace B_r := Lib.hid (Box2.below B_r.out bb B_r.out.lt)
  replace HB := Lib.hid (nextw HB.out bb)
  clear bb
  have c0a := B_a.out.c0
  have c1a := B_a.out.c1
  have c0b := B_b.out.c0
  have c1b := B_b.out.c1
  go_wp2_with fail
  refine (HW.out _).mono ?_
  clear c0a c1a c0b c1b
  rintro e w2 ⟨rfl, bb⟩
  replace bb := nextw (w0 := w1) (by exact ⟨rfl, rfl, rfl, Nat.le_refl _, fun _ _ => rfl⟩) bb
  replace B_a := Lib.hid (Box2.below B_a.out bb B_a.out.lt)
  replace B_b := Lib.hid (Box2.below B_b.out bb B_b.out.lt)
  replace B_r := Lib.hid (Box2.below B_r.out bb B_r.out.lt)
  replace HB := Lib.hid (nextw HB.out bb)
  clear bb
  have c0a := B_a.out.c0
  have c1a := B_a.out.c1
  have c0b := B_b.out.c0
  have c1b := B_b.out.c1
  clear c0a c1a c0b c1b
  have sS := Box2.store B_r.out 0 0
  have s0 := sS.c0
  have s1 := sS.c1
  have HF := Lib.hid (Below.store2 HB.out (y := w.heap.size + 1 + 1) (by omega) (.int .i64 0) (.int .i64 0))
  clear sS
  have c0r := B_r.out.c0
  have f0r := B_r.out.f0
  have c1r := B_r.out.c1
  have f1r := B_r.out.f1
  go_wp2_with fail
  exact bodyPost_ret (v := .tuple #[.agg #[.int .i64 0, .int .i64 0], .int .i64 1]) (by simp [results, Try.results41, go_sem, s0, s1]) rfl ⟨rfl, nextw HF.out (by exact ⟨rfl, rfl, rfl, Nat.le_refl _, fun _ _ => rfl⟩)⟩

set_option maxRecDepth 100000 in
set_option maxHeartbeats 4000000 in
theorem Hull_1 (f c g d p P q Q : Int) (ha : OkA f c) (hb : OkA g d) (hp : covF f c g d = p) (hP : covC f c g d = P) (hq : covF g d f c = q) (hQ : covC g d f c = Q) (h1 : Q < P) (w : World) :
    Calls Try.prog 41 #[av f c, av g d] w fun e w' => e = .returned (.tuple #[av q Q, .int .i64 0]) ∧ Below w.heap.size w w' := by
  have HV := Lib.hid (fun w => VA_yes ha w)
  have HW := Lib.hid (fun w => VA_yes hb w)
  have HA := Lib.hid (fun w => cover_at ha hb hp hP w)
  have HB2 := Lib.hid (fun w => cover_at hb ha hq hQ w)
  clear ha hb hp hP hq hQ
  have HB := Lib.hid (show Below w.heap.size w (((w.alloc (.cells #[.int .i64 f, .int .i64 c] 59)).alloc (.cells #[.int .i64 g, .int .i64 d] 59)).alloc (.cells #[.int .i64 0, .int .i64 0] 59)) from ((((Below.refl _ _).alloc (by simp <;> omega) _).alloc (by simp <;> omega) _).alloc (by simp <;> omega) _))
  have B_a : Box2 (((w.alloc (.cells #[.int .i64 f, .int .i64 c] 59)).alloc (.cells #[.int .i64 g, .int .i64 d] 59)).alloc (.cells #[.int .i64 0, .int .i64 0] 59)) (w.heap.size) f c := by have h := (Box2.alloc (Box2.alloc (Box2.new w f c) (.cells #[.int .i64 g, .int .i64 d] 59)) (.cells #[.int .i64 0, .int .i64 0] 59)); simpa using h
  replace B_a := Lib.hid B_a
  have B_b : Box2 (((w.alloc (.cells #[.int .i64 f, .int .i64 c] 59)).alloc (.cells #[.int .i64 g, .int .i64 d] 59)).alloc (.cells #[.int .i64 0, .int .i64 0] 59)) (w.heap.size + 1) g d := by have h := (Box2.alloc (Box2.new (w.alloc (.cells #[.int .i64 f, .int .i64 c] 59)) g d) (.cells #[.int .i64 0, .int .i64 0] 59)); simpa using h
  replace B_b := Lib.hid B_b
  have B_r : Box2 (((w.alloc (.cells #[.int .i64 f, .int .i64 c] 59)).alloc (.cells #[.int .i64 g, .int .i64 d] 59)).alloc (.cells #[.int .i64 0, .int .i64 0] 59)) (w.heap.size + 1 + 1) 0 0 := by have h := (Box2.new ((w.alloc (.cells #[.int .i64 f, .int .i64 c] 59)).alloc (.cells #[.int .i64 g, .int .i64 d] 59)) 0 0); simpa using h
  replace B_r := Lib.hid B_r
  go_enter Try.func41, Try.ntmps41
  go_wp2_with fail
  generalize ((w.alloc (.cells #[.int .i64 f, .int .i64 c] 59)).alloc (.cells #[.int .i64 g, .int .i64 d] 59)).alloc (.cells #[.int .i64 0, .int .i64 0] 59) = W0 at *
  have c0a := B_a.out.c0
  have c1a := B_a.out.c1
  have c0b := B_b.out.c0
  have c1b := B_b.out.c1
  refine (HV.out _).mono ?_
  clear c0a c1a c0b c1b
  rintro e w1 ⟨rfl, bb⟩
  replace bb := nextw (w0 := W0) (by exact ⟨rfl, rfl, rfl, Nat.le_refl _, fun _ _ => rfl⟩) bb
  replace B_a := Lib.hid (Box2.below B_a.out bb B_a.out.lt)
  replace B_b := Lib.hid (Box2.below B_b.out bb B_b.out.lt)
  replace B_r := Lib.hid (Box2.below B_r.out bb B_r.out.lt)
  replace HB := Lib.hid (nextw HB.out bb)
  clear bb
  have c0a := B_a.out.c0
  have c1a := B_a.out.c1
  have c0b := B_b.out.c0
  have c1b := B_b.out.c1
  go_wp2_with fail
  refine (HW.out _).mono ?_
  clear c0a c1a c0b c1b
  rintro e w2 ⟨rfl, bb⟩
  replace bb := nextw (w0 := w1) (by exact ⟨rfl, rfl, rfl, Nat.le_refl _, fun _ _ => rfl⟩) bb
  replace B_a := Lib.hid (Box2.below B_a.out bb B_a.out.lt)
  replace B_b := Lib.hid (Box2.below B_b.out bb B_b.out.lt)
  replace B_r := Lib.hid (Box2.below B_r.out bb B_r.out.lt)
  replace HB := Lib.hid (nextw HB.out bb)
  clear bb
  have c0a := B_a.out.c0
  have c1a := B_a.out.c1
  have c0b := B_b.out.c0
  have c1b := B_b.out.c1
  clear c0a c1a c0b c1b
  go_upto_region 3 with (fail)
  go_cut [6, 7] (fun a b wx => TwoA w2 p P q Q a b wx)
  case first =>
    have HC := Lib.hid (Below.refl w2.heap.size w2)
    have za0 := B_a.out.lt
    have zb0 := B_b.out.lt
    have c0a := B_a.out.c0
    have c1a := B_a.out.c1
    have c0b := B_b.out.c0
    have c1b := B_b.out.c1
    have tk0 : True := trivial
    first | (go_region_held3 (fun w' => w'.cell? ⟨w.heap.size, 0, none⟩ = some (.int .i64 f) ∧ w'.cell? ⟨w.heap.size, 1, none⟩ = some (.int .i64 c) ∧ w'.cell? ⟨w.heap.size + 1, 0, none⟩ = some (.int .i64 g) ∧ w'.cell? ⟨w.heap.size + 1, 1, none⟩ = some (.int .i64 d)) (((try dsimp only); (repeat' apply And.intro) <;> (first | (with_reducible assumption) | ((repeat (first | (with_reducible refine Eq.trans (cell_drew1 _ _) ?_) | (with_reducible refine Eq.trans (World.cell?_alloc_lt _ _ _ (by first | (dsimp only; omega) | (simp only [World.size_alloc, World.size_setCell]; omega))) ?_) | (with_reducible refine Eq.trans (hfar2 (by omega) _ _) ?_))); with_reducible assumption) | assumption | go_keep)))
    (first
      | (clear tk0; go_at_call 60; refine (HA.out _).mono ?_; rintro e wv0 ⟨rfl, bb⟩; have bb0 := bb; (first | (have h2 := box_new2A (w := w2) bb0 rfl; have N_A := Lib.hid h2.1; have N_B := Lib.hid h2.2; clear h2) | (have h2 := box_new1A (w := w2) bb0 rfl; have N_A := Lib.hid h2; clear h2) | skip); clear bb0; replace bb := nextw (w0 := w2) (by first | exact ⟨rfl, rfl, rfl, Nat.le_refl _, fun _ _ => rfl⟩ | exact below_push1 rfl rfl rfl rfl | exact below_push2 rfl rfl rfl rfl) bb; replace B_a := Lib.hid (Box2.below B_a.out bb B_a.out.lt); replace B_b := Lib.hid (Box2.below B_b.out bb B_b.out.lt); replace HC := Lib.hid (nextw HC.out bb); clear bb; clear c0a c1a c0b c1b; have c0a := B_a.out.c0; have c1a := B_a.out.c1; have c0b := B_b.out.c0; have c1b := B_b.out.c1; have za1 := B_a.out.lt; have zb1 := B_b.out.lt; have hle1 := HC.out.size; (try (have LWA0 := Lib.hid N_A.out.lt)); (try (have LWB0 := Lib.hid N_B.out.lt)); have tk1 : True := trivial)
      | (clear tk1; go_at_call 60; refine (HB2.out _).mono ?_; rintro e wv1 ⟨rfl, bb⟩; have bb0 := bb; (try (replace N_A := Lib.hid (Box2.below N_A.out (nextw (by first | exact ⟨rfl, rfl, rfl, Nat.le_refl _, fun _ _ => rfl⟩ | exact below_push1 rfl rfl rfl rfl | exact below_push2 rfl rfl rfl rfl) bb) N_A.out.lt))); (try (replace N_B := Lib.hid (Box2.below N_B.out (nextw (by first | exact ⟨rfl, rfl, rfl, Nat.le_refl _, fun _ _ => rfl⟩ | exact below_push1 rfl rfl rfl rfl | exact below_push2 rfl rfl rfl rfl) bb) N_B.out.lt))); (first | (have h2 := box_new2A (w := wv0) bb0 rfl; have N_C := Lib.hid h2.1; have N_D := Lib.hid h2.2; clear h2) | (have h2 := box_new1A (w := wv0) bb0 rfl; have N_C := Lib.hid h2; clear h2) | skip); clear bb0; replace bb := nextw (w0 := wv0) (by first | exact ⟨rfl, rfl, rfl, Nat.le_refl _, fun _ _ => rfl⟩ | exact below_push1 rfl rfl rfl rfl | exact below_push2 rfl rfl rfl rfl) bb; replace B_a := Lib.hid (Box2.below B_a.out bb B_a.out.lt); replace B_b := Lib.hid (Box2.below B_b.out bb B_b.out.lt); replace HC := Lib.hid (nextw HC.out bb); clear bb; clear c0a c1a c0b c1b; have c0a := B_a.out.c0; have c1a := B_a.out.c1; have c0b := B_b.out.c0; have c1b := B_b.out.c1; have za2 := B_a.out.lt; have zb2 := B_b.out.lt; have hle2 := HC.out.size; (try (have c0A := N_A.out.c0; have c1A := N_A.out.c1; have f0A := N_A.out.f0; have f1A := N_A.out.f1)); (try (have c0B := N_B.out.c0; have c1B := N_B.out.c1; have f0B := N_B.out.f0; have f1B := N_B.out.f1)); (try (have c0C := N_C.out.c0; have c1C := N_C.out.c1; have f0C := N_C.out.f0; have f1C := N_C.out.f1)); (try (have c0D := N_D.out.c0; have c1D := N_D.out.c1; have f0D := N_D.out.f0; have f1D := N_D.out.f1)); (try (have lA := N_A.out.lt; have lnA := Nat.ne_of_lt lA; have lmA := Nat.ne_of_gt lA)); (try (have lB := N_B.out.lt; have lnB := Nat.ne_of_lt lB; have lmB := Nat.ne_of_gt lB)); (try (have lC := N_C.out.lt; have lnC := Nat.ne_of_lt lC; have lmC := Nat.ne_of_gt lC)); (try (have lD := N_D.out.lt; have lnD := Nat.ne_of_lt lD; have lmD := Nat.ne_of_gt lD)); (try (have lbA0 := Nat.ne_of_lt LWA0.out; have lcA0 := Nat.ne_of_gt LWA0.out)); (try (have lbB0 := Nat.ne_of_lt LWB0.out; have lcB0 := Nat.ne_of_gt LWB0.out)); have tk2 : True := trivial))) | fail
    all_goals go_wp2_with fail
    all_goals go_meet
    all_goals (first | (with_reducible exact fin1A HC.out) | (with_reducible exact fin1bA HC.out) | (with_reducible exact fin2A HC.out N_A.out (by omega)) | (with_reducible exact fin2bA HC.out N_A.out (by omega)) | (with_reducible exact fin2A HC.out N_C.out (by omega)) | (with_reducible exact fin2bA HC.out N_C.out (by omega)) | (with_reducible exact fin3A HC.out N_A.out N_B.out (by omega) (by omega) (by omega)) | (with_reducible exact fin3A HC.out N_A.out N_C.out (by omega) (by omega) (by omega)) | (with_reducible exact fin3A HC.out N_B.out N_C.out (by omega) (by omega) (by omega)) | (with_reducible exact fin3A HC.out N_C.out N_D.out (by omega) (by omega) (by omega)) | (with_reducible exact fin3A HC.out N_B.out N_A.out (by omega) (by omega) (by omega)) | (with_reducible exact fin3A HC.out N_C.out N_A.out (by omega) (by omega) (by omega)) | (with_reducible exact fin3A HC.out N_C.out N_B.out (by omega) (by omega) (by omega)) | (with_reducible exact fin3A HC.out N_D.out N_C.out (by omega) (by omega) (by omega)))
  case rest =>
    rename World => wcp
    obtain ⟨pp, pq, rfl, rfl, hnep, hgep, hgeq, bqp, bqq, bb⟩ := hcut
    have ltap := B_a.out.lt
    have ltbp := B_b.out.lt
    have ltrp := B_r.out.lt
    replace bb := nextw (w0 := w2) (by exact ⟨rfl, rfl, rfl, Nat.le_refl _, fun _ _ => rfl⟩) bb
    replace B_a := Lib.hid (Box2.below B_a.out bb B_a.out.lt)
    replace B_b := Lib.hid (Box2.below B_b.out bb B_b.out.lt)
    replace B_r := Lib.hid (Box2.below B_r.out bb B_r.out.lt)
    replace HB := Lib.hid (nextw HB.out bb)
    clear bb
    have B_p := Lib.hid bqp
    have B_q := Lib.hid bqq
    clear bqp bqq
    have c0p := B_p.out.c0
    have c1p := B_p.out.c1
    have c0q := B_q.out.c0
    have c1q := B_q.out.c1
    have sS := Box2.store B_r.out q Q
    have s0 := sS.c0
    have s1 := sS.c1
    have HF := Lib.hid (Below.store2 HB.out (y := w.heap.size + 1 + 1) (by omega) (.int .i64 q) (.int .i64 Q))
    clear sS
    have c0r := B_r.out.c0
    have f0r := B_r.out.f0
    have c1r := B_r.out.c1
    have f1r := B_r.out.f1
    go_wp2_with fail
    exact bodyPost_ret (v := .tuple #[.agg #[.int .i64 q, .int .i64 Q], .int .i64 0]) (by simp [results, Try.results41, go_sem, s0, s1]) rfl ⟨rfl, nextw HF.out (by exact ⟨rfl, rfl, rfl, Nat.le_refl _, fun _ _ => rfl⟩)⟩

set_option maxRecDepth 100000 in
set_option maxHeartbeats 4000000 in
theorem Hull_2 (f c g d p P q Q : Int) (ha : OkA f c) (hb : OkA g d) (hp : covF f c g d = p) (hP : covC f c g d = P) (hq : covF g d f c = q) (hQ : covC g d f c = Q) (h1 : (Q == P) = true) (h3 : ¬ Q < P) (h2 : q < p) (w : World) :
    Calls Try.prog 41 #[av f c, av g d] w fun e w' => e = .returned (.tuple #[av q Q, .int .i64 0]) ∧ Below w.heap.size w w' := by
  have HV := Lib.hid (fun w => VA_yes ha w)
  have HW := Lib.hid (fun w => VA_yes hb w)
  have HA := Lib.hid (fun w => cover_at ha hb hp hP w)
  have HB2 := Lib.hid (fun w => cover_at hb ha hq hQ w)
  clear ha hb hp hP hq hQ
  have HB := Lib.hid (show Below w.heap.size w (((w.alloc (.cells #[.int .i64 f, .int .i64 c] 59)).alloc (.cells #[.int .i64 g, .int .i64 d] 59)).alloc (.cells #[.int .i64 0, .int .i64 0] 59)) from ((((Below.refl _ _).alloc (by simp <;> omega) _).alloc (by simp <;> omega) _).alloc (by simp <;> omega) _))
  have B_a : Box2 (((w.alloc (.cells #[.int .i64 f, .int .i64 c] 59)).alloc (.cells #[.int .i64 g, .int .i64 d] 59)).alloc (.cells #[.int .i64 0, .int .i64 0] 59)) (w.heap.size) f c := by have h := (Box2.alloc (Box2.alloc (Box2.new w f c) (.cells #[.int .i64 g, .int .i64 d] 59)) (.cells #[.int .i64 0, .int .i64 0] 59)); simpa using h
  replace B_a := Lib.hid B_a
  have B_b : Box2 (((w.alloc (.cells #[.int .i64 f, .int .i64 c] 59)).alloc (.cells #[.int .i64 g, .int .i64 d] 59)).alloc (.cells #[.int .i64 0, .int .i64 0] 59)) (w.heap.size + 1) g d := by have h := (Box2.alloc (Box2.new (w.alloc (.cells #[.int .i64 f, .int .i64 c] 59)) g d) (.cells #[.int .i64 0, .int .i64 0] 59)); simpa using h
  replace B_b := Lib.hid B_b
  have B_r : Box2 (((w.alloc (.cells #[.int .i64 f, .int .i64 c] 59)).alloc (.cells #[.int .i64 g, .int .i64 d] 59)).alloc (.cells #[.int .i64 0, .int .i64 0] 59)) (w.heap.size + 1 + 1) 0 0 := by have h := (Box2.new ((w.alloc (.cells #[.int .i64 f, .int .i64 c] 59)).alloc (.cells #[.int .i64 g, .int .i64 d] 59)) 0 0); simpa using h
  replace B_r := Lib.hid B_r
  go_enter Try.func41, Try.ntmps41
  go_wp2_with fail
  generalize ((w.alloc (.cells #[.int .i64 f, .int .i64 c] 59)).alloc (.cells #[.int .i64 g, .int .i64 d] 59)).alloc (.cells #[.int .i64 0, .int .i64 0] 59) = W0 at *
  have c0a := B_a.out.c0
  have c1a := B_a.out.c1
  have c0b := B_b.out.c0
  have c1b := B_b.out.c1
  refine (HV.out _).mono ?_
  clear c0a c1a c0b c1b
  rintro e w1 ⟨rfl, bb⟩
  replace bb := nextw (w0 := W0) (by exact ⟨rfl, rfl, rfl, Nat.le_refl _, fun _ _ => rfl⟩) bb
  replace B_a := Lib.hid (Box2.below B_a.out bb B_a.out.lt)
  replace B_b := Lib.hid (Box2.below B_b.out bb B_b.out.lt)
  replace B_r := Lib.hid (Box2.below B_r.out bb B_r.out.lt)
  replace HB := Lib.hid (nextw HB.out bb)
  clear bb
  have c0a := B_a.out.c0
  have c1a := B_a.out.c1
  have c0b := B_b.out.c0
  have c1b := B_b.out.c1
  go_wp2_with fail
  refine (HW.out _).mono ?_
  clear c0a c1a c0b c1b
  rintro e w2 ⟨rfl, bb⟩
  replace bb := nextw (w0 := w1) (by exact ⟨rfl, rfl, rfl, Nat.le_refl _, fun _ _ => rfl⟩) bb
  replace B_a := Lib.hid (Box2.below B_a.out bb B_a.out.lt)
  replace B_b := Lib.hid (Box2.below B_b.out bb B_b.out.lt)
  replace B_r := Lib.hid (Box2.below B_r.out bb B_r.out.lt)
  replace HB := Lib.hid (nextw HB.out bb)
  clear bb
  have c0a := B_a.out.c0
  have c1a := B_a.out.c1
  have c0b := B_b.out.c0
  have c1b := B_b.out.c1
  clear c0a c1a c0b c1b
  go_upto_region 3 with (fail)
  go_cut [6, 7] (fun a b wx => TwoA w2 p P q Q a b wx)
  case first =>
    have HC := Lib.hid (Below.refl w2.heap.size w2)
    have za0 := B_a.out.lt
    have zb0 := B_b.out.lt
    have c0a := B_a.out.c0
    have c1a := B_a.out.c1
    have c0b := B_b.out.c0
    have c1b := B_b.out.c1
    have tk0 : True := trivial
    first | (go_region_held3 (fun w' => w'.cell? ⟨w.heap.size, 0, none⟩ = some (.int .i64 f) ∧ w'.cell? ⟨w.heap.size, 1, none⟩ = some (.int .i64 c) ∧ w'.cell? ⟨w.heap.size + 1, 0, none⟩ = some (.int .i64 g) ∧ w'.cell? ⟨w.heap.size + 1, 1, none⟩ = some (.int .i64 d)) (((try dsimp only); (repeat' apply And.intro) <;> (first | (with_reducible assumption) | ((repeat (first | (with_reducible refine Eq.trans (cell_drew1 _ _) ?_) | (with_reducible refine Eq.trans (World.cell?_alloc_lt _ _ _ (by first | (dsimp only; omega) | (simp only [World.size_alloc, World.size_setCell]; omega))) ?_) | (with_reducible refine Eq.trans (hfar2 (by omega) _ _) ?_))); with_reducible assumption) | assumption | go_keep)))
    (first
      | (clear tk0; go_at_call 60; refine (HA.out _).mono ?_; rintro e wv0 ⟨rfl, bb⟩; have bb0 := bb; (first | (have h2 := box_new2A (w := w2) bb0 rfl; have N_A := Lib.hid h2.1; have N_B := Lib.hid h2.2; clear h2) | (have h2 := box_new1A (w := w2) bb0 rfl; have N_A := Lib.hid h2; clear h2) | skip); clear bb0; replace bb := nextw (w0 := w2) (by first | exact ⟨rfl, rfl, rfl, Nat.le_refl _, fun _ _ => rfl⟩ | exact below_push1 rfl rfl rfl rfl | exact below_push2 rfl rfl rfl rfl) bb; replace B_a := Lib.hid (Box2.below B_a.out bb B_a.out.lt); replace B_b := Lib.hid (Box2.below B_b.out bb B_b.out.lt); replace HC := Lib.hid (nextw HC.out bb); clear bb; clear c0a c1a c0b c1b; have c0a := B_a.out.c0; have c1a := B_a.out.c1; have c0b := B_b.out.c0; have c1b := B_b.out.c1; have za1 := B_a.out.lt; have zb1 := B_b.out.lt; have hle1 := HC.out.size; (try (have LWA0 := Lib.hid N_A.out.lt)); (try (have LWB0 := Lib.hid N_B.out.lt)); have tk1 : True := trivial)
      | (clear tk1; go_at_call 60; refine (HB2.out _).mono ?_; rintro e wv1 ⟨rfl, bb⟩; have bb0 := bb; (try (replace N_A := Lib.hid (Box2.below N_A.out (nextw (by first | exact ⟨rfl, rfl, rfl, Nat.le_refl _, fun _ _ => rfl⟩ | exact below_push1 rfl rfl rfl rfl | exact below_push2 rfl rfl rfl rfl) bb) N_A.out.lt))); (try (replace N_B := Lib.hid (Box2.below N_B.out (nextw (by first | exact ⟨rfl, rfl, rfl, Nat.le_refl _, fun _ _ => rfl⟩ | exact below_push1 rfl rfl rfl rfl | exact below_push2 rfl rfl rfl rfl) bb) N_B.out.lt))); (first | (have h2 := box_new2A (w := wv0) bb0 rfl; have N_C := Lib.hid h2.1; have N_D := Lib.hid h2.2; clear h2) | (have h2 := box_new1A (w := wv0) bb0 rfl; have N_C := Lib.hid h2; clear h2) | skip); clear bb0; replace bb := nextw (w0 := wv0) (by first | exact ⟨rfl, rfl, rfl, Nat.le_refl _, fun _ _ => rfl⟩ | exact below_push1 rfl rfl rfl rfl | exact below_push2 rfl rfl rfl rfl) bb; replace B_a := Lib.hid (Box2.below B_a.out bb B_a.out.lt); replace B_b := Lib.hid (Box2.below B_b.out bb B_b.out.lt); replace HC := Lib.hid (nextw HC.out bb); clear bb; clear c0a c1a c0b c1b; have c0a := B_a.out.c0; have c1a := B_a.out.c1; have c0b := B_b.out.c0; have c1b := B_b.out.c1; have za2 := B_a.out.lt; have zb2 := B_b.out.lt; have hle2 := HC.out.size; (try (have c0A := N_A.out.c0; have c1A := N_A.out.c1; have f0A := N_A.out.f0; have f1A := N_A.out.f1)); (try (have c0B := N_B.out.c0; have c1B := N_B.out.c1; have f0B := N_B.out.f0; have f1B := N_B.out.f1)); (try (have c0C := N_C.out.c0; have c1C := N_C.out.c1; have f0C := N_C.out.f0; have f1C := N_C.out.f1)); (try (have c0D := N_D.out.c0; have c1D := N_D.out.c1; have f0D := N_D.out.f0; have f1D := N_D.out.f1)); (try (have lA := N_A.out.lt; have lnA := Nat.ne_of_lt lA; have lmA := Nat.ne_of_gt lA)); (try (have lB := N_B.out.lt; have lnB := Nat.ne_of_lt lB; have lmB := Nat.ne_of_gt lB)); (try (have lC := N_C.out.lt; have lnC := Nat.ne_of_lt lC; have lmC := Nat.ne_of_gt lC)); (try (have lD := N_D.out.lt; have lnD := Nat.ne_of_lt lD; have lmD := Nat.ne_of_gt lD)); (try (have lbA0 := Nat.ne_of_lt LWA0.out; have lcA0 := Nat.ne_of_gt LWA0.out)); (try (have lbB0 := Nat.ne_of_lt LWB0.out; have lcB0 := Nat.ne_of_gt LWB0.out)); have tk2 : True := trivial))) | fail
    all_goals go_wp2_with fail
    all_goals go_meet
    all_goals (first | (with_reducible exact fin1A HC.out) | (with_reducible exact fin1bA HC.out) | (with_reducible exact fin2A HC.out N_A.out (by omega)) | (with_reducible exact fin2bA HC.out N_A.out (by omega)) | (with_reducible exact fin2A HC.out N_C.out (by omega)) | (with_reducible exact fin2bA HC.out N_C.out (by omega)) | (with_reducible exact fin3A HC.out N_A.out N_B.out (by omega) (by omega) (by omega)) | (with_reducible exact fin3A HC.out N_A.out N_C.out (by omega) (by omega) (by omega)) | (with_reducible exact fin3A HC.out N_B.out N_C.out (by omega) (by omega) (by omega)) | (with_reducible exact fin3A HC.out N_C.out N_D.out (by omega) (by omega) (by omega)) | (with_reducible exact fin3A HC.out N_B.out N_A.out (by omega) (by omega) (by omega)) | (with_reducible exact fin3A HC.out N_C.out N_A.out (by omega) (by omega) (by omega)) | (with_reducible exact fin3A HC.out N_C.out N_B.out (by omega) (by omega) (by omega)) | (with_reducible exact fin3A HC.out N_D.out N_C.out (by omega) (by omega) (by omega)))
  case rest =>
    rename World => wcp
    obtain ⟨pp, pq, rfl, rfl, hnep, hgep, hgeq, bqp, bqq, bb⟩ := hcut
    have ltap := B_a.out.lt
    have ltbp := B_b.out.lt
    have ltrp := B_r.out.lt
    replace bb := nextw (w0 := w2) (by exact ⟨rfl, rfl, rfl, Nat.le_refl _, fun _ _ => rfl⟩) bb
    replace B_a := Lib.hid (Box2.below B_a.out bb B_a.out.lt)
    replace B_b := Lib.hid (Box2.below B_b.out bb B_b.out.lt)
    replace B_r := Lib.hid (Box2.below B_r.out bb B_r.out.lt)
    replace HB := Lib.hid (nextw HB.out bb)
    clear bb
    have B_p := Lib.hid bqp
    have B_q := Lib.hid bqq
    clear bqp bqq
    have c0p := B_p.out.c0
    have c1p := B_p.out.c1
    have c0q := B_q.out.c0
    have c1q := B_q.out.c1
    have sS := Box2.store B_r.out q Q
    have s0 := sS.c0
    have s1 := sS.c1
    have HF := Lib.hid (Below.store2 HB.out (y := w.heap.size + 1 + 1) (by omega) (.int .i64 q) (.int .i64 Q))
    clear sS
    have c0r := B_r.out.c0
    have f0r := B_r.out.f0
    have c1r := B_r.out.c1
    have f1r := B_r.out.f1
    go_wp2_with fail
    exact bodyPost_ret (v := .tuple #[.agg #[.int .i64 q, .int .i64 Q], .int .i64 0]) (by simp [results, Try.results41, go_sem, s0, s1]) rfl ⟨rfl, nextw HF.out (by exact ⟨rfl, rfl, rfl, Nat.le_refl _, fun _ _ => rfl⟩)⟩

set_option maxRecDepth 100000 in
set_option maxHeartbeats 4000000 in
theorem Hull_3 (f c g d p P q Q : Int) (ha : OkA f c) (hb : OkA g d) (hp : covF f c g d = p) (hP : covC f c g d = P) (hq : covF g d f c = q) (hQ : covC g d f c = Q) (h1 : (Q == P) = true) (h3 : ¬ Q < P) (h2 : ¬ q < p) (w : World) :
    Calls Try.prog 41 #[av f c, av g d] w fun e w' => e = .returned (.tuple #[av p P, .int .i64 0]) ∧ Below w.heap.size w w' := by
  have HV := Lib.hid (fun w => VA_yes ha w)
  have HW := Lib.hid (fun w => VA_yes hb w)
  have HA := Lib.hid (fun w => cover_at ha hb hp hP w)
  have HB2 := Lib.hid (fun w => cover_at hb ha hq hQ w)
  clear ha hb hp hP hq hQ
  have HB := Lib.hid (show Below w.heap.size w (((w.alloc (.cells #[.int .i64 f, .int .i64 c] 59)).alloc (.cells #[.int .i64 g, .int .i64 d] 59)).alloc (.cells #[.int .i64 0, .int .i64 0] 59)) from ((((Below.refl _ _).alloc (by simp <;> omega) _).alloc (by simp <;> omega) _).alloc (by simp <;> omega) _))
  have B_a : Box2 (((w.alloc (.cells #[.int .i64 f, .int .i64 c] 59)).alloc (.cells #[.int .i64 g, .int .i64 d] 59)).alloc (.cells #[.int .i64 0, .int .i64 0] 59)) (w.heap.size) f c := by have h := (Box2.alloc (Box2.alloc (Box2.new w f c) (.cells #[.int .i64 g, .int .i64 d] 59)) (.cells #[.int .i64 0, .int .i64 0] 59)); simpa using h
  replace B_a := Lib.hid B_a
  have B_b : Box2 (((w.alloc (.cells #[.int .i64 f, .int .i64 c] 59)).alloc (.cells #[.int .i64 g, .int .i64 d] 59)).alloc (.cells #[.int .i64 0, .int .i64 0] 59)) (w.heap.size + 1) g d := by have h := (Box2.alloc (Box2.new (w.alloc (.cells #[.int .i64 f, .int .i64 c] 59)) g d) (.cells #[.int .i64 0, .int .i64 0] 59)); simpa using h
  replace B_b := Lib.hid B_b
  have B_r : Box2 (((w.alloc (.cells #[.int .i64 f, .int .i64 c] 59)).alloc (.cells #[.int .i64 g, .int .i64 d] 59)).alloc (.cells #[.int .i64 0, .int .i64 0] 59)) (w.heap.size + 1 + 1) 0 0 := by have h := (Box2.new ((w.alloc (.cells #[.int .i64 f, .int .i64 c] 59)).alloc (.cells #[.int .i64 g, .int .i64 d] 59)) 0 0); simpa using h
  replace B_r := Lib.hid B_r
  go_enter Try.func41, Try.ntmps41
  go_wp2_with fail
  generalize ((w.alloc (.cells #[.int .i64 f, .int .i64 c] 59)).alloc (.cells #[.int .i64 g, .int .i64 d] 59)).alloc (.cells #[.int .i64 0, .int .i64 0] 59) = W0 at *
  have c0a := B_a.out.c0
  have c1a := B_a.out.c1
  have c0b := B_b.out.c0
  have c1b := B_b.out.c1
  refine (HV.out _).mono ?_
  clear c0a c1a c0b c1b
  rintro e w1 ⟨rfl, bb⟩
  replace bb := nextw (w0 := W0) (by exact ⟨rfl, rfl, rfl, Nat.le_refl _, fun _ _ => rfl⟩) bb
  replace B_a := Lib.hid (Box2.below B_a.out bb B_a.out.lt)
  replace B_b := Lib.hid (Box2.below B_b.out bb B_b.out.lt)
  replace B_r := Lib.hid (Box2.below B_r.out bb B_r.out.lt)
  replace HB := Lib.hid (nextw HB.out bb)
  clear bb
  have c0a := B_a.out.c0
  have c1a := B_a.out.c1
  have c0b := B_b.out.c0
  have c1b := B_b.out.c1
  go_wp2_with fail
  refine (HW.out _).mono ?_
  clear c0a c1a c0b c1b
  rintro e w2 ⟨rfl, bb⟩
  replace bb := nextw (w0 := w1) (by exact ⟨rfl, rfl, rfl, Nat.le_refl _, fun _ _ => rfl⟩) bb
  replace B_a := Lib.hid (Box2.below B_a.out bb B_a.out.lt)
  replace B_b := Lib.hid (Box2.below B_b.out bb B_b.out.lt)
  replace B_r := Lib.hid (Box2.below B_r.out bb B_r.out.lt)
  replace HB := Lib.hid (nextw HB.out bb)
  clear bb
  have c0a := B_a.out.c0
  have c1a := B_a.out.c1
  have c0b := B_b.out.c0
  have c1b := B_b.out.c1
  clear c0a c1a c0b c1b
  go_upto_region 3 with (fail)
  go_cut [6, 7] (fun a b wx => TwoA w2 p P q Q a b wx)
  case first =>
    have HC := Lib.hid (Below.refl w2.heap.size w2)
    have za0 := B_a.out.lt
    have zb0 := B_b.out.lt
    have c0a := B_a.out.c0
    have c1a := B_a.out.c1
    have c0b := B_b.out.c0
    have c1b := B_b.out.c1
    have tk0 : True := trivial
    first | (go_region_held3 (fun w' => w'.cell? ⟨w.heap.size, 0, none⟩ = some (.int .i64 f) ∧ w'.cell? ⟨w.heap.size, 1, none⟩ = some (.int .i64 c) ∧ w'.cell? ⟨w.heap.size + 1, 0, none⟩ = some (.int .i64 g) ∧ w'.cell? ⟨w.heap.size + 1, 1, none⟩ = some (.int .i64 d)) (((try dsimp only); (repeat' apply And.intro) <;> (first | (with_reducible assumption) | ((repeat (first | (with_reducible refine Eq.trans (cell_drew1 _ _) ?_) | (with_reducible refine Eq.trans (World.cell?_alloc_lt _ _ _ (by first | (dsimp only; omega) | (simp only [World.size_alloc, World.size_setCell]; omega))) ?_) | (with_reducible refine Eq.trans (hfar2 (by omega) _ _) ?_))); with_reducible assumption) | assumption | go_keep)))
    (first
      | (clear tk0; go_at_call 60; refine (HA.out _).mono ?_; rintro e wv0 ⟨rfl, bb⟩; have bb0 := bb; (first | (have h2 := box_new2A (w := w2) bb0 rfl; have N_A := Lib.hid h2.1; have N_B := Lib.hid h2.2; clear h2) | (have h2 := box_new1A (w := w2) bb0 rfl; have N_A := Lib.hid h2; clear h2) | skip); clear bb0; replace bb := nextw (w0 := w2) (by first | exact ⟨rfl, rfl, rfl, Nat.le_refl _, fun _ _ => rfl⟩ | exact below_push1 rfl rfl rfl rfl | exact below_push2 rfl rfl rfl rfl) bb; replace B_a := Lib.hid (Box2.below B_a.out bb B_a.out.lt); replace B_b := Lib.hid (Box2.below B_b.out bb B_b.out.lt); replace HC := Lib.hid (nextw HC.out bb); clear bb; clear c0a c1a c0b c1b; have c0a := B_a.out.c0; have c1a := B_a.out.c1; have c0b := B_b.out.c0; have c1b := B_b.out.c1; have za1 := B_a.out.lt; have zb1 := B_b.out.lt; have hle1 := HC.out.size; (try (have LWA0 := Lib.hid N_A.out.lt)); (try (have LWB0 := Lib.hid N_B.out.lt)); have tk1 : True := trivial)
      | (clear tk1; go_at_call 60; refine (HB2.out _).mono ?_; rintro e wv1 ⟨rfl, bb⟩; have bb0 := bb; (try (replace N_A := Lib.hid (Box2.below N_A.out (nextw (by first | exact ⟨rfl, rfl, rfl, Nat.le_refl _, fun _ _ => rfl⟩ | exact below_push1 rfl rfl rfl rfl | exact below_push2 rfl rfl rfl rfl) bb) N_A.out.lt))); (try (replace N_B := Lib.hid (Box2.below N_B.out (nextw (by first | exact ⟨rfl, rfl, rfl, Nat.le_refl _, fun _ _ => rfl⟩ | exact below_push1 rfl rfl rfl rfl | exact below_push2 rfl rfl rfl rfl) bb) N_B.out.lt))); (first | (have h2 := box_new2A (w := wv0) bb0 rfl; have N_C := Lib.hid h2.1; have N_D := Lib.hid h2.2; clear h2) | (have h2 := box_new1A (w := wv0) bb0 rfl; have N_C := Lib.hid h2; clear h2) | skip); clear bb0; replace bb := nextw (w0 := wv0) (by first | exact ⟨rfl, rfl, rfl, Nat.le_refl _, fun _ _ => rfl⟩ | exact below_push1 rfl rfl rfl rfl | exact below_push2 rfl rfl rfl rfl) bb; replace B_a := Lib.hid (Box2.below B_a.out bb B_a.out.lt); replace B_b := Lib.hid (Box2.below B_b.out bb B_b.out.lt); replace HC := Lib.hid (nextw HC.out bb); clear bb; clear c0a c1a c0b c1b; have c0a := B_a.out.c0; have c1a := B_a.out.c1; have c0b := B_b.out.c0; have c1b := B_b.out.c1; have za2 := B_a.out.lt; have zb2 := B_b.out.lt; have hle2 := HC.out.size; (try (have c0A := N_A.out.c0; have c1A := N_A.out.c1; have f0A := N_A.out.f0; have f1A := N_A.out.f1)); (try (have c0B := N_B.out.c0; have c1B := N_B.out.c1; have f0B := N_B.out.f0; have f1B := N_B.out.f1)); (try (have c0C := N_C.out.c0; have c1C := N_C.out.c1; have f0C := N_C.out.f0; have f1C := N_C.out.f1)); (try (have c0D := N_D.out.c0; have c1D := N_D.out.c1; have f0D := N_D.out.f0; have f1D := N_D.out.f1)); (try (have lA := N_A.out.lt; have lnA := Nat.ne_of_lt lA; have lmA := Nat.ne_of_gt lA)); (try (have lB := N_B.out.lt; have lnB := Nat.ne_of_lt lB; have lmB := Nat.ne_of_gt lB)); (try (have lC := N_C.out.lt; have lnC := Nat.ne_of_lt lC; have lmC := Nat.ne_of_gt lC)); (try (have lD := N_D.out.lt; have lnD := Nat.ne_of_lt lD; have lmD := Nat.ne_of_gt lD)); (try (have lbA0 := Nat.ne_of_lt LWA0.out; have lcA0 := Nat.ne_of_gt LWA0.out)); (try (have lbB0 := Nat.ne_of_lt LWB0.out; have lcB0 := Nat.ne_of_gt LWB0.out)); have tk2 : True := trivial))) | fail
    all_goals go_wp2_with fail
    all_goals go_meet
    all_goals (first | (with_reducible exact fin1A HC.out) | (with_reducible exact fin1bA HC.out) | (with_reducible exact fin2A HC.out N_A.out (by omega)) | (with_reducible exact fin2bA HC.out N_A.out (by omega)) | (with_reducible exact fin2A HC.out N_C.out (by omega)) | (with_reducible exact fin2bA HC.out N_C.out (by omega)) | (with_reducible exact fin3A HC.out N_A.out N_B.out (by omega) (by omega) (by omega)) | (with_reducible exact fin3A HC.out N_A.out N_C.out (by omega) (by omega) (by omega)) | (with_reducible exact fin3A HC.out N_B.out N_C.out (by omega) (by omega) (by omega)) | (with_reducible exact fin3A HC.out N_C.out N_D.out (by omega) (by omega) (by omega)) | (with_reducible exact fin3A HC.out N_B.out N_A.out (by omega) (by omega) (by omega)) | (with_reducible exact fin3A HC.out N_C.out N_A.out (by omega) (by omega) (by omega)) | (with_reducible exact fin3A HC.out N_C.out N_B.out (by omega) (by omega) (by omega)) | (with_reducible exact fin3A HC.out N_D.out N_C.out (by omega) (by omega) (by omega)))
  case rest =>
    rename World => wcp
    obtain ⟨pp, pq, rfl, rfl, hnep, hgep, hgeq, bqp, bqq, bb⟩ := hcut
    have ltap := B_a.out.lt
    have ltbp := B_b.out.lt
    have ltrp := B_r.out.lt
    replace bb := nextw (w0 := w2) (by exact ⟨rfl, rfl, rfl, Nat.le_refl _, fun _ _ => rfl⟩) bb
    replace B_a := Lib.hid (Box2.below B_a.out bb B_a.out.lt)
    replace B_b := Lib.hid (Box2.below B_b.out bb B_b.out.lt)
    replace B_r := Lib.hid (Box2.below B_r.out bb B_r.out.lt)
    replace HB := Lib.hid (nextw HB.out bb)
    clear bb
    have B_p := Lib.hid bqp
    have B_q := Lib.hid bqq
    clear bqp bqq
    have c0p := B_p.out.c0
    have c1p := B_p.out.c1
    have c0q := B_q.out.c0
    have c1q := B_q.out.c1
    have sS := Box2.store B_r.out p P
    have s0 := sS.c0
    have s1 := sS.c1
    have HF := Lib.hid (Below.store2 HB.out (y := w.heap.size + 1 + 1) (by omega) (.int .i64 p) (.int .i64 P))
    clear sS
    have c0r := B_r.out.c0
    have f0r := B_r.out.f0
    have c1r := B_r.out.c1
    have f1r := B_r.out.f1
    go_wp2_with fail
    exact bodyPost_ret (v := .tuple #[.agg #[.int .i64 p, .int .i64 P], .int .i64 0]) (by simp [results, Try.results41, go_sem, s0, s1]) rfl ⟨rfl, nextw HF.out (by exact ⟨rfl, rfl, rfl, Nat.le_refl _, fun _ _ => rfl⟩)⟩

set_option maxRecDepth 100000 in
set_option maxHeartbeats 4000000 in
theorem Hull_4 (f c g d p P q Q : Int) (ha : OkA f c) (hb : OkA g d) (hp : covF f c g d = p) (hP : covC f c g d = P) (hq : covF g d f c = q) (hQ : covC g d f c = Q) (h1 : (Q == P) = false) (h3 : ¬ Q < P) (w : World) :
    Calls Try.prog 41 #[av f c, av g d] w fun e w' => e = .returned (.tuple #[av p P, .int .i64 0]) ∧ Below w.heap.size w w' := by
  have HV := Lib.hid (fun w => VA_yes ha w)
  have HW := Lib.hid (fun w => VA_yes hb w)
  have HA := Lib.hid (fun w => cover_at ha hb hp hP w)
  have HB2 := Lib.hid (fun w => cover_at hb ha hq hQ w)
  clear ha hb hp hP hq hQ
  have HB := Lib.hid (show Below w.heap.size w (((w.alloc (.cells #[.int .i64 f, .int .i64 c] 59)).alloc (.cells #[.int .i64 g, .int .i64 d] 59)).alloc (.cells #[.int .i64 0, .int .i64 0] 59)) from ((((Below.refl _ _).alloc (by simp <;> omega) _).alloc (by simp <;> omega) _).alloc (by simp <;> omega) _))
  have B_a : Box2 (((w.alloc (.cells #[.int .i64 f, .int .i64 c] 59)).alloc (.cells #[.int .i64 g, .int .i64 d] 59)).alloc (.cells #[.int .i64 0, .int .i64 0] 59)) (w.heap.size) f c := by have h := (Box2.alloc (Box2.alloc (Box2.new w f c) (.cells #[.int .i64 g, .int .i64 d] 59)) (.cells #[.int .i64 0, .int .i64 0] 59)); simpa using h
  replace B_a := Lib.hid B_a
  have B_b : Box2 (((w.alloc (.cells #[.int .i64 f, .int .i64 c] 59)).alloc (.cells #[.int .i64 g, .int .i64 d] 59)).alloc (.cells #[.int .i64 0, .int .i64 0] 59)) (w.heap.size + 1) g d := by have h := (Box2.alloc (Box2.new (w.alloc (.cells #[.int .i64 f, .int .i64 c] 59)) g d) (.cells #[.int .i64 0, .int .i64 0] 59)); simpa using h
  replace B_b := Lib.hid B_b
  have B_r : Box2 (((w.alloc (.cells #[.int .i64 f, .int .i64 c] 59)).alloc (.cells #[.int .i64 g, .int .i64 d] 59)).alloc (.cells #[.int .i64 0, .int .i64 0] 59)) (w.heap.size + 1 + 1) 0 0 := by have h := (Box2.new ((w.alloc (.cells #[.int .i64 f, .int .i64 c] 59)).alloc (.cells #[.int .i64 g, .int .i64 d] 59)) 0 0); simpa using h
  replace B_r := Lib.hid B_r
  go_enter Try.func41, Try.ntmps41
  go_wp2_with fail
  generalize ((w.alloc (.cells #[.int .i64 f, .int .i64 c] 59)).alloc (.cells #[.int .i64 g, .int .i64 d] 59)).alloc (.cells #[.int .i64 0, .int .i64 0] 59) = W0 at *
  have c0a := B_a.out.c0
  have c1a := B_a.out.c1
  have c0b := B_b.out.c0
  have c1b := B_b.out.c1
  refine (HV.out _).mono ?_
  clear c0a c1a c0b c1b
  rintro e w1 ⟨rfl, bb⟩
  replace bb := nextw (w0 := W0) (by exact ⟨rfl, rfl, rfl, Nat.le_refl _, fun _ _ => rfl⟩) bb
  replace B_a := Lib.hid (Box2.below B_a.out bb B_a.out.lt)
  replace B_b := Lib.hid (Box2.below B_b.out bb B_b.out.lt)
  replace B_r := Lib.hid (Box2.below B_r.out bb B_r.out.lt)
  replace HB := Lib.hid (nextw HB.out bb)
  clear bb
  have c0a := B_a.out.c0
  have c1a := B_a.out.c1
  have c0b := B_b.out.c0
  have c1b := B_b.out.c1
  go_wp2_with fail
  refine (HW.out _).mono ?_
  clear c0a c1a c0b c1b
  rintro e w2 ⟨rfl, bb⟩
  replace bb := nextw (w0 := w1) (by exact ⟨rfl, rfl, rfl, Nat.le_refl _, fun _ _ => rfl⟩) bb
  replace B_a := Lib.hid (Box2.below B_a.out bb B_a.out.lt)
  replace B_b := Lib.hid (Box2.below B_b.out bb B_b.out.lt)
  replace B_r := Lib.hid (Box2.below B_r.out bb B_r.out.lt)
  replace HB := Lib.hid (nextw HB.out bb)
  clear bb
  have c0a := B_a.out.c0
  have c1a := B_a.out.c1
  have c0b := B_b.out.c0
  have c1b := B_b.out.c1
  clear c0a c1a c0b c1b
  go_upto_region 3 with (fail)
  go_cut [6, 7] (fun a b wx => TwoA w2 p P q Q a b wx)
  case first =>
    have HC := Lib.hid (Below.refl w2.heap.size w2)
    have za0 := B_a.out.lt
    have zb0 := B_b.out.lt
    have c0a := B_a.out.c0
    have c1a := B_a.out.c1
    have c0b := B_b.out.c0
    have c1b := B_b.out.c1
    have tk0 : True := trivial
    first | (go_region_held3 (fun w' => w'.cell? ⟨w.heap.size, 0, none⟩ = some (.int .i64 f) ∧ w'.cell? ⟨w.heap.size, 1, none⟩ = some (.int .i64 c) ∧ w'.cell? ⟨w.heap.size + 1, 0, none⟩ = some (.int .i64 g) ∧ w'.cell? ⟨w.heap.size + 1, 1, none⟩ = some (.int .i64 d)) (((try dsimp only); (repeat' apply And.intro) <;> (first | (with_reducible assumption) | ((repeat (first | (with_reducible refine Eq.trans (cell_drew1 _ _) ?_) | (with_reducible refine Eq.trans (World.cell?_alloc_lt _ _ _ (by first | (dsimp only; omega) | (simp only [World.size_alloc, World.size_setCell]; omega))) ?_) | (with_reducible refine Eq.trans (hfar2 (by omega) _ _) ?_))); with_reducible assumption) | assumption | go_keep)))
    (first
      | (clear tk0; go_at_call 60; refine (HA.out _).mono ?_; rintro e wv0 ⟨rfl, bb⟩; have bb0 := bb; (first | (have h2 := box_new2A (w := w2) bb0 rfl; have N_A := Lib.hid h2.1; have N_B := Lib.hid h2.2; clear h2) | (have h2 := box_new1A (w := w2) bb0 rfl; have N_A := Lib.hid h2; clear h2) | skip); clear bb0; replace bb := nextw (w0 := w2) (by first | exact ⟨rfl, rfl, rfl, Nat.le_refl _, fun _ _ => rfl⟩ | exact below_push1 rfl rfl rfl rfl | exact below_push2 rfl rfl rfl rfl) bb; replace B_a := Lib.hid (Box2.below B_a.out bb B_a.out.lt); replace B_b := Lib.hid (Box2.below B_b.out bb B_b.out.lt); replace HC := Lib.hid (nextw HC.out bb); clear bb; clear c0a c1a c0b c1b; have c0a := B_a.out.c0; have c1a := B_a.out.c1; have c0b := B_b.out.c0; have c1b := B_b.out.c1; have za1 := B_a.out.lt; have zb1 := B_b.out.lt; have hle1 := HC.out.size; (try (have LWA0 := Lib.hid N_A.out.lt)); (try (have LWB0 := Lib.hid N_B.out.lt)); have tk1 : True := trivial)
      | (clear tk1; go_at_call 60; refine (HB2.out _).mono ?_; rintro e wv1 ⟨rfl, bb⟩; have bb0 := bb; (try (replace N_A := Lib.hid (Box2.below N_A.out (nextw (by first | exact ⟨rfl, rfl, rfl, Nat.le_refl _, fun _ _ => rfl⟩ | exact below_push1 rfl rfl rfl rfl | exact below_push2 rfl rfl rfl rfl) bb) N_A.out.lt))); (try (replace N_B := Lib.hid (Box2.below N_B.out (nextw (by first | exact ⟨rfl, rfl, rfl, Nat.le_refl _, fun _ _ => rfl⟩ | exact below_push1 rfl rfl rfl rfl | exact below_push2 rfl rfl rfl rfl) bb) N_B.out.lt))); (first | (have h2 := box_new2A (w := wv0) bb0 rfl; have N_C := Lib.hid h2.1; have N_D := Lib.hid h2.2; clear h2) | (have h2 := box_new1A (w := wv0) bb0 rfl; have N_C := Lib.hid h2; clear h2) | skip); clear bb0; replace bb := nextw (w0 := wv0) (by first | exact ⟨rfl, rfl, rfl, Nat.le_refl _, fun _ _ => rfl⟩ | exact below_push1 rfl rfl rfl rfl | exact below_push2 rfl rfl rfl rfl) bb; replace B_a := Lib.hid (Box2.below B_a.out bb B_a.out.lt); replace B_b := Lib.hid (Box2.below B_b.out bb B_b.out.lt); replace HC := Lib.hid (nextw HC.out bb); clear bb; clear c0a c1a c0b c1b; have c0a := B_a.out.c0; have c1a := B_a.out.c1; have c0b := B_b.out.c0; have c1b := B_b.out.c1; have za2 := B_a.out.lt; have zb2 := B_b.out.lt; have hle2 := HC.out.size; (try (have c0A := N_A.out.c0; have c1A := N_A.out.c1; have f0A := N_A.out.f0; have f1A := N_A.out.f1)); (try (have c0B := N_B.out.c0; have c1B := N_B.out.c1; have f0B := N_B.out.f0; have f1B := N_B.out.f1)); (try (have c0C := N_C.out.c0; have c1C := N_C.out.c1; have f0C := N_C.out.f0; have f1C := N_C.out.f1)); (try (have c0D := N_D.out.c0; have c1D := N_D.out.c1; have f0D := N_D.out.f0; have f1D := N_D.out.f1)); (try (have lA := N_A.out.lt; have lnA := Nat.ne_of_lt lA; have lmA := Nat.ne_of_gt lA)); (try (have lB := N_B.out.lt; have lnB := Nat.ne_of_lt lB; have lmB := Nat.ne_of_gt lB)); (try (have lC := N_C.out.lt; have lnC := Nat.ne_of_lt lC; have lmC := Nat.ne_of_gt lC)); (try (have lD := N_D.out.lt; have lnD := Nat.ne_of_lt lD; have lmD := Nat.ne_of_gt lD)); (try (have lbA0 := Nat.ne_of_lt LWA0.out; have lcA0 := Nat.ne_of_gt LWA0.out)); (try (have lbB0 := Nat.ne_of_lt LWB0.out; have lcB0 := Nat.ne_of_gt LWB0.out)); have tk2 : True := trivial))) | fail
    all_goals go_wp2_with fail
    all_goals go_meet
    all_goals (first | (with_reducible exact fin1A HC.out) | (with_reducible exact fin1bA HC.out) | (with_reducible exact fin2A HC.out N_A.out (by omega)) | (with_reducible exact fin2bA HC.out N_A.out (by omega)) | (with_reducible exact fin2A HC.out N_C.out (by omega)) | (with_reducible exact fin2bA HC.out N_C.out (by omega)) | (with_reducible exact fin3A HC.out N_A.out N_B.out (by omega) (by omega) (by omega)) | (with_reducible exact fin3A HC.out N_A.out N_C.out (by omega) (by omega) (by omega)) | (with_reducible exact fin3A HC.out N_B.out N_C.out (by omega) (by omega) (by omega)) | (with_reducible exact fin3A HC.out N_C.out N_D.out (by omega) (by omega) (by omega)) | (with_reducible exact fin3A HC.out N_B.out N_A.out (by omega) (by omega) (by omega)) | (with_reducible exact fin3A HC.out N_C.out N_A.out (by omega) (by omega) (by omega)) | (with_reducible exact fin3A HC.out N_C.out N_B.out (by omega) (by omega) (by omega)) | (with_reducible exact fin3A HC.out N_D.out N_C.out (by omega) (by omega) (by omega)))
  case rest =>
    rename World => wcp
    obtain ⟨pp, pq, rfl, rfl, hnep, hgep, hgeq, bqp, bqq, bb⟩ := hcut
    have ltap := B_a.out.lt
    have ltbp := B_b.out.lt
    have ltrp := B_r.out.lt
    replace bb := nextw (w0 := w2) (by exact ⟨rfl, rfl, rfl, Nat.le_refl _, fun _ _ => rfl⟩) bb
    replace B_a := Lib.hid (Box2.below B_a.out bb B_a.out.lt)
    replace B_b := Lib.hid (Box2.below B_b.out bb B_b.out.lt)
    replace B_r := Lib.hid (Box2.below B_r.out bb B_r.out.lt)
    replace HB := Lib.hid (nextw HB.out bb)
    clear bb
    have B_p := Lib.hid bqp
    have B_q := Lib.hid bqq
    clear bqp bqq
    have c0p := B_p.out.c0
    have c1p := B_p.out.c1
    have c0q := B_q.out.c0
    have c1q := B_q.out.c1
    have sS := Box2.store B_r.out p P
    have s0 := sS.c0
    have s1 := sS.c1
    have HF := Lib.hid (Below.store2 HB.out (y := w.heap.size + 1 + 1) (by omega) (.int .i64 p) (.int .i64 P))
    clear sS
    have c0r := B_r.out.c0
    have f0r := B_r.out.f0
    have c1r := B_r.out.c1
    have f1r := B_r.out.f1
    go_wp2_with fail
    exact bodyPost_ret (v := .tuple #[.agg #[.int .i64 p, .int .i64 P], .int .i64 0]) (by simp [results, Try.results41, go_sem, s0, s1]) rfl ⟨rfl, nextw HF.out (by exact ⟨rfl, rfl, rfl, Nat.le_refl _, fun _ _ => rfl⟩)⟩

/-- The hull: the shorter one of the two covers, or the one that begins first. -/
def hullSwap (f c g d : Int) : Prop := covC g d f c < covC f c g d ∨ covC g d f c = covC f c g d ∧ covF g d f c < covF f c g d
instance (f c g d : Int) : Decidable (hullSwap f c g d) := by unfold hullSwap; exact inferInstance
def hullF (f c g d : Int) : Int := if hullSwap f c g d then covF g d f c else covF f c g d
def hullC (f c g d : Int) : Int := if hullSwap f c g d then covC g d f c else covC f c g d
theorem Hull_ok (f c g d : Int) (ha : OkA f c) (hb : OkA g d) (w : World) :
    Calls Try.prog 41 #[av f c, av g d] w fun e w' => e = .returned (.tuple #[av (hullF f c g d) (hullC f c g d), .int .i64 0]) ∧ Below w.heap.size w w' := by
  unfold hullF hullC
  by_cases h1 : covC g d f c < covC f c g d
  · have h : hullSwap f c g d := .inl h1
    rw [if_pos h, if_pos h]; exact Hull_1 f c g d _ _ _ _ ha hb rfl rfl rfl rfl h1 w
  by_cases h2 : covC g d f c = covC f c g d
  · by_cases h3 : covF g d f c < covF f c g d
    · have h : hullSwap f c g d := .inr ⟨h2, h3⟩
      rw [if_pos h, if_pos h]; exact Hull_2 f c g d _ _ _ _ ha hb rfl rfl rfl rfl (by simpa using h2) h1 h3 w
    · have h : ¬ hullSwap f c g d := fun h => h.elim h1 fun h => h3 h.2
      rw [if_neg h, if_neg h]; exact Hull_3 f c g d _ _ _ _ ha hb rfl rfl rfl rfl (by simpa using h2) h1 h3 w
  · have h : ¬ hullSwap f c g d := fun h => h.elim h1 fun h => h2 h.1
    rw [if_neg h, if_neg h]; exact Hull_4 f c g d _ _ _ _ ha hb rfl rfl rfl rfl (by simpa using h2) h1 w
end Go.Proofs.Ytjpdahalplkfbaa
