/- The law HeadingVectors. -/
import Derived.Test.YtincejndchdcdaaHAwake
import Derived.Test.YtincejndchdcdaaHRCmp
import Derived.Test.YtincejndchdcdaaHRTurn
namespace Go.Proofs.Ytincejndchdcdaa
open Go Go.RowKit Hd

set_option maxRecDepth 100000 in
set_option maxHeartbeats 8000000 in
theorem Vs_bad1 (a b : V3) (hf : Fit a) (hn : ¬ Ok a) (w : World) :
    Calls Try.prog 5 #[vv a, vv b] w fun e w' => e = .returned (.bool true) ∧ Below w.heap.size w w' := by
  have HA := Lib.hid (fun w => awake_any w)
  have HN := Lib.hid (fun w => Norm_bad a hf hn w)
  have HM := Lib.hid (fun w => RNorm_bad a hf hn w)
  have HT := Lib.hid (fun w => Turn_bad1 a b hf hn w)
  have HU := Lib.hid (fun w => RTurn_bad1 a b hf hn w)
  have HV := Lib.hid (fun w => Valid_no a hf hn w)
  have HW := Lib.hid (fun w => RValid_no a hn w)
  have HC := Lib.hid (fun w => Cmp_bad1 a b hf hn w)
  have HD := Lib.hid (fun w => RCmp_bad1 a b hf hn w)
  clear hf hn
  obtain ⟨x, y, d⟩ := a
  obtain ⟨u, v, f⟩ := b
  have HB := Lib.hid (show Below w.heap.size w ((w.alloc (.cells #[.int .i64 x, .int .i64 y, .int .i64 d] 24)).alloc (.cells #[.int .i64 u, .int .i64 v, .int .i64 f] 24)) from (((Below.refl _ _).alloc (by simp <;> omega) _).alloc (by simp <;> omega) _))
  have B_a : Box3 ((w.alloc (.cells #[.int .i64 x, .int .i64 y, .int .i64 d] 24)).alloc (.cells #[.int .i64 u, .int .i64 v, .int .i64 f] 24)) (w.heap.size) x y d := by have h := (Box3.alloc (Box3.new w x y d) (.cells #[.int .i64 u, .int .i64 v, .int .i64 f] 24)); simpa using h
  replace B_a := Lib.hid B_a
  have B_b : Box3 ((w.alloc (.cells #[.int .i64 x, .int .i64 y, .int .i64 d] 24)).alloc (.cells #[.int .i64 u, .int .i64 v, .int .i64 f] 24)) (w.heap.size + 1) u v f := by have h := (Box3.new (w.alloc (.cells #[.int .i64 x, .int .i64 y, .int .i64 d] 24)) u v f); simpa using h
  replace B_b := Lib.hid B_b
  go_enter Try.func5, Try.ntmps5
  go_wp2_with fail
  generalize (w.alloc (.cells #[.int .i64 x, .int .i64 y, .int .i64 d] 24)).alloc (.cells #[.int .i64 u, .int .i64 v, .int .i64 f] 24) = W0 at *
  refine (HA.out _).mono ?_
  rintro e w1 ⟨rfl, bb⟩
  replace bb := nextw (w0 := W0) (by exact ⟨rfl, rfl, rfl, Nat.le_refl _, fun _ _ => rfl⟩) bb
  replace B_a := Lib.hid (Box3.below B_a.out bb B_a.out.lt)
  replace B_b := Lib.hid (Box3.below B_b.out bb B_b.out.lt)
  replace HB := Lib.hid (nextw HB.out bb)
  clear bb
  have c0a := B_a.out.c0
  have c1a := B_a.out.c1
  have c2a := B_a.out.c2
  have c0b := B_b.out.c0
  have c1b := B_b.out.c1
  have c2b := B_b.out.c2
  go_wp2_with fail
  refine (HN.out _).mono ?_
  clear c0a c1a c2a c0b c1b c2b
  rintro e w2 ⟨rfl, bb⟩
  replace bb := nextw (w0 := w1) (by exact ⟨rfl, rfl, rfl, Nat.le_refl _, fun _ _ => rfl⟩) bb
  replace B_a := Lib.hid (Box3.below B_a.out bb B_a.out.lt)
  replace B_b := Lib.hid (Box3.below B_b.out bb B_b.out.lt)
  replace HB := Lib.hid (nextw HB.out bb)
  clear bb
  have lt_na := B_a.out.lt
  have lt_nb := B_b.out.lt
  have B_n := Lib.hid (Box3.new w2 0 0 0)
  replace B_a := Lib.hid (Box3.alloc B_a.out (.cells #[.int .i64 0, .int .i64 0, .int .i64 0] 24))
  replace B_b := Lib.hid (Box3.alloc B_b.out (.cells #[.int .i64 0, .int .i64 0, .int .i64 0] 24))
  replace HB := Lib.hid (nextw HB.out ((Below.refl w2.heap.size w2).alloc (Nat.le_refl _) (.cells #[.int .i64 0, .int .i64 0, .int .i64 0] 24)))
  go_upto_region 4 with (fail)
  generalize w2.alloc (.cells #[.int .i64 0, .int .i64 0, .int .i64 0] 24) = WN at *
  have c0a := B_a.out.c0
  have c1a := B_a.out.c1
  have c2a := B_a.out.c2
  have c0b := B_b.out.c0
  have c1b := B_b.out.c1
  have c2b := B_b.out.c2
  go_wp2_with fail
  refine (HM.out _).mono ?_
  clear c0a c1a c2a c0b c1b c2b
  rintro e w3 ⟨rfl, bb⟩
  replace bb := nextw (w0 := WN) (by exact ⟨rfl, rfl, rfl, Nat.le_refl _, fun _ _ => rfl⟩) bb
  replace B_a := Lib.hid (Box3.below B_a.out bb B_a.out.lt)
  replace B_b := Lib.hid (Box3.below B_b.out bb B_b.out.lt)
  replace B_n := Lib.hid (Box3.below B_n.out bb B_n.out.lt)
  replace HB := Lib.hid (nextw HB.out bb)
  clear bb
  have lt_ma := B_a.out.lt
  have lt_mb := B_b.out.lt
  have lt_mn := B_n.out.lt
  have B_m := Lib.hid (Box3.new w3 0 0 0)
  replace B_a := Lib.hid (Box3.alloc B_a.out (.cells #[.int .i64 0, .int .i64 0, .int .i64 0] 24))
  replace B_b := Lib.hid (Box3.alloc B_b.out (.cells #[.int .i64 0, .int .i64 0, .int .i64 0] 24))
  replace B_n := Lib.hid (Box3.alloc B_n.out (.cells #[.int .i64 0, .int .i64 0, .int .i64 0] 24))
  replace HB := Lib.hid (nextw HB.out ((Below.refl w3.heap.size w3).alloc (Nat.le_refl _) (.cells #[.int .i64 0, .int .i64 0, .int .i64 0] 24)))
  go_upto_region 5 with (fail)
  generalize w3.alloc (.cells #[.int .i64 0, .int .i64 0, .int .i64 0] 24) = WM at *
  have c0a := B_a.out.c0
  have c1a := B_a.out.c1
  have c2a := B_a.out.c2
  have c0b := B_b.out.c0
  have c1b := B_b.out.c1
  have c2b := B_b.out.c2
  go_wp2_with fail
  refine (HT.out _).mono ?_
  clear c0a c1a c2a c0b c1b c2b
  rintro e w4 ⟨rfl, bb⟩
  replace bb := nextw (w0 := WM) (by exact ⟨rfl, rfl, rfl, Nat.le_refl _, fun _ _ => rfl⟩) bb
  replace B_a := Lib.hid (Box3.below B_a.out bb B_a.out.lt)
  replace B_b := Lib.hid (Box3.below B_b.out bb B_b.out.lt)
  replace B_n := Lib.hid (Box3.below B_n.out bb B_n.out.lt)
  replace B_m := Lib.hid (Box3.below B_m.out bb B_m.out.lt)
  replace HB := Lib.hid (nextw HB.out bb)
  clear bb
  have lt_ta := B_a.out.lt
  have lt_tb := B_b.out.lt
  have lt_tn := B_n.out.lt
  have lt_tm := B_m.out.lt
  have B_t := Lib.hid (Box3.new w4 0 0 0)
  replace B_a := Lib.hid (Box3.alloc B_a.out (.cells #[.int .i64 0, .int .i64 0, .int .i64 0] 24))
  replace B_b := Lib.hid (Box3.alloc B_b.out (.cells #[.int .i64 0, .int .i64 0, .int .i64 0] 24))
  replace B_n := Lib.hid (Box3.alloc B_n.out (.cells #[.int .i64 0, .int .i64 0, .int .i64 0] 24))
  replace B_m := Lib.hid (Box3.alloc B_m.out (.cells #[.int .i64 0, .int .i64 0, .int .i64 0] 24))
  replace HB := Lib.hid (nextw HB.out ((Below.refl w4.heap.size w4).alloc (Nat.le_refl _) (.cells #[.int .i64 0, .int .i64 0, .int .i64 0] 24)))
  go_upto_region 6 with (fail)
  generalize w4.alloc (.cells #[.int .i64 0, .int .i64 0, .int .i64 0] 24) = WT at *
  have c0a := B_a.out.c0
  have c1a := B_a.out.c1
  have c2a := B_a.out.c2
  have c0b := B_b.out.c0
  have c1b := B_b.out.c1
  have c2b := B_b.out.c2
  go_wp2_with fail
  refine (HU.out _).mono ?_
  clear c0a c1a c2a c0b c1b c2b
  rintro e w5 ⟨rfl, bb⟩
  replace bb := nextw (w0 := WT) (by exact ⟨rfl, rfl, rfl, Nat.le_refl _, fun _ _ => rfl⟩) bb
  replace B_a := Lib.hid (Box3.below B_a.out bb B_a.out.lt)
  replace B_b := Lib.hid (Box3.below B_b.out bb B_b.out.lt)
  replace B_n := Lib.hid (Box3.below B_n.out bb B_n.out.lt)
  replace B_m := Lib.hid (Box3.below B_m.out bb B_m.out.lt)
  replace B_t := Lib.hid (Box3.below B_t.out bb B_t.out.lt)
  replace HB := Lib.hid (nextw HB.out bb)
  clear bb
  have lt_sa := B_a.out.lt
  have lt_sb := B_b.out.lt
  have lt_sn := B_n.out.lt
  have lt_sm := B_m.out.lt
  have lt_st := B_t.out.lt
  have B_s := Lib.hid (Box3.new w5 0 0 0)
  replace B_a := Lib.hid (Box3.alloc B_a.out (.cells #[.int .i64 0, .int .i64 0, .int .i64 0] 24))
  replace B_b := Lib.hid (Box3.alloc B_b.out (.cells #[.int .i64 0, .int .i64 0, .int .i64 0] 24))
  replace B_n := Lib.hid (Box3.alloc B_n.out (.cells #[.int .i64 0, .int .i64 0, .int .i64 0] 24))
  replace B_m := Lib.hid (Box3.alloc B_m.out (.cells #[.int .i64 0, .int .i64 0, .int .i64 0] 24))
  replace B_t := Lib.hid (Box3.alloc B_t.out (.cells #[.int .i64 0, .int .i64 0, .int .i64 0] 24))
  replace HB := Lib.hid (nextw HB.out ((Below.refl w5.heap.size w5).alloc (Nat.le_refl _) (.cells #[.int .i64 0, .int .i64 0, .int .i64 0] 24)))
  go_upto_region 7 with (fail)
  generalize w5.alloc (.cells #[.int .i64 0, .int .i64 0, .int .i64 0] 24) = WU at *
  clear HA HN HM HT HU
  go_wp2_with fail
  have c0a := B_a.out.c0
  have c1a := B_a.out.c1
  have c2a := B_a.out.c2
  have c0b := B_b.out.c0
  have c1b := B_b.out.c1
  have c2b := B_b.out.c2
  have c0n := B_n.out.c0
  have c1n := B_n.out.c1
  have c2n := B_n.out.c2
  have c0m := B_m.out.c0
  have c1m := B_m.out.c1
  have c2m := B_m.out.c2
  have c0t := B_t.out.c0
  have c1t := B_t.out.c1
  have c2t := B_t.out.c2
  have c0s := B_s.out.c0
  have c1s := B_s.out.c1
  have c2s := B_s.out.c2
  have tk1x0 : True := trivial
  go_region_held3 (fun w' => w'.cell? ⟨w.heap.size, 0, none⟩ = some (.int .i64 x) ∧ w'.cell? ⟨w.heap.size, 1, none⟩ = some (.int .i64 y) ∧ w'.cell? ⟨w.heap.size, 2, none⟩ = some (.int .i64 d) ∧ w'.cell? ⟨w.heap.size + 1, 0, none⟩ = some (.int .i64 u) ∧ w'.cell? ⟨w.heap.size + 1, 1, none⟩ = some (.int .i64 v) ∧ w'.cell? ⟨w.heap.size + 1, 2, none⟩ = some (.int .i64 f) ∧ w'.cell? ⟨w2.heap.size, 0, none⟩ = some (.int .i64 0) ∧ w'.cell? ⟨w2.heap.size, 1, none⟩ = some (.int .i64 0) ∧ w'.cell? ⟨w2.heap.size, 2, none⟩ = some (.int .i64 0) ∧ w'.cell? ⟨w3.heap.size, 0, none⟩ = some (.int .i64 0) ∧ w'.cell? ⟨w3.heap.size, 1, none⟩ = some (.int .i64 0) ∧ w'.cell? ⟨w3.heap.size, 2, none⟩ = some (.int .i64 0) ∧ w'.cell? ⟨w4.heap.size, 0, none⟩ = some (.int .i64 0) ∧ w'.cell? ⟨w4.heap.size, 1, none⟩ = some (.int .i64 0) ∧ w'.cell? ⟨w4.heap.size, 2, none⟩ = some (.int .i64 0) ∧ w'.cell? ⟨w5.heap.size, 0, none⟩ = some (.int .i64 0) ∧ w'.cell? ⟨w5.heap.size, 1, none⟩ = some (.int .i64 0) ∧ w'.cell? ⟨w5.heap.size, 2, none⟩ = some (.int .i64 0)) (((try dsimp only); (repeat' apply And.intro) <;> (first | (with_reducible assumption) | ((repeat (first | (with_reducible refine Eq.trans (cell_drew1 _ _) ?_) | (with_reducible refine Eq.trans (World.cell?_alloc_lt _ _ _ (by first | (dsimp only; omega) | (simp only [World.size_alloc, World.size_setCell]; omega))) ?_))); with_reducible assumption) | assumption | go_keep)))
    (first
      | (clear tk1x0; go_at_call 20; refine (HV.out _).mono ?_; rintro e w6 ⟨rfl, bb⟩; replace bb := nextw (w0 := WU) (by exact ⟨rfl, rfl, rfl, Nat.le_refl _, fun _ _ => rfl⟩) bb; replace B_a := Lib.hid (Box3.below B_a.out bb B_a.out.lt); replace B_b := Lib.hid (Box3.below B_b.out bb B_b.out.lt); replace B_n := Lib.hid (Box3.below B_n.out bb B_n.out.lt); replace B_m := Lib.hid (Box3.below B_m.out bb B_m.out.lt); replace B_t := Lib.hid (Box3.below B_t.out bb B_t.out.lt); replace B_s := Lib.hid (Box3.below B_s.out bb B_s.out.lt); replace HB := Lib.hid (nextw HB.out bb); clear bb c0a c1a c2a c0b c1b c2b c0n c1n c2n c0m c1m c2m c0t c1t c2t c0s c1s c2s; have c0a := B_a.out.c0; have c1a := B_a.out.c1; have c2a := B_a.out.c2; have c0b := B_b.out.c0; have c1b := B_b.out.c1; have c2b := B_b.out.c2; have c0n := B_n.out.c0; have c1n := B_n.out.c1; have c2n := B_n.out.c2; have c0m := B_m.out.c0; have c1m := B_m.out.c1; have c2m := B_m.out.c2; have c0t := B_t.out.c0; have c1t := B_t.out.c1; have c2t := B_t.out.c2; have c0s := B_s.out.c0; have c1s := B_s.out.c1; have c2s := B_s.out.c2; have tk1x1 : True := trivial)
      | (clear tk1x1; go_at_call 26; refine (HW.out _).mono ?_; rintro e w7 ⟨rfl, bb⟩; replace bb := nextw (w0 := w6) (by exact ⟨rfl, rfl, rfl, Nat.le_refl _, fun _ _ => rfl⟩) bb; replace B_a := Lib.hid (Box3.below B_a.out bb B_a.out.lt); replace B_b := Lib.hid (Box3.below B_b.out bb B_b.out.lt); replace B_n := Lib.hid (Box3.below B_n.out bb B_n.out.lt); replace B_m := Lib.hid (Box3.below B_m.out bb B_m.out.lt); replace B_t := Lib.hid (Box3.below B_t.out bb B_t.out.lt); replace B_s := Lib.hid (Box3.below B_s.out bb B_s.out.lt); replace HB := Lib.hid (nextw HB.out bb); clear bb c0a c1a c2a c0b c1b c2b c0n c1n c2n c0m c1m c2m c0t c1t c2t c0s c1s c2s; have c0a := B_a.out.c0; have c1a := B_a.out.c1; have c2a := B_a.out.c2; have c0b := B_b.out.c0; have c1b := B_b.out.c1; have c2b := B_b.out.c2; have c0n := B_n.out.c0; have c1n := B_n.out.c1; have c2n := B_n.out.c2; have c0m := B_m.out.c0; have c1m := B_m.out.c1; have c2m := B_m.out.c2; have c0t := B_t.out.c0; have c1t := B_t.out.c1; have c2t := B_t.out.c2; have c0s := B_s.out.c0; have c1s := B_s.out.c1; have c2s := B_s.out.c2; have tk1x2 : True := trivial)
      | (clear tk1x2; go_at_call 21; refine (HC.out _).mono ?_; rintro e w8 ⟨rfl, bb⟩; replace bb := nextw (w0 := w7) (by exact ⟨rfl, rfl, rfl, Nat.le_refl _, fun _ _ => rfl⟩) bb; replace B_a := Lib.hid (Box3.below B_a.out bb B_a.out.lt); replace B_b := Lib.hid (Box3.below B_b.out bb B_b.out.lt); replace B_n := Lib.hid (Box3.below B_n.out bb B_n.out.lt); replace B_m := Lib.hid (Box3.below B_m.out bb B_m.out.lt); replace B_t := Lib.hid (Box3.below B_t.out bb B_t.out.lt); replace B_s := Lib.hid (Box3.below B_s.out bb B_s.out.lt); replace HB := Lib.hid (nextw HB.out bb); clear bb c0a c1a c2a c0b c1b c2b c0n c1n c2n c0m c1m c2m c0t c1t c2t c0s c1s c2s; have c0a := B_a.out.c0; have c1a := B_a.out.c1; have c2a := B_a.out.c2; have c0b := B_b.out.c0; have c1b := B_b.out.c1; have c2b := B_b.out.c2; have c0n := B_n.out.c0; have c1n := B_n.out.c1; have c2n := B_n.out.c2; have c0m := B_m.out.c0; have c1m := B_m.out.c1; have c2m := B_m.out.c2; have c0t := B_t.out.c0; have c1t := B_t.out.c1; have c2t := B_t.out.c2; have c0s := B_s.out.c0; have c1s := B_s.out.c1; have c2s := B_s.out.c2; have tk1x3 : True := trivial)
      | (clear tk1x3; go_at_call 27; refine (HD.out _).mono ?_; rintro e w9 ⟨rfl, bb⟩; replace bb := nextw (w0 := w8) (by exact ⟨rfl, rfl, rfl, Nat.le_refl _, fun _ _ => rfl⟩) bb; replace B_a := Lib.hid (Box3.below B_a.out bb B_a.out.lt); replace B_b := Lib.hid (Box3.below B_b.out bb B_b.out.lt); replace B_n := Lib.hid (Box3.below B_n.out bb B_n.out.lt); replace B_m := Lib.hid (Box3.below B_m.out bb B_m.out.lt); replace B_t := Lib.hid (Box3.below B_t.out bb B_t.out.lt); replace B_s := Lib.hid (Box3.below B_s.out bb B_s.out.lt); replace HB := Lib.hid (nextw HB.out bb); clear bb c0a c1a c2a c0b c1b c2b c0n c1n c2n c0m c1m c2m c0t c1t c2t c0s c1s c2s; have c0a := B_a.out.c0; have c1a := B_a.out.c1; have c2a := B_a.out.c2; have c0b := B_b.out.c0; have c1b := B_b.out.c1; have c2b := B_b.out.c2; have c0n := B_n.out.c0; have c1n := B_n.out.c1; have c2n := B_n.out.c2; have c0m := B_m.out.c0; have c1m := B_m.out.c1; have c2m := B_m.out.c2; have c0t := B_t.out.c0; have c1t := B_t.out.c1; have c2t := B_t.out.c2; have c0s := B_s.out.c0; have c1s := B_s.out.c1; have c2s := B_s.out.c2; have tk1x4 : True := trivial))
  clear c0a c1a c2a c0b c1b c2b c0n c1n c2n c0m c1m c2m c0t c1t c2t c0s c1s c2s
  go_wp2
  go_ret
  exact ⟨rfl, nextw HB.out (by exact ⟨rfl, rfl, rfl, Nat.le_refl _, fun _ _ => rfl⟩)⟩

set_option maxRecDepth 100000 in
set_option maxHeartbeats 8000000 in
theorem Vs_bad2 (a b : V3) (ha : Ok a) (hf : Fit b) (hn : ¬ Ok b) (w : World) :
    Calls Try.prog 5 #[vv a, vv b] w fun e w' => e = .returned (.bool true) ∧ Below w.heap.size w w' := by
  have HA := Lib.hid (fun w => awake_any w)
  have HN := Lib.hid (fun w => Norm_ok a ha w)
  have HM := Lib.hid (fun w => RNorm_ok a ha w)
  have HV := Lib.hid (fun w => Valid_yes a ha w)
  have HW := Lib.hid (fun w => RValid_yes a ha w)
  have HT := Lib.hid (fun w => Turn_bad2 a b ha hf hn w)
  have HU := Lib.hid (fun w => RTurn_bad2 a b ha hf hn w)
  have HC := Lib.hid (fun w => Cmp_bad2 a b ha hf hn w)
  have HD := Lib.hid (fun w => RCmp_bad2 a b ha hf hn w)
  clear ha hf hn
  generalize low a.x a.y a.d = L at *
  obtain ⟨lx, ly, ld⟩ := L
  obtain ⟨x, y, d⟩ := a
  obtain ⟨u, v, f⟩ := b
  have HB := Lib.hid (show Below w.heap.size w ((w.alloc (.cells #[.int .i64 x, .int .i64 y, .int .i64 d] 24)).alloc (.cells #[.int .i64 u, .int .i64 v, .int .i64 f] 24)) from (((Below.refl _ _).alloc (by simp <;> omega) _).alloc (by simp <;> omega) _))
  have B_a : Box3 ((w.alloc (.cells #[.int .i64 x, .int .i64 y, .int .i64 d] 24)).alloc (.cells #[.int .i64 u, .int .i64 v, .int .i64 f] 24)) (w.heap.size) x y d := by have h := (Box3.alloc (Box3.new w x y d) (.cells #[.int .i64 u, .int .i64 v, .int .i64 f] 24)); simpa using h
  replace B_a := Lib.hid B_a
  have B_b : Box3 ((w.alloc (.cells #[.int .i64 x, .int .i64 y, .int .i64 d] 24)).alloc (.cells #[.int .i64 u, .int .i64 v, .int .i64 f] 24)) (w.heap.size + 1) u v f := by have h := (Box3.new (w.alloc (.cells #[.int .i64 x, .int .i64 y, .int .i64 d] 24)) u v f); simpa using h
  replace B_b := Lib.hid B_b
  go_enter Try.func5, Try.ntmps5
  go_wp2_with fail
  generalize (w.alloc (.cells #[.int .i64 x, .int .i64 y, .int .i64 d] 24)).alloc (.cells #[.int .i64 u, .int .i64 v, .int .i64 f] 24) = W0 at *
  refine (HA.out _).mono ?_
  rintro e w1 ⟨rfl, bb⟩
  replace bb := nextw (w0 := W0) (by exact ⟨rfl, rfl, rfl, Nat.le_refl _, fun _ _ => rfl⟩) bb
  replace B_a := Lib.hid (Box3.below B_a.out bb B_a.out.lt)
  replace B_b := Lib.hid (Box3.below B_b.out bb B_b.out.lt)
  replace HB := Lib.hid (nextw HB.out bb)
  clear bb
  have c0a := B_a.out.c0
  have c1a := B_a.out.c1
  have c2a := B_a.out.c2
  have c0b := B_b.out.c0
  have c1b := B_b.out.c1
  have c2b := B_b.out.c2
  go_wp2_with fail
  refine (HN.out _).mono ?_
  clear c0a c1a c2a c0b c1b c2b
  rintro e w2 ⟨rfl, bb⟩
  replace bb := nextw (w0 := w1) (by exact ⟨rfl, rfl, rfl, Nat.le_refl _, fun _ _ => rfl⟩) bb
  replace B_a := Lib.hid (Box3.below B_a.out bb B_a.out.lt)
  replace B_b := Lib.hid (Box3.below B_b.out bb B_b.out.lt)
  replace HB := Lib.hid (nextw HB.out bb)
  clear bb
  have lt_na := B_a.out.lt
  have lt_nb := B_b.out.lt
  have B_n := Lib.hid (Box3.new w2 lx ly ld)
  replace B_a := Lib.hid (Box3.alloc B_a.out (.cells #[.int .i64 lx, .int .i64 ly, .int .i64 ld] 24))
  replace B_b := Lib.hid (Box3.alloc B_b.out (.cells #[.int .i64 lx, .int .i64 ly, .int .i64 ld] 24))
  replace HB := Lib.hid (nextw HB.out ((Below.refl w2.heap.size w2).alloc (Nat.le_refl _) (.cells #[.int .i64 lx, .int .i64 ly, .int .i64 ld] 24)))
  go_upto_region 4 with (fail)
  generalize w2.alloc (.cells #[.int .i64 lx, .int .i64 ly, .int .i64 ld] 24) = WN at *
  have c0a := B_a.out.c0
  have c1a := B_a.out.c1
  have c2a := B_a.out.c2
  have c0b := B_b.out.c0
  have c1b := B_b.out.c1
  have c2b := B_b.out.c2
  go_wp2_with fail
  refine (HM.out _).mono ?_
  clear c0a c1a c2a c0b c1b c2b
  rintro e w3 ⟨rfl, bb⟩
  replace bb := nextw (w0 := WN) (by exact ⟨rfl, rfl, rfl, Nat.le_refl _, fun _ _ => rfl⟩) bb
  replace B_a := Lib.hid (Box3.below B_a.out bb B_a.out.lt)
  replace B_b := Lib.hid (Box3.below B_b.out bb B_b.out.lt)
  replace B_n := Lib.hid (Box3.below B_n.out bb B_n.out.lt)
  replace HB := Lib.hid (nextw HB.out bb)
  clear bb
  have lt_ma := B_a.out.lt
  have lt_mb := B_b.out.lt
  have lt_mn := B_n.out.lt
  have B_m := Lib.hid (Box3.new w3 lx ly ld)
  replace B_a := Lib.hid (Box3.alloc B_a.out (.cells #[.int .i64 lx, .int .i64 ly, .int .i64 ld] 24))
  replace B_b := Lib.hid (Box3.alloc B_b.out (.cells #[.int .i64 lx, .int .i64 ly, .int .i64 ld] 24))
  replace B_n := Lib.hid (Box3.alloc B_n.out (.cells #[.int .i64 lx, .int .i64 ly, .int .i64 ld] 24))
  replace HB := Lib.hid (nextw HB.out ((Below.refl w3.heap.size w3).alloc (Nat.le_refl _) (.cells #[.int .i64 lx, .int .i64 ly, .int .i64 ld] 24)))
  go_upto_region 5 with (fail)
  generalize w3.alloc (.cells #[.int .i64 lx, .int .i64 ly, .int .i64 ld] 24) = WM at *
  have c0a := B_a.out.c0
  have c1a := B_a.out.c1
  have c2a := B_a.out.c2
  have c0b := B_b.out.c0
  have c1b := B_b.out.c1
  have c2b := B_b.out.c2
  go_wp2_with fail
  refine (HT.out _).mono ?_
  clear c0a c1a c2a c0b c1b c2b
  rintro e w4 ⟨rfl, bb⟩
  replace bb := nextw (w0 := WM) (by exact ⟨rfl, rfl, rfl, Nat.le_refl _, fun _ _ => rfl⟩) bb
  replace B_a := Lib.hid (Box3.below B_a.out bb B_a.out.lt)
  replace B_b := Lib.hid (Box3.below B_b.out bb B_b.out.lt)
  replace B_n := Lib.hid (Box3.below B_n.out bb B_n.out.lt)
  replace B_m := Lib.hid (Box3.below B_m.out bb B_m.out.lt)
  replace HB := Lib.hid (nextw HB.out bb)
  clear bb
  have lt_ta := B_a.out.lt
  have lt_tb := B_b.out.lt
  have lt_tn := B_n.out.lt
  have lt_tm := B_m.out.lt
  have B_t := Lib.hid (Box3.new w4 0 0 0)
  replace B_a := Lib.hid (Box3.alloc B_a.out (.cells #[.int .i64 0, .int .i64 0, .int .i64 0] 24))
  replace B_b := Lib.hid (Box3.alloc B_b.out (.cells #[.int .i64 0, .int .i64 0, .int .i64 0] 24))
  replace B_n := Lib.hid (Box3.alloc B_n.out (.cells #[.int .i64 0, .int .i64 0, .int .i64 0] 24))
  replace B_m := Lib.hid (Box3.alloc B_m.out (.cells #[.int .i64 0, .int .i64 0, .int .i64 0] 24))
  replace HB := Lib.hid (nextw HB.out ((Below.refl w4.heap.size w4).alloc (Nat.le_refl _) (.cells #[.int .i64 0, .int .i64 0, .int .i64 0] 24)))
  go_upto_region 6 with (fail)
  generalize w4.alloc (.cells #[.int .i64 0, .int .i64 0, .int .i64 0] 24) = WT at *
  have c0a := B_a.out.c0
  have c1a := B_a.out.c1
  have c2a := B_a.out.c2
  have c0b := B_b.out.c0
  have c1b := B_b.out.c1
  have c2b := B_b.out.c2
  go_wp2_with fail
  refine (HU.out _).mono ?_
  clear c0a c1a c2a c0b c1b c2b
  rintro e w5 ⟨rfl, bb⟩
  replace bb := nextw (w0 := WT) (by exact ⟨rfl, rfl, rfl, Nat.le_refl _, fun _ _ => rfl⟩) bb
  replace B_a := Lib.hid (Box3.below B_a.out bb B_a.out.lt)
  replace B_b := Lib.hid (Box3.below B_b.out bb B_b.out.lt)
  replace B_n := Lib.hid (Box3.below B_n.out bb B_n.out.lt)
  replace B_m := Lib.hid (Box3.below B_m.out bb B_m.out.lt)
  replace B_t := Lib.hid (Box3.below B_t.out bb B_t.out.lt)
  replace HB := Lib.hid (nextw HB.out bb)
  clear bb
  have lt_sa := B_a.out.lt
  have lt_sb := B_b.out.lt
  have lt_sn := B_n.out.lt
  have lt_sm := B_m.out.lt
  have lt_st := B_t.out.lt
  have B_s := Lib.hid (Box3.new w5 0 0 0)
  replace B_a := Lib.hid (Box3.alloc B_a.out (.cells #[.int .i64 0, .int .i64 0, .int .i64 0] 24))
  replace B_b := Lib.hid (Box3.alloc B_b.out (.cells #[.int .i64 0, .int .i64 0, .int .i64 0] 24))
  replace B_n := Lib.hid (Box3.alloc B_n.out (.cells #[.int .i64 0, .int .i64 0, .int .i64 0] 24))
  replace B_m := Lib.hid (Box3.alloc B_m.out (.cells #[.int .i64 0, .int .i64 0, .int .i64 0] 24))
  replace B_t := Lib.hid (Box3.alloc B_t.out (.cells #[.int .i64 0, .int .i64 0, .int .i64 0] 24))
  replace HB := Lib.hid (nextw HB.out ((Below.refl w5.heap.size w5).alloc (Nat.le_refl _) (.cells #[.int .i64 0, .int .i64 0, .int .i64 0] 24)))
  go_upto_region 7 with (fail)
  generalize w5.alloc (.cells #[.int .i64 0, .int .i64 0, .int .i64 0] 24) = WU at *
  clear HA HN HM HT HU
  go_wp2_with fail
  have c0a := B_a.out.c0
  have c1a := B_a.out.c1
  have c2a := B_a.out.c2
  have c0b := B_b.out.c0
  have c1b := B_b.out.c1
  have c2b := B_b.out.c2
  have c0n := B_n.out.c0
  have c1n := B_n.out.c1
  have c2n := B_n.out.c2
  have c0m := B_m.out.c0
  have c1m := B_m.out.c1
  have c2m := B_m.out.c2
  have c0t := B_t.out.c0
  have c1t := B_t.out.c1
  have c2t := B_t.out.c2
  have c0s := B_s.out.c0
  have c1s := B_s.out.c1
  have c2s := B_s.out.c2
  have tk1x0 : True := trivial
  go_region_held3 (fun w' => w'.cell? ⟨w.heap.size, 0, none⟩ = some (.int .i64 x) ∧ w'.cell? ⟨w.heap.size, 1, none⟩ = some (.int .i64 y) ∧ w'.cell? ⟨w.heap.size, 2, none⟩ = some (.int .i64 d) ∧ w'.cell? ⟨w.heap.size + 1, 0, none⟩ = some (.int .i64 u) ∧ w'.cell? ⟨w.heap.size + 1, 1, none⟩ = some (.int .i64 v) ∧ w'.cell? ⟨w.heap.size + 1, 2, none⟩ = some (.int .i64 f) ∧ w'.cell? ⟨w2.heap.size, 0, none⟩ = some (.int .i64 lx) ∧ w'.cell? ⟨w2.heap.size, 1, none⟩ = some (.int .i64 ly) ∧ w'.cell? ⟨w2.heap.size, 2, none⟩ = some (.int .i64 ld) ∧ w'.cell? ⟨w3.heap.size, 0, none⟩ = some (.int .i64 lx) ∧ w'.cell? ⟨w3.heap.size, 1, none⟩ = some (.int .i64 ly) ∧ w'.cell? ⟨w3.heap.size, 2, none⟩ = some (.int .i64 ld) ∧ w'.cell? ⟨w4.heap.size, 0, none⟩ = some (.int .i64 0) ∧ w'.cell? ⟨w4.heap.size, 1, none⟩ = some (.int .i64 0) ∧ w'.cell? ⟨w4.heap.size, 2, none⟩ = some (.int .i64 0) ∧ w'.cell? ⟨w5.heap.size, 0, none⟩ = some (.int .i64 0) ∧ w'.cell? ⟨w5.heap.size, 1, none⟩ = some (.int .i64 0) ∧ w'.cell? ⟨w5.heap.size, 2, none⟩ = some (.int .i64 0)) (((try dsimp only); (repeat' apply And.intro) <;> (first | (with_reducible assumption) | ((repeat (first | (with_reducible refine Eq.trans (cell_drew1 _ _) ?_) | (with_reducible refine Eq.trans (World.cell?_alloc_lt _ _ _ (by first | (dsimp only; omega) | (simp only [World.size_alloc, World.size_setCell]; omega))) ?_))); with_reducible assumption) | assumption | go_keep)))
    (first
      | (clear tk1x0; go_at_call 20; refine (HV.out _).mono ?_; rintro e w6 ⟨rfl, bb⟩; replace bb := nextw (w0 := WU) (by exact ⟨rfl, rfl, rfl, Nat.le_refl _, fun _ _ => rfl⟩) bb; replace B_a := Lib.hid (Box3.below B_a.out bb B_a.out.lt); replace B_b := Lib.hid (Box3.below B_b.out bb B_b.out.lt); replace B_n := Lib.hid (Box3.below B_n.out bb B_n.out.lt); replace B_m := Lib.hid (Box3.below B_m.out bb B_m.out.lt); replace B_t := Lib.hid (Box3.below B_t.out bb B_t.out.lt); replace B_s := Lib.hid (Box3.below B_s.out bb B_s.out.lt); replace HB := Lib.hid (nextw HB.out bb); clear bb c0a c1a c2a c0b c1b c2b c0n c1n c2n c0m c1m c2m c0t c1t c2t c0s c1s c2s; have c0a := B_a.out.c0; have c1a := B_a.out.c1; have c2a := B_a.out.c2; have c0b := B_b.out.c0; have c1b := B_b.out.c1; have c2b := B_b.out.c2; have c0n := B_n.out.c0; have c1n := B_n.out.c1; have c2n := B_n.out.c2; have c0m := B_m.out.c0; have c1m := B_m.out.c1; have c2m := B_m.out.c2; have c0t := B_t.out.c0; have c1t := B_t.out.c1; have c2t := B_t.out.c2; have c0s := B_s.out.c0; have c1s := B_s.out.c1; have c2s := B_s.out.c2; have tk1x1 : True := trivial)
      | (clear tk1x1; go_at_call 26; refine (HW.out _).mono ?_; rintro e w7 ⟨rfl, bb⟩; replace bb := nextw (w0 := w6) (by exact ⟨rfl, rfl, rfl, Nat.le_refl _, fun _ _ => rfl⟩) bb; replace B_a := Lib.hid (Box3.below B_a.out bb B_a.out.lt); replace B_b := Lib.hid (Box3.below B_b.out bb B_b.out.lt); replace B_n := Lib.hid (Box3.below B_n.out bb B_n.out.lt); replace B_m := Lib.hid (Box3.below B_m.out bb B_m.out.lt); replace B_t := Lib.hid (Box3.below B_t.out bb B_t.out.lt); replace B_s := Lib.hid (Box3.below B_s.out bb B_s.out.lt); replace HB := Lib.hid (nextw HB.out bb); clear bb c0a c1a c2a c0b c1b c2b c0n c1n c2n c0m c1m c2m c0t c1t c2t c0s c1s c2s; have c0a := B_a.out.c0; have c1a := B_a.out.c1; have c2a := B_a.out.c2; have c0b := B_b.out.c0; have c1b := B_b.out.c1; have c2b := B_b.out.c2; have c0n := B_n.out.c0; have c1n := B_n.out.c1; have c2n := B_n.out.c2; have c0m := B_m.out.c0; have c1m := B_m.out.c1; have c2m := B_m.out.c2; have c0t := B_t.out.c0; have c1t := B_t.out.c1; have c2t := B_t.out.c2; have c0s := B_s.out.c0; have c1s := B_s.out.c1; have c2s := B_s.out.c2; have tk1x2 : True := trivial)
      | (clear tk1x2; go_at_call 21; refine (HC.out _).mono ?_; rintro e w8 ⟨rfl, bb⟩; replace bb := nextw (w0 := w7) (by exact ⟨rfl, rfl, rfl, Nat.le_refl _, fun _ _ => rfl⟩) bb; replace B_a := Lib.hid (Box3.below B_a.out bb B_a.out.lt); replace B_b := Lib.hid (Box3.below B_b.out bb B_b.out.lt); replace B_n := Lib.hid (Box3.below B_n.out bb B_n.out.lt); replace B_m := Lib.hid (Box3.below B_m.out bb B_m.out.lt); replace B_t := Lib.hid (Box3.below B_t.out bb B_t.out.lt); replace B_s := Lib.hid (Box3.below B_s.out bb B_s.out.lt); replace HB := Lib.hid (nextw HB.out bb); clear bb c0a c1a c2a c0b c1b c2b c0n c1n c2n c0m c1m c2m c0t c1t c2t c0s c1s c2s; have c0a := B_a.out.c0; have c1a := B_a.out.c1; have c2a := B_a.out.c2; have c0b := B_b.out.c0; have c1b := B_b.out.c1; have c2b := B_b.out.c2; have c0n := B_n.out.c0; have c1n := B_n.out.c1; have c2n := B_n.out.c2; have c0m := B_m.out.c0; have c1m := B_m.out.c1; have c2m := B_m.out.c2; have c0t := B_t.out.c0; have c1t := B_t.out.c1; have c2t := B_t.out.c2; have c0s := B_s.out.c0; have c1s := B_s.out.c1; have c2s := B_s.out.c2; have tk1x3 : True := trivial)
      | (clear tk1x3; go_at_call 27; refine (HD.out _).mono ?_; rintro e w9 ⟨rfl, bb⟩; replace bb := nextw (w0 := w8) (by exact ⟨rfl, rfl, rfl, Nat.le_refl _, fun _ _ => rfl⟩) bb; replace B_a := Lib.hid (Box3.below B_a.out bb B_a.out.lt); replace B_b := Lib.hid (Box3.below B_b.out bb B_b.out.lt); replace B_n := Lib.hid (Box3.below B_n.out bb B_n.out.lt); replace B_m := Lib.hid (Box3.below B_m.out bb B_m.out.lt); replace B_t := Lib.hid (Box3.below B_t.out bb B_t.out.lt); replace B_s := Lib.hid (Box3.below B_s.out bb B_s.out.lt); replace HB := Lib.hid (nextw HB.out bb); clear bb c0a c1a c2a c0b c1b c2b c0n c1n c2n c0m c1m c2m c0t c1t c2t c0s c1s c2s; have c0a := B_a.out.c0; have c1a := B_a.out.c1; have c2a := B_a.out.c2; have c0b := B_b.out.c0; have c1b := B_b.out.c1; have c2b := B_b.out.c2; have c0n := B_n.out.c0; have c1n := B_n.out.c1; have c2n := B_n.out.c2; have c0m := B_m.out.c0; have c1m := B_m.out.c1; have c2m := B_m.out.c2; have c0t := B_t.out.c0; have c1t := B_t.out.c1; have c2t := B_t.out.c2; have c0s := B_s.out.c0; have c1s := B_s.out.c1; have c2s := B_s.out.c2; have tk1x4 : True := trivial))
  clear c0a c1a c2a c0b c1b c2b c0n c1n c2n c0m c1m c2m c0t c1t c2t c0s c1s c2s
  go_wp2
  go_ret
  exact ⟨rfl, nextw HB.out (by exact ⟨rfl, rfl, rfl, Nat.le_refl _, fun _ _ => rfl⟩)⟩

set_option maxRecDepth 100000 in
set_option maxHeartbeats 8000000 in
theorem Vs_far (a b : V3) (ha : Ok a) (hb : Ok b) (hm : 67108864 < (prod a b).d) (w : World) :
    Calls Try.prog 5 #[vv a, vv b] w fun e w' => e = .returned (.bool true) ∧ Below w.heap.size w w' := by
  have HA := Lib.hid (fun w => awake_any w)
  have HN := Lib.hid (fun w => Norm_ok a ha w)
  have HM := Lib.hid (fun w => RNorm_ok a ha w)
  have HV := Lib.hid (fun w => Valid_yes a ha w)
  have HW := Lib.hid (fun w => RValid_yes a ha w)
  have HT := Lib.hid (fun w => Turn_range a b ha hb hm w)
  have HU := Lib.hid (fun w => RTurn_range a b ha hb hm w)
  have HC := Lib.hid (fun w => Cmp_ok a b ha hb w)
  have HD := Lib.hid (fun w => RCmp_ok a b ha hb w)
  generalize cmpV a b = r at *
  clear ha hb hm
  generalize low a.x a.y a.d = L at *
  obtain ⟨lx, ly, ld⟩ := L
  obtain ⟨x, y, d⟩ := a
  obtain ⟨u, v, f⟩ := b
  have HB := Lib.hid (show Below w.heap.size w ((w.alloc (.cells #[.int .i64 x, .int .i64 y, .int .i64 d] 24)).alloc (.cells #[.int .i64 u, .int .i64 v, .int .i64 f] 24)) from (((Below.refl _ _).alloc (by simp <;> omega) _).alloc (by simp <;> omega) _))
  have B_a : Box3 ((w.alloc (.cells #[.int .i64 x, .int .i64 y, .int .i64 d] 24)).alloc (.cells #[.int .i64 u, .int .i64 v, .int .i64 f] 24)) (w.heap.size) x y d := by have h := (Box3.alloc (Box3.new w x y d) (.cells #[.int .i64 u, .int .i64 v, .int .i64 f] 24)); simpa using h
  replace B_a := Lib.hid B_a
  have B_b : Box3 ((w.alloc (.cells #[.int .i64 x, .int .i64 y, .int .i64 d] 24)).alloc (.cells #[.int .i64 u, .int .i64 v, .int .i64 f] 24)) (w.heap.size + 1) u v f := by have h := (Box3.new (w.alloc (.cells #[.int .i64 x, .int .i64 y, .int .i64 d] 24)) u v f); simpa using h
  replace B_b := Lib.hid B_b
  go_enter Try.func5, Try.ntmps5
  go_wp2_with fail
  generalize (w.alloc (.cells #[.int .i64 x, .int .i64 y, .int .i64 d] 24)).alloc (.cells #[.int .i64 u, .int .i64 v, .int .i64 f] 24) = W0 at *
  refine (HA.out _).mono ?_
  rintro e w1 ⟨rfl, bb⟩
  replace bb := nextw (w0 := W0) (by exact ⟨rfl, rfl, rfl, Nat.le_refl _, fun _ _ => rfl⟩) bb
  replace B_a := Lib.hid (Box3.below B_a.out bb B_a.out.lt)
  replace B_b := Lib.hid (Box3.below B_b.out bb B_b.out.lt)
  replace HB := Lib.hid (nextw HB.out bb)
  clear bb
  have c0a := B_a.out.c0
  have c1a := B_a.out.c1
  have c2a := B_a.out.c2
  have c0b := B_b.out.c0
  have c1b := B_b.out.c1
  have c2b := B_b.out.c2
  go_wp2_with fail
  refine (HN.out _).mono ?_
  clear c0a c1a c2a c0b c1b c2b
  rintro e w2 ⟨rfl, bb⟩
  replace bb := nextw (w0 := w1) (by exact ⟨rfl, rfl, rfl, Nat.le_refl _, fun _ _ => rfl⟩) bb
  replace B_a := Lib.hid (Box3.below B_a.out bb B_a.out.lt)
  replace B_b := Lib.hid (Box3.below B_b.out bb B_b.out.lt)
  replace HB := Lib.hid (nextw HB.out bb)
  clear bb
  have lt_na := B_a.out.lt
  have lt_nb := B_b.out.lt
  have B_n := Lib.hid (Box3.new w2 lx ly ld)
  replace B_a := Lib.hid (Box3.alloc B_a.out (.cells #[.int .i64 lx, .int .i64 ly, .int .i64 ld] 24))
  replace B_b := Lib.hid (Box3.alloc B_b.out (.cells #[.int .i64 lx, .int .i64 ly, .int .i64 ld] 24))
  replace HB := Lib.hid (nextw HB.out ((Below.refl w2.heap.size w2).alloc (Nat.le_refl _) (.cells #[.int .i64 lx, .int .i64 ly, .int .i64 ld] 24)))
  go_upto_region 4 with (fail)
  generalize w2.alloc (.cells #[.int .i64 lx, .int .i64 ly, .int .i64 ld] 24) = WN at *
  have c0a := B_a.out.c0
  have c1a := B_a.out.c1
  have c2a := B_a.out.c2
  have c0b := B_b.out.c0
  have c1b := B_b.out.c1
  have c2b := B_b.out.c2
  go_wp2_with fail
  refine (HM.out _).mono ?_
  clear c0a c1a c2a c0b c1b c2b
  rintro e w3 ⟨rfl, bb⟩
  replace bb := nextw (w0 := WN) (by exact ⟨rfl, rfl, rfl, Nat.le_refl _, fun _ _ => rfl⟩) bb
  replace B_a := Lib.hid (Box3.below B_a.out bb B_a.out.lt)
  replace B_b := Lib.hid (Box3.below B_b.out bb B_b.out.lt)
  replace B_n := Lib.hid (Box3.below B_n.out bb B_n.out.lt)
  replace HB := Lib.hid (nextw HB.out bb)
  clear bb
  have lt_ma := B_a.out.lt
  have lt_mb := B_b.out.lt
  have lt_mn := B_n.out.lt
  have B_m := Lib.hid (Box3.new w3 lx ly ld)
  replace B_a := Lib.hid (Box3.alloc B_a.out (.cells #[.int .i64 lx, .int .i64 ly, .int .i64 ld] 24))
  replace B_b := Lib.hid (Box3.alloc B_b.out (.cells #[.int .i64 lx, .int .i64 ly, .int .i64 ld] 24))
  replace B_n := Lib.hid (Box3.alloc B_n.out (.cells #[.int .i64 lx, .int .i64 ly, .int .i64 ld] 24))
  replace HB := Lib.hid (nextw HB.out ((Below.refl w3.heap.size w3).alloc (Nat.le_refl _) (.cells #[.int .i64 lx, .int .i64 ly, .int .i64 ld] 24)))
  go_upto_region 5 with (fail)
  generalize w3.alloc (.cells #[.int .i64 lx, .int .i64 ly, .int .i64 ld] 24) = WM at *
  have c0a := B_a.out.c0
  have c1a := B_a.out.c1
  have c2a := B_a.out.c2
  have c0b := B_b.out.c0
  have c1b := B_b.out.c1
  have c2b := B_b.out.c2
  go_wp2_with fail
  refine (HT.out _).mono ?_
  clear c0a c1a c2a c0b c1b c2b
  rintro e w4 ⟨rfl, bb⟩
  replace bb := nextw (w0 := WM) (by exact ⟨rfl, rfl, rfl, Nat.le_refl _, fun _ _ => rfl⟩) bb
  replace B_a := Lib.hid (Box3.below B_a.out bb B_a.out.lt)
  replace B_b := Lib.hid (Box3.below B_b.out bb B_b.out.lt)
  replace B_n := Lib.hid (Box3.below B_n.out bb B_n.out.lt)
  replace B_m := Lib.hid (Box3.below B_m.out bb B_m.out.lt)
  replace HB := Lib.hid (nextw HB.out bb)
  clear bb
  have lt_ta := B_a.out.lt
  have lt_tb := B_b.out.lt
  have lt_tn := B_n.out.lt
  have lt_tm := B_m.out.lt
  have B_t := Lib.hid (Box3.new w4 0 0 0)
  replace B_a := Lib.hid (Box3.alloc B_a.out (.cells #[.int .i64 0, .int .i64 0, .int .i64 0] 24))
  replace B_b := Lib.hid (Box3.alloc B_b.out (.cells #[.int .i64 0, .int .i64 0, .int .i64 0] 24))
  replace B_n := Lib.hid (Box3.alloc B_n.out (.cells #[.int .i64 0, .int .i64 0, .int .i64 0] 24))
  replace B_m := Lib.hid (Box3.alloc B_m.out (.cells #[.int .i64 0, .int .i64 0, .int .i64 0] 24))
  replace HB := Lib.hid (nextw HB.out ((Below.refl w4.heap.size w4).alloc (Nat.le_refl _) (.cells #[.int .i64 0, .int .i64 0, .int .i64 0] 24)))
  go_upto_region 6 with (fail)
  generalize w4.alloc (.cells #[.int .i64 0, .int .i64 0, .int .i64 0] 24) = WT at *
  have c0a := B_a.out.c0
  have c1a := B_a.out.c1
  have c2a := B_a.out.c2
  have c0b := B_b.out.c0
  have c1b := B_b.out.c1
  have c2b := B_b.out.c2
  go_wp2_with fail
  refine (HU.out _).mono ?_
  clear c0a c1a c2a c0b c1b c2b
  rintro e w5 ⟨rfl, bb⟩
  replace bb := nextw (w0 := WT) (by exact ⟨rfl, rfl, rfl, Nat.le_refl _, fun _ _ => rfl⟩) bb
  replace B_a := Lib.hid (Box3.below B_a.out bb B_a.out.lt)
  replace B_b := Lib.hid (Box3.below B_b.out bb B_b.out.lt)
  replace B_n := Lib.hid (Box3.below B_n.out bb B_n.out.lt)
  replace B_m := Lib.hid (Box3.below B_m.out bb B_m.out.lt)
  replace B_t := Lib.hid (Box3.below B_t.out bb B_t.out.lt)
  replace HB := Lib.hid (nextw HB.out bb)
  clear bb
  have lt_sa := B_a.out.lt
  have lt_sb := B_b.out.lt
  have lt_sn := B_n.out.lt
  have lt_sm := B_m.out.lt
  have lt_st := B_t.out.lt
  have B_s := Lib.hid (Box3.new w5 0 0 0)
  replace B_a := Lib.hid (Box3.alloc B_a.out (.cells #[.int .i64 0, .int .i64 0, .int .i64 0] 24))
  replace B_b := Lib.hid (Box3.alloc B_b.out (.cells #[.int .i64 0, .int .i64 0, .int .i64 0] 24))
  replace B_n := Lib.hid (Box3.alloc B_n.out (.cells #[.int .i64 0, .int .i64 0, .int .i64 0] 24))
  replace B_m := Lib.hid (Box3.alloc B_m.out (.cells #[.int .i64 0, .int .i64 0, .int .i64 0] 24))
  replace B_t := Lib.hid (Box3.alloc B_t.out (.cells #[.int .i64 0, .int .i64 0, .int .i64 0] 24))
  replace HB := Lib.hid (nextw HB.out ((Below.refl w5.heap.size w5).alloc (Nat.le_refl _) (.cells #[.int .i64 0, .int .i64 0, .int .i64 0] 24)))
  go_upto_region 7 with (fail)
  generalize w5.alloc (.cells #[.int .i64 0, .int .i64 0, .int .i64 0] 24) = WU at *
  clear HA HN HM HT HU
  go_wp2_with fail
  have c0a := B_a.out.c0
  have c1a := B_a.out.c1
  have c2a := B_a.out.c2
  have c0b := B_b.out.c0
  have c1b := B_b.out.c1
  have c2b := B_b.out.c2
  have c0n := B_n.out.c0
  have c1n := B_n.out.c1
  have c2n := B_n.out.c2
  have c0m := B_m.out.c0
  have c1m := B_m.out.c1
  have c2m := B_m.out.c2
  have c0t := B_t.out.c0
  have c1t := B_t.out.c1
  have c2t := B_t.out.c2
  have c0s := B_s.out.c0
  have c1s := B_s.out.c1
  have c2s := B_s.out.c2
  have tk1x0 : True := trivial
  go_region_held3 (fun w' => w'.cell? ⟨w.heap.size, 0, none⟩ = some (.int .i64 x) ∧ w'.cell? ⟨w.heap.size, 1, none⟩ = some (.int .i64 y) ∧ w'.cell? ⟨w.heap.size, 2, none⟩ = some (.int .i64 d) ∧ w'.cell? ⟨w.heap.size + 1, 0, none⟩ = some (.int .i64 u) ∧ w'.cell? ⟨w.heap.size + 1, 1, none⟩ = some (.int .i64 v) ∧ w'.cell? ⟨w.heap.size + 1, 2, none⟩ = some (.int .i64 f) ∧ w'.cell? ⟨w2.heap.size, 0, none⟩ = some (.int .i64 lx) ∧ w'.cell? ⟨w2.heap.size, 1, none⟩ = some (.int .i64 ly) ∧ w'.cell? ⟨w2.heap.size, 2, none⟩ = some (.int .i64 ld) ∧ w'.cell? ⟨w3.heap.size, 0, none⟩ = some (.int .i64 lx) ∧ w'.cell? ⟨w3.heap.size, 1, none⟩ = some (.int .i64 ly) ∧ w'.cell? ⟨w3.heap.size, 2, none⟩ = some (.int .i64 ld) ∧ w'.cell? ⟨w4.heap.size, 0, none⟩ = some (.int .i64 0) ∧ w'.cell? ⟨w4.heap.size, 1, none⟩ = some (.int .i64 0) ∧ w'.cell? ⟨w4.heap.size, 2, none⟩ = some (.int .i64 0) ∧ w'.cell? ⟨w5.heap.size, 0, none⟩ = some (.int .i64 0) ∧ w'.cell? ⟨w5.heap.size, 1, none⟩ = some (.int .i64 0) ∧ w'.cell? ⟨w5.heap.size, 2, none⟩ = some (.int .i64 0)) (((try dsimp only); (repeat' apply And.intro) <;> (first | (with_reducible assumption) | ((repeat (first | (with_reducible refine Eq.trans (cell_drew1 _ _) ?_) | (with_reducible refine Eq.trans (World.cell?_alloc_lt _ _ _ (by first | (dsimp only; omega) | (simp only [World.size_alloc, World.size_setCell]; omega))) ?_))); with_reducible assumption) | assumption | go_keep)))
    (first
      | (clear tk1x0; go_at_call 20; refine (HV.out _).mono ?_; rintro e w6 ⟨rfl, bb⟩; replace bb := nextw (w0 := WU) (by exact ⟨rfl, rfl, rfl, Nat.le_refl _, fun _ _ => rfl⟩) bb; replace B_a := Lib.hid (Box3.below B_a.out bb B_a.out.lt); replace B_b := Lib.hid (Box3.below B_b.out bb B_b.out.lt); replace B_n := Lib.hid (Box3.below B_n.out bb B_n.out.lt); replace B_m := Lib.hid (Box3.below B_m.out bb B_m.out.lt); replace B_t := Lib.hid (Box3.below B_t.out bb B_t.out.lt); replace B_s := Lib.hid (Box3.below B_s.out bb B_s.out.lt); replace HB := Lib.hid (nextw HB.out bb); clear bb c0a c1a c2a c0b c1b c2b c0n c1n c2n c0m c1m c2m c0t c1t c2t c0s c1s c2s; have c0a := B_a.out.c0; have c1a := B_a.out.c1; have c2a := B_a.out.c2; have c0b := B_b.out.c0; have c1b := B_b.out.c1; have c2b := B_b.out.c2; have c0n := B_n.out.c0; have c1n := B_n.out.c1; have c2n := B_n.out.c2; have c0m := B_m.out.c0; have c1m := B_m.out.c1; have c2m := B_m.out.c2; have c0t := B_t.out.c0; have c1t := B_t.out.c1; have c2t := B_t.out.c2; have c0s := B_s.out.c0; have c1s := B_s.out.c1; have c2s := B_s.out.c2; have tk1x1 : True := trivial)
      | (clear tk1x1; go_at_call 26; refine (HW.out _).mono ?_; rintro e w7 ⟨rfl, bb⟩; replace bb := nextw (w0 := w6) (by exact ⟨rfl, rfl, rfl, Nat.le_refl _, fun _ _ => rfl⟩) bb; replace B_a := Lib.hid (Box3.below B_a.out bb B_a.out.lt); replace B_b := Lib.hid (Box3.below B_b.out bb B_b.out.lt); replace B_n := Lib.hid (Box3.below B_n.out bb B_n.out.lt); replace B_m := Lib.hid (Box3.below B_m.out bb B_m.out.lt); replace B_t := Lib.hid (Box3.below B_t.out bb B_t.out.lt); replace B_s := Lib.hid (Box3.below B_s.out bb B_s.out.lt); replace HB := Lib.hid (nextw HB.out bb); clear bb c0a c1a c2a c0b c1b c2b c0n c1n c2n c0m c1m c2m c0t c1t c2t c0s c1s c2s; have c0a := B_a.out.c0; have c1a := B_a.out.c1; have c2a := B_a.out.c2; have c0b := B_b.out.c0; have c1b := B_b.out.c1; have c2b := B_b.out.c2; have c0n := B_n.out.c0; have c1n := B_n.out.c1; have c2n := B_n.out.c2; have c0m := B_m.out.c0; have c1m := B_m.out.c1; have c2m := B_m.out.c2; have c0t := B_t.out.c0; have c1t := B_t.out.c1; have c2t := B_t.out.c2; have c0s := B_s.out.c0; have c1s := B_s.out.c1; have c2s := B_s.out.c2; have tk1x2 : True := trivial)
      | (clear tk1x2; go_at_call 21; refine (HC.out _).mono ?_; rintro e w8 ⟨rfl, bb⟩; replace bb := nextw (w0 := w7) (by exact ⟨rfl, rfl, rfl, Nat.le_refl _, fun _ _ => rfl⟩) bb; replace B_a := Lib.hid (Box3.below B_a.out bb B_a.out.lt); replace B_b := Lib.hid (Box3.below B_b.out bb B_b.out.lt); replace B_n := Lib.hid (Box3.below B_n.out bb B_n.out.lt); replace B_m := Lib.hid (Box3.below B_m.out bb B_m.out.lt); replace B_t := Lib.hid (Box3.below B_t.out bb B_t.out.lt); replace B_s := Lib.hid (Box3.below B_s.out bb B_s.out.lt); replace HB := Lib.hid (nextw HB.out bb); clear bb c0a c1a c2a c0b c1b c2b c0n c1n c2n c0m c1m c2m c0t c1t c2t c0s c1s c2s; have c0a := B_a.out.c0; have c1a := B_a.out.c1; have c2a := B_a.out.c2; have c0b := B_b.out.c0; have c1b := B_b.out.c1; have c2b := B_b.out.c2; have c0n := B_n.out.c0; have c1n := B_n.out.c1; have c2n := B_n.out.c2; have c0m := B_m.out.c0; have c1m := B_m.out.c1; have c2m := B_m.out.c2; have c0t := B_t.out.c0; have c1t := B_t.out.c1; have c2t := B_t.out.c2; have c0s := B_s.out.c0; have c1s := B_s.out.c1; have c2s := B_s.out.c2; have tk1x3 : True := trivial)
      | (clear tk1x3; go_at_call 27; refine (HD.out _).mono ?_; rintro e w9 ⟨rfl, bb⟩; replace bb := nextw (w0 := w8) (by exact ⟨rfl, rfl, rfl, Nat.le_refl _, fun _ _ => rfl⟩) bb; replace B_a := Lib.hid (Box3.below B_a.out bb B_a.out.lt); replace B_b := Lib.hid (Box3.below B_b.out bb B_b.out.lt); replace B_n := Lib.hid (Box3.below B_n.out bb B_n.out.lt); replace B_m := Lib.hid (Box3.below B_m.out bb B_m.out.lt); replace B_t := Lib.hid (Box3.below B_t.out bb B_t.out.lt); replace B_s := Lib.hid (Box3.below B_s.out bb B_s.out.lt); replace HB := Lib.hid (nextw HB.out bb); clear bb c0a c1a c2a c0b c1b c2b c0n c1n c2n c0m c1m c2m c0t c1t c2t c0s c1s c2s; have c0a := B_a.out.c0; have c1a := B_a.out.c1; have c2a := B_a.out.c2; have c0b := B_b.out.c0; have c1b := B_b.out.c1; have c2b := B_b.out.c2; have c0n := B_n.out.c0; have c1n := B_n.out.c1; have c2n := B_n.out.c2; have c0m := B_m.out.c0; have c1m := B_m.out.c1; have c2m := B_m.out.c2; have c0t := B_t.out.c0; have c1t := B_t.out.c1; have c2t := B_t.out.c2; have c0s := B_s.out.c0; have c1s := B_s.out.c1; have c2s := B_s.out.c2; have tk1x4 : True := trivial))
  clear c0a c1a c2a c0b c1b c2b c0n c1n c2n c0m c1m c2m c0t c1t c2t c0s c1s c2s
  go_wp2
  go_ret
  exact ⟨rfl, nextw HB.out (by exact ⟨rfl, rfl, rfl, Nat.le_refl _, fun _ _ => rfl⟩)⟩

set_option maxRecDepth 100000 in
set_option maxHeartbeats 8000000 in
theorem Vs_near (a b : V3) (ha : Ok a) (hb : Ok b) (hm : (prod a b).d ≤ 67108864) (w : World) :
    Calls Try.prog 5 #[vv a, vv b] w fun e w' => e = .returned (.bool true) ∧ Below w.heap.size w w' := by
  have HA := Lib.hid (fun w => awake_any w)
  have HN := Lib.hid (fun w => Norm_ok a ha w)
  have HM := Lib.hid (fun w => RNorm_ok a ha w)
  have HV := Lib.hid (fun w => Valid_yes a ha w)
  have HW := Lib.hid (fun w => RValid_yes a ha w)
  have HT := Lib.hid (fun w => Turn_ok a b ha hb hm w)
  have HU := Lib.hid (fun w => RTurn_ok a b ha hb hm w)
  have HC := Lib.hid (fun w => Cmp_ok a b ha hb w)
  have HD := Lib.hid (fun w => RCmp_ok a b ha hb w)
  generalize cmpV a b = r at *
  clear ha hb hm
  generalize low a.x a.y a.d = L at *
  obtain ⟨lx, ly, ld⟩ := L
  generalize prod a b = P at *
  obtain ⟨px, py, pd⟩ := P
  obtain ⟨x, y, d⟩ := a
  obtain ⟨u, v, f⟩ := b
  have HB := Lib.hid (show Below w.heap.size w ((w.alloc (.cells #[.int .i64 x, .int .i64 y, .int .i64 d] 24)).alloc (.cells #[.int .i64 u, .int .i64 v, .int .i64 f] 24)) from (((Below.refl _ _).alloc (by simp <;> omega) _).alloc (by simp <;> omega) _))
  have B_a : Box3 ((w.alloc (.cells #[.int .i64 x, .int .i64 y, .int .i64 d] 24)).alloc (.cells #[.int .i64 u, .int .i64 v, .int .i64 f] 24)) (w.heap.size) x y d := by have h := (Box3.alloc (Box3.new w x y d) (.cells #[.int .i64 u, .int .i64 v, .int .i64 f] 24)); simpa using h
  replace B_a := Lib.hid B_a
  have B_b : Box3 ((w.alloc (.cells #[.int .i64 x, .int .i64 y, .int .i64 d] 24)).alloc (.cells #[.int .i64 u, .int .i64 v, .int .i64 f] 24)) (w.heap.size + 1) u v f := by have h := (Box3.new (w.alloc (.cells #[.int .i64 x, .int .i64 y, .int .i64 d] 24)) u v f); simpa using h
  replace B_b := Lib.hid B_b
  go_enter Try.func5, Try.ntmps5
  go_wp2_with fail
  generalize (w.alloc (.cells #[.int .i64 x, .int .i64 y, .int .i64 d] 24)).alloc (.cells #[.int .i64 u, .int .i64 v, .int .i64 f] 24) = W0 at *
  refine (HA.out _).mono ?_
  rintro e w1 ⟨rfl, bb⟩
  replace bb := nextw (w0 := W0) (by exact ⟨rfl, rfl, rfl, Nat.le_refl _, fun _ _ => rfl⟩) bb
  replace B_a := Lib.hid (Box3.below B_a.out bb B_a.out.lt)
  replace B_b := Lib.hid (Box3.below B_b.out bb B_b.out.lt)
  replace HB := Lib.hid (nextw HB.out bb)
  clear bb
  have c0a := B_a.out.c0
  have c1a := B_a.out.c1
  have c2a := B_a.out.c2
  have c0b := B_b.out.c0
  have c1b := B_b.out.c1
  have c2b := B_b.out.c2
  go_wp2_with fail
  refine (HN.out _).mono ?_
  clear c0a c1a c2a c0b c1b c2b
  rintro e w2 ⟨rfl, bb⟩
  replace bb := nextw (w0 := w1) (by exact ⟨rfl, rfl, rfl, Nat.le_refl _, fun _ _ => rfl⟩) bb
  replace B_a := Lib.hid (Box3.below B_a.out bb B_a.out.lt)
  replace B_b := Lib.hid (Box3.below B_b.out bb B_b.out.lt)
  replace HB := Lib.hid (nextw HB.out bb)
  clear bb
  have lt_na := B_a.out.lt
  have lt_nb := B_b.out.lt
  have B_n := Lib.hid (Box3.new w2 lx ly ld)
  replace B_a := Lib.hid (Box3.alloc B_a.out (.cells #[.int .i64 lx, .int .i64 ly, .int .i64 ld] 24))
  replace B_b := Lib.hid (Box3.alloc B_b.out (.cells #[.int .i64 lx, .int .i64 ly, .int .i64 ld] 24))
  replace HB := Lib.hid (nextw HB.out ((Below.refl w2.heap.size w2).alloc (Nat.le_refl _) (.cells #[.int .i64 lx, .int .i64 ly, .int .i64 ld] 24)))
  go_upto_region 4 with (fail)
  generalize w2.alloc (.cells #[.int .i64 lx, .int .i64 ly, .int .i64 ld] 24) = WN at *
  have c0a := B_a.out.c0
  have c1a := B_a.out.c1
  have c2a := B_a.out.c2
  have c0b := B_b.out.c0
  have c1b := B_b.out.c1
  have c2b := B_b.out.c2
  go_wp2_with fail
  refine (HM.out _).mono ?_
  clear c0a c1a c2a c0b c1b c2b
  rintro e w3 ⟨rfl, bb⟩
  replace bb := nextw (w0 := WN) (by exact ⟨rfl, rfl, rfl, Nat.le_refl _, fun _ _ => rfl⟩) bb
  replace B_a := Lib.hid (Box3.below B_a.out bb B_a.out.lt)
  replace B_b := Lib.hid (Box3.below B_b.out bb B_b.out.lt)
  replace B_n := Lib.hid (Box3.below B_n.out bb B_n.out.lt)
  replace HB := Lib.hid (nextw HB.out bb)
  clear bb
  have lt_ma := B_a.out.lt
  have lt_mb := B_b.out.lt
  have lt_mn := B_n.out.lt
  have B_m := Lib.hid (Box3.new w3 lx ly ld)
  replace B_a := Lib.hid (Box3.alloc B_a.out (.cells #[.int .i64 lx, .int .i64 ly, .int .i64 ld] 24))
  replace B_b := Lib.hid (Box3.alloc B_b.out (.cells #[.int .i64 lx, .int .i64 ly, .int .i64 ld] 24))
  replace B_n := Lib.hid (Box3.alloc B_n.out (.cells #[.int .i64 lx, .int .i64 ly, .int .i64 ld] 24))
  replace HB := Lib.hid (nextw HB.out ((Below.refl w3.heap.size w3).alloc (Nat.le_refl _) (.cells #[.int .i64 lx, .int .i64 ly, .int .i64 ld] 24)))
  go_upto_region 5 with (fail)
  generalize w3.alloc (.cells #[.int .i64 lx, .int .i64 ly, .int .i64 ld] 24) = WM at *
  have c0a := B_a.out.c0
  have c1a := B_a.out.c1
  have c2a := B_a.out.c2
  have c0b := B_b.out.c0
  have c1b := B_b.out.c1
  have c2b := B_b.out.c2
  go_wp2_with fail
  refine (HT.out _).mono ?_
  clear c0a c1a c2a c0b c1b c2b
  rintro e w4 ⟨rfl, bb⟩
  replace bb := nextw (w0 := WM) (by exact ⟨rfl, rfl, rfl, Nat.le_refl _, fun _ _ => rfl⟩) bb
  replace B_a := Lib.hid (Box3.below B_a.out bb B_a.out.lt)
  replace B_b := Lib.hid (Box3.below B_b.out bb B_b.out.lt)
  replace B_n := Lib.hid (Box3.below B_n.out bb B_n.out.lt)
  replace B_m := Lib.hid (Box3.below B_m.out bb B_m.out.lt)
  replace HB := Lib.hid (nextw HB.out bb)
  clear bb
  have lt_ta := B_a.out.lt
  have lt_tb := B_b.out.lt
  have lt_tn := B_n.out.lt
  have lt_tm := B_m.out.lt
  have B_t := Lib.hid (Box3.new w4 px py pd)
  replace B_a := Lib.hid (Box3.alloc B_a.out (.cells #[.int .i64 px, .int .i64 py, .int .i64 pd] 24))
  replace B_b := Lib.hid (Box3.alloc B_b.out (.cells #[.int .i64 px, .int .i64 py, .int .i64 pd] 24))
  replace B_n := Lib.hid (Box3.alloc B_n.out (.cells #[.int .i64 px, .int .i64 py, .int .i64 pd] 24))
  replace B_m := Lib.hid (Box3.alloc B_m.out (.cells #[.int .i64 px, .int .i64 py, .int .i64 pd] 24))
  replace HB := Lib.hid (nextw HB.out ((Below.refl w4.heap.size w4).alloc (Nat.le_refl _) (.cells #[.int .i64 px, .int .i64 py, .int .i64 pd] 24)))
  go_upto_region 6 with (fail)
  generalize w4.alloc (.cells #[.int .i64 px, .int .i64 py, .int .i64 pd] 24) = WT at *
  have c0a := B_a.out.c0
  have c1a := B_a.out.c1
  have c2a := B_a.out.c2
  have c0b := B_b.out.c0
  have c1b := B_b.out.c1
  have c2b := B_b.out.c2
  go_wp2_with fail
  refine (HU.out _).mono ?_
  clear c0a c1a c2a c0b c1b c2b
  rintro e w5 ⟨rfl, bb⟩
  replace bb := nextw (w0 := WT) (by exact ⟨rfl, rfl, rfl, Nat.le_refl _, fun _ _ => rfl⟩) bb
  replace B_a := Lib.hid (Box3.below B_a.out bb B_a.out.lt)
  replace B_b := Lib.hid (Box3.below B_b.out bb B_b.out.lt)
  replace B_n := Lib.hid (Box3.below B_n.out bb B_n.out.lt)
  replace B_m := Lib.hid (Box3.below B_m.out bb B_m.out.lt)
  replace B_t := Lib.hid (Box3.below B_t.out bb B_t.out.lt)
  replace HB := Lib.hid (nextw HB.out bb)
  clear bb
  have lt_sa := B_a.out.lt
  have lt_sb := B_b.out.lt
  have lt_sn := B_n.out.lt
  have lt_sm := B_m.out.lt
  have lt_st := B_t.out.lt
  have B_s := Lib.hid (Box3.new w5 px py pd)
  replace B_a := Lib.hid (Box3.alloc B_a.out (.cells #[.int .i64 px, .int .i64 py, .int .i64 pd] 24))
  replace B_b := Lib.hid (Box3.alloc B_b.out (.cells #[.int .i64 px, .int .i64 py, .int .i64 pd] 24))
  replace B_n := Lib.hid (Box3.alloc B_n.out (.cells #[.int .i64 px, .int .i64 py, .int .i64 pd] 24))
  replace B_m := Lib.hid (Box3.alloc B_m.out (.cells #[.int .i64 px, .int .i64 py, .int .i64 pd] 24))
  replace B_t := Lib.hid (Box3.alloc B_t.out (.cells #[.int .i64 px, .int .i64 py, .int .i64 pd] 24))
  replace HB := Lib.hid (nextw HB.out ((Below.refl w5.heap.size w5).alloc (Nat.le_refl _) (.cells #[.int .i64 px, .int .i64 py, .int .i64 pd] 24)))
  go_upto_region 7 with (fail)
  generalize w5.alloc (.cells #[.int .i64 px, .int .i64 py, .int .i64 pd] 24) = WU at *
  clear HA HN HM HT HU
  go_wp2_with fail
  have c0a := B_a.out.c0
  have c1a := B_a.out.c1
  have c2a := B_a.out.c2
  have c0b := B_b.out.c0
  have c1b := B_b.out.c1
  have c2b := B_b.out.c2
  have c0n := B_n.out.c0
  have c1n := B_n.out.c1
  have c2n := B_n.out.c2
  have c0m := B_m.out.c0
  have c1m := B_m.out.c1
  have c2m := B_m.out.c2
  have c0t := B_t.out.c0
  have c1t := B_t.out.c1
  have c2t := B_t.out.c2
  have c0s := B_s.out.c0
  have c1s := B_s.out.c1
  have c2s := B_s.out.c2
  have tk1x0 : True := trivial
  go_region_held3 (fun w' => w'.cell? ⟨w.heap.size, 0, none⟩ = some (.int .i64 x) ∧ w'.cell? ⟨w.heap.size, 1, none⟩ = some (.int .i64 y) ∧ w'.cell? ⟨w.heap.size, 2, none⟩ = some (.int .i64 d) ∧ w'.cell? ⟨w.heap.size + 1, 0, none⟩ = some (.int .i64 u) ∧ w'.cell? ⟨w.heap.size + 1, 1, none⟩ = some (.int .i64 v) ∧ w'.cell? ⟨w.heap.size + 1, 2, none⟩ = some (.int .i64 f) ∧ w'.cell? ⟨w2.heap.size, 0, none⟩ = some (.int .i64 lx) ∧ w'.cell? ⟨w2.heap.size, 1, none⟩ = some (.int .i64 ly) ∧ w'.cell? ⟨w2.heap.size, 2, none⟩ = some (.int .i64 ld) ∧ w'.cell? ⟨w3.heap.size, 0, none⟩ = some (.int .i64 lx) ∧ w'.cell? ⟨w3.heap.size, 1, none⟩ = some (.int .i64 ly) ∧ w'.cell? ⟨w3.heap.size, 2, none⟩ = some (.int .i64 ld) ∧ w'.cell? ⟨w4.heap.size, 0, none⟩ = some (.int .i64 px) ∧ w'.cell? ⟨w4.heap.size, 1, none⟩ = some (.int .i64 py) ∧ w'.cell? ⟨w4.heap.size, 2, none⟩ = some (.int .i64 pd) ∧ w'.cell? ⟨w5.heap.size, 0, none⟩ = some (.int .i64 px) ∧ w'.cell? ⟨w5.heap.size, 1, none⟩ = some (.int .i64 py) ∧ w'.cell? ⟨w5.heap.size, 2, none⟩ = some (.int .i64 pd)) (((try dsimp only); (repeat' apply And.intro) <;> (first | (with_reducible assumption) | ((repeat (first | (with_reducible refine Eq.trans (cell_drew1 _ _) ?_) | (with_reducible refine Eq.trans (World.cell?_alloc_lt _ _ _ (by first | (dsimp only; omega) | (simp only [World.size_alloc, World.size_setCell]; omega))) ?_))); with_reducible assumption) | assumption | go_keep)))
    (first
      | (clear tk1x0; go_at_call 20; refine (HV.out _).mono ?_; rintro e w6 ⟨rfl, bb⟩; replace bb := nextw (w0 := WU) (by exact ⟨rfl, rfl, rfl, Nat.le_refl _, fun _ _ => rfl⟩) bb; replace B_a := Lib.hid (Box3.below B_a.out bb B_a.out.lt); replace B_b := Lib.hid (Box3.below B_b.out bb B_b.out.lt); replace B_n := Lib.hid (Box3.below B_n.out bb B_n.out.lt); replace B_m := Lib.hid (Box3.below B_m.out bb B_m.out.lt); replace B_t := Lib.hid (Box3.below B_t.out bb B_t.out.lt); replace B_s := Lib.hid (Box3.below B_s.out bb B_s.out.lt); replace HB := Lib.hid (nextw HB.out bb); clear bb c0a c1a c2a c0b c1b c2b c0n c1n c2n c0m c1m c2m c0t c1t c2t c0s c1s c2s; have c0a := B_a.out.c0; have c1a := B_a.out.c1; have c2a := B_a.out.c2; have c0b := B_b.out.c0; have c1b := B_b.out.c1; have c2b := B_b.out.c2; have c0n := B_n.out.c0; have c1n := B_n.out.c1; have c2n := B_n.out.c2; have c0m := B_m.out.c0; have c1m := B_m.out.c1; have c2m := B_m.out.c2; have c0t := B_t.out.c0; have c1t := B_t.out.c1; have c2t := B_t.out.c2; have c0s := B_s.out.c0; have c1s := B_s.out.c1; have c2s := B_s.out.c2; have tk1x1 : True := trivial)
      | (clear tk1x1; go_at_call 26; refine (HW.out _).mono ?_; rintro e w7 ⟨rfl, bb⟩; replace bb := nextw (w0 := w6) (by exact ⟨rfl, rfl, rfl, Nat.le_refl _, fun _ _ => rfl⟩) bb; replace B_a := Lib.hid (Box3.below B_a.out bb B_a.out.lt); replace B_b := Lib.hid (Box3.below B_b.out bb B_b.out.lt); replace B_n := Lib.hid (Box3.below B_n.out bb B_n.out.lt); replace B_m := Lib.hid (Box3.below B_m.out bb B_m.out.lt); replace B_t := Lib.hid (Box3.below B_t.out bb B_t.out.lt); replace B_s := Lib.hid (Box3.below B_s.out bb B_s.out.lt); replace HB := Lib.hid (nextw HB.out bb); clear bb c0a c1a c2a c0b c1b c2b c0n c1n c2n c0m c1m c2m c0t c1t c2t c0s c1s c2s; have c0a := B_a.out.c0; have c1a := B_a.out.c1; have c2a := B_a.out.c2; have c0b := B_b.out.c0; have c1b := B_b.out.c1; have c2b := B_b.out.c2; have c0n := B_n.out.c0; have c1n := B_n.out.c1; have c2n := B_n.out.c2; have c0m := B_m.out.c0; have c1m := B_m.out.c1; have c2m := B_m.out.c2; have c0t := B_t.out.c0; have c1t := B_t.out.c1; have c2t := B_t.out.c2; have c0s := B_s.out.c0; have c1s := B_s.out.c1; have c2s := B_s.out.c2; have tk1x2 : True := trivial)
      | (clear tk1x2; go_at_call 21; refine (HC.out _).mono ?_; rintro e w8 ⟨rfl, bb⟩; replace bb := nextw (w0 := w7) (by exact ⟨rfl, rfl, rfl, Nat.le_refl _, fun _ _ => rfl⟩) bb; replace B_a := Lib.hid (Box3.below B_a.out bb B_a.out.lt); replace B_b := Lib.hid (Box3.below B_b.out bb B_b.out.lt); replace B_n := Lib.hid (Box3.below B_n.out bb B_n.out.lt); replace B_m := Lib.hid (Box3.below B_m.out bb B_m.out.lt); replace B_t := Lib.hid (Box3.below B_t.out bb B_t.out.lt); replace B_s := Lib.hid (Box3.below B_s.out bb B_s.out.lt); replace HB := Lib.hid (nextw HB.out bb); clear bb c0a c1a c2a c0b c1b c2b c0n c1n c2n c0m c1m c2m c0t c1t c2t c0s c1s c2s; have c0a := B_a.out.c0; have c1a := B_a.out.c1; have c2a := B_a.out.c2; have c0b := B_b.out.c0; have c1b := B_b.out.c1; have c2b := B_b.out.c2; have c0n := B_n.out.c0; have c1n := B_n.out.c1; have c2n := B_n.out.c2; have c0m := B_m.out.c0; have c1m := B_m.out.c1; have c2m := B_m.out.c2; have c0t := B_t.out.c0; have c1t := B_t.out.c1; have c2t := B_t.out.c2; have c0s := B_s.out.c0; have c1s := B_s.out.c1; have c2s := B_s.out.c2; have tk1x3 : True := trivial)
      | (clear tk1x3; go_at_call 27; refine (HD.out _).mono ?_; rintro e w9 ⟨rfl, bb⟩; replace bb := nextw (w0 := w8) (by exact ⟨rfl, rfl, rfl, Nat.le_refl _, fun _ _ => rfl⟩) bb; replace B_a := Lib.hid (Box3.below B_a.out bb B_a.out.lt); replace B_b := Lib.hid (Box3.below B_b.out bb B_b.out.lt); replace B_n := Lib.hid (Box3.below B_n.out bb B_n.out.lt); replace B_m := Lib.hid (Box3.below B_m.out bb B_m.out.lt); replace B_t := Lib.hid (Box3.below B_t.out bb B_t.out.lt); replace B_s := Lib.hid (Box3.below B_s.out bb B_s.out.lt); replace HB := Lib.hid (nextw HB.out bb); clear bb c0a c1a c2a c0b c1b c2b c0n c1n c2n c0m c1m c2m c0t c1t c2t c0s c1s c2s; have c0a := B_a.out.c0; have c1a := B_a.out.c1; have c2a := B_a.out.c2; have c0b := B_b.out.c0; have c1b := B_b.out.c1; have c2b := B_b.out.c2; have c0n := B_n.out.c0; have c1n := B_n.out.c1; have c2n := B_n.out.c2; have c0m := B_m.out.c0; have c1m := B_m.out.c1; have c2m := B_m.out.c2; have c0t := B_t.out.c0; have c1t := B_t.out.c1; have c2t := B_t.out.c2; have c0s := B_s.out.c0; have c1s := B_s.out.c1; have c2s := B_s.out.c2; have tk1x4 : True := trivial))
  clear c0a c1a c2a c0b c1b c2b c0n c1n c2n c0m c1m c2m c0t c1t c2t c0s c1s c2s
  go_wp2
  go_ret
  exact ⟨rfl, nextw HB.out (by exact ⟨rfl, rfl, rfl, Nat.le_refl _, fun _ _ => rfl⟩)⟩

theorem Vectors_any (a b : V3) (fa : Fit a) (fb : Fit b) (w : World) :
    Calls Try.prog 5 #[vv a, vv b] w fun e w' => e = .returned (.bool true) ∧ Below w.heap.size w w' := by
  by_cases ha : Ok a
  · by_cases hb : Ok b
    · rcases Int.lt_or_le 67108864 (prod a b).d with h | h
      · exact Vs_far a b ha hb h w
      · exact Vs_near a b ha hb h w
    · exact Vs_bad2 a b ha fb hb w
  · exact Vs_bad1 a b fa ha w
end Go.Proofs.Ytincejndchdcdaa
