/- The law IntegerSmalls: the walk. -/
import Derived.Test.YtgfoplokplnpgaaDoorAwake
namespace Go.Proofs.YtgfoplokplnpgaaDoor
open Go Go.RowKit Num

theorem Small_can (v : Value) (z : Int) (w : World) (h : Can w v z) (h1 : -9223372036854775808 ≤ z) (h2 : z ≤ 9223372036854775807) :
    Calls Tryd.prog 23 #[v] w fun e w' => e = .returned (.tuple #[.int .i64 z, .bool true]) ∧ Below w.heap.size w w' := by
  have hf : (digs z.natAbs).length ≤ 100000 := by have := len2 (n := z.natAbs) (by omega); omega
  obtain ⟨m, rfl, u⟩ := h
  have c := Small_any (decide (z < 0)) m _ w u hf
  rw [ival_can, (fits_yes h1 h2).1, (fits_yes h1 h2).2] at c
  exact c
theorem Cmp_can (v1 v2 : Value) (z1 z2 : Int) (w : World) (h1 : Can w v1 z1) (h2 : Can w v2 z2) (f1 : Fits z1) (f2 : Fits z2) :
    Calls Tryd.prog 16 #[v1, v2] w fun e w' => e = .returned (.int .i64 (cmpI z1 z2)) ∧ Below w.heap.size w w' := by
  obtain ⟨m1, rfl, u1⟩ := h1
  obtain ⟨m2, rfl, u2⟩ := h2
  have c := Cmp_any (decide (z1 < 0)) (decide (z2 < 0)) m1 m2 _ _ w u1 u2 f1 f2
  rw [ival_can, ival_can] at c
  exact c
theorem Add_can (v1 v2 : Value) (z1 z2 : Int) (w : World) (h1 : Can w v1 z1) (h2 : Can w v2 z2) (f1 : Fits z1) (f2 : Fits z2) :
    Calls Tryd.prog 17 #[v1, v2] w fun e w' => ∃ v, e = .returned v ∧ Can w' v (z1 + z2) ∧ Below w.heap.size w w' := by
  obtain ⟨m1, rfl, u1⟩ := h1
  obtain ⟨m2, rfl, u2⟩ := h2
  have c := Add_any (decide (z1 < 0)) (decide (z2 < 0)) m1 m2 _ _ w u1 u2 f1 f2
  rw [ival_can, ival_can] at c
  exact c
theorem Sub_can (v1 v2 : Value) (z1 z2 : Int) (w : World) (h1 : Can w v1 z1) (h2 : Can w v2 z2) (f1 : Fits z1) (f2 : Fits z2) :
    Calls Tryd.prog 24 #[v1, v2] w fun e w' => ∃ v, e = .returned v ∧ Can w' v (z1 - z2) ∧ Below w.heap.size w w' := by
  obtain ⟨m1, rfl, u1⟩ := h1
  obtain ⟨m2, rfl, u2⟩ := h2
  have c := Sub_any (decide (z1 < 0)) (decide (z2 < 0)) m1 m2 _ _ w u1 u2 f1 f2
  rw [ival_can, ival_can] at c
  exact c
theorem Mul_can (v1 v2 : Value) (z1 z2 : Int) (w : World) (h1 : Can w v1 z1) (h2 : Can w v2 z2) (f1 : Fits z1) (f2 : Fits z2) :
    Calls Tryd.prog 18 #[v1, v2] w fun e w' => ∃ v, e = .returned v ∧ Can w' v (z1 * z2) ∧ Below w.heap.size w w' := by
  obtain ⟨m1, rfl, u1⟩ := h1
  obtain ⟨m2, rfl, u2⟩ := h2
  have c := Mul_any (decide (z1 < 0)) (decide (z2 < 0)) m1 m2 _ _ w u1 u2 f1 f2
  rw [ival_can, ival_can] at c
  exact c

theorem fits64 {z : Int} (h1 : -9223372036854775808 ≤ z) (h2 : z ≤ 9223372036854775807) : Fits z := fits_small (by omega)
theorem mul_range {u v : Int} (a1 : -1073741824 ≤ u) (a2 : u < 1073741824) (b1 : -1073741824 ≤ v) (b2 : v < 1073741824) : -1152921504606846976 ≤ u * v ∧ u * v ≤ 1152921504606846976 := by
  have h1 : u.natAbs * v.natAbs ≤ 1073741824 * 1073741824 := Nat.mul_le_mul (by omega) (by omega)
  rw [← Int.natAbs_mul] at h1
  omega

set_option maxRecDepth 100000 in
set_option maxHeartbeats 4000000 in
theorem Smalls_any (n m : Int) (hn1 : -9223372036854775808 ≤ n) (hn2 : n ≤ 9223372036854775807) (hm1 : -9223372036854775808 ≤ m) (hm2 : m ≤ 9223372036854775807) (w : World) (htab : Tab10 w) :
    Calls Tryd.prog 4 #[.int .i64 n, .int .i64 m] w fun e w' => e = .returned (.bool true) ∧ Below w.heap.size w w' := by
  have HT := Lib.hid htab
  clear htab
  go_enter Tryd.func4, Tryd.ntmps4
  go_wp2_with fail
  refine (awake_any _ HT.out).mono ?_
  rintro e w1 ⟨rfl, b1⟩
  go_wp2_with fail
  refine (Of_any n _ hn1 hn2).mono ?_
  rintro e w2 ⟨v2, rfl, h2, b2⟩
  go_wp2_with fail
  refine (Of_any m _ hm1 hm2).mono ?_
  rintro e w3 ⟨v3, rfl, h3, b3⟩
  obtain ⟨sa, Aa, ka, ca, rfl⟩ := h2.shape
  obtain ⟨sb, Ab, kb, cb, rfl⟩ := h3.shape
  have hb3 := nextw (nextw b1 b2) b3
  have hba : Below w3.heap.size w3 ((w3.alloc (.cells #[.bool sa, (.slice Aa ka ca)] 24)).alloc (.cells #[.bool sb, (.slice Ab kb cb)] 24)) := ((Below.refl _ _).alloc (Nat.le_refl _) _).alloc (by simp) _
  have bX := (Box.new w3 sa (.slice Aa ka ca)).alloc (.cells #[.bool sb, (.slice Ab kb cb)] 24)
  have bY := Box.new (w3.alloc (.cells #[.bool sa, (.slice Aa ka ca)] 24)) sb (.slice Ab kb cb)
  rw [World.size_alloc] at bY
  have HA := Lib.hid ((h2.below b3).below hba)
  have HB := Lib.hid (h3.below hba)
  have HW := Lib.hid (nextw hb3 hba)
  have cX0 := bX.c0
  have cX1 := bX.c1
  have cY0 := bY.c0
  have cY1 := bY.c1
  clear h2 h3 b1 b2 b3 hb3 hba
  go_wp2_with fail
  generalize (w3.alloc (.cells #[.bool sa, (.slice Aa ka ca)] 24)).alloc (.cells #[.bool sb, (.slice Ab kb cb)] 24) = W at *
  refine (Small_can _ n _ HA.out hn1 hn2).mono ?_
  rintro e w4 ⟨rfl, b4⟩
  have cX0 := (Box.below bX b4 bX.lt).c0
  have cX1 := (Box.below bX b4 bX.lt).c1
  have cY0 := (Box.below bY b4 bY.lt).c0
  have cY1 := (Box.below bY b4 bY.lt).c1
  have fn := fits64 hn1 hn2
  have fm := fits64 hm1 hm2
  have cc := fun w' (h : Below W.heap.size W w') => Cmp_can _ _ n m w' (HA.out.below h) (HB.out.below h) fn fm
  have HC := Lib.hid cc
  have HW' := HW
  clear cc fn fm
  obtain ⟨c, hc, hc1, hc2⟩ : ∃ c, cmpI n m = c ∧ (c < 0 ↔ n < m) ∧ (0 < c ↔ m < n) := ⟨_, rfl, by unfold cmpI; split <;> (try split) <;> omega, by unfold cmpI; split <;> (try split) <;> omega⟩
  rw [hc] at HC
  clear hc
  have e1 : decide (c < 0) = decide (n < m) := by simp [hc1]
  have e2 : decide (0 < c) = decide (m < n) := by simp [hc2]
  have E1 := Lib.hid e1
  have E2 := Lib.hid e2
  clear e1 e2 hc1 hc2
  go_wp2_with fail
  refine (HC.out _ b4).mono ?_
  rintro e w5 ⟨rfl, b5'⟩
  have b5 := nextw b4 b5'
  have cX0 := (Box.below bX b5 bX.lt).c0
  have cX1 := (Box.below bX b5 bX.lt).c1
  have cY0 := (Box.below bY b5 bY.lt).c0
  have cY1 := (Box.below bY b5 bY.lt).c1
  clear b4 b5'
  have e1 := E1.out
  have e2 := E2.out
  go_wp2_with fail
  refine (HC.out _ b5).mono ?_
  rintro e w6 ⟨rfl, b6'⟩
  have b6 := nextw HW.out (nextw b5 b6')
  clear b5 b6' cX0 cX1 cY0 cY1
  have e1 := E1.out
  have e2 := E2.out
  go_wp2_with fail
  obtain ⟨k, hk⟩ : ∃ k, n / 4 = k := ⟨_, rfl⟩
  obtain ⟨l, hl⟩ : ∃ l, m / 4 = l := ⟨_, rfl⟩
  obtain ⟨u, hu⟩ : ∃ u, n / 8589934592 = u := ⟨_, rfl⟩
  obtain ⟨v, hv⟩ : ∃ v, m / 8589934592 = v := ⟨_, rfl⟩
  have k1 : -2305843009213693952 ≤ k := by omega
  have k2 : k < 2305843009213693952 := by omega
  have l1 : -2305843009213693952 ≤ l := by omega
  have l2 : l < 2305843009213693952 := by omega
  have u1 : -1073741824 ≤ u := by omega
  have u2 : u < 1073741824 := by omega
  have v1' : -1073741824 ≤ v := by omega
  have v2' : v < 1073741824 := by omega
  obtain ⟨p1, p2⟩ := mul_range u1 u2 v1' v2'
  rw [hk, hl]
  have HU := Lib.hid hu
  have HV := Lib.hid hv
  clear hk hl hu hv E1 E2 e1 e2 HC
  go_wp2_with fail
  refine (Of_any k _ (by omega) (by omega)).mono ?_
  rintro e wa ⟨va, rfl, ha, ba⟩
  go_wp2_with fail
  refine (Of_any l _ (by omega) (by omega)).mono ?_
  rintro e wb ⟨vb, rfl, hb, bb⟩
  have ha' := ha.below bb
  go_wp2_with fail
  refine (Add_can va vb k l _ ha' hb (fits64 (by omega) (by omega)) (fits64 (by omega) (by omega))).mono ?_
  rintro e wc ⟨vc, rfl, hc, bc⟩
  have b7 := nextw (nextw (nextw b6 ba) bb) bc
  clear b6 ha hb ha' ba bb bc
  go_wp2_with fail
  refine (Small_can vc _ _ hc (by omega) (by omega)).mono ?_
  rintro e wd ⟨rfl, bd⟩
  have b6 := nextw b7 bd
  clear b7 hc bd
  go_wp2_with fail
  refine (Of_any k _ (by omega) (by omega)).mono ?_
  rintro e wa ⟨va, rfl, ha, ba⟩
  go_wp2_with fail
  refine (Of_any l _ (by omega) (by omega)).mono ?_
  rintro e wb ⟨vb, rfl, hb, bb⟩
  have ha' := ha.below bb
  go_wp2_with fail
  refine (Sub_can va vb k l _ ha' hb (fits64 (by omega) (by omega)) (fits64 (by omega) (by omega))).mono ?_
  rintro e wc ⟨vc, rfl, hc, bc⟩
  have b7 := nextw (nextw (nextw b6 ba) bb) bc
  clear b6 ha hb ha' ba bb bc
  go_wp2_with fail
  refine (Small_can vc _ _ hc (by omega) (by omega)).mono ?_
  rintro e wd ⟨rfl, bd⟩
  have b6 := nextw b7 bd
  clear b7 hc bd
  have hu := HU.out
  have hv := HV.out
  go_wp2_with fail
  refine (Of_any u _ (by omega) (by omega)).mono ?_
  rintro e wa ⟨va, rfl, ha, ba⟩
  go_wp2_with fail
  refine (Of_any v _ (by omega) (by omega)).mono ?_
  rintro e wb ⟨vb, rfl, hb, bb⟩
  have ha' := ha.below bb
  go_wp2_with fail
  refine (Mul_can va vb u v _ ha' hb (fits64 (by omega) (by omega)) (fits64 (by omega) (by omega))).mono ?_
  rintro e wc ⟨vc, rfl, hc, bc⟩
  have b7 := nextw (nextw (nextw b6 ba) bb) bc
  clear b6 ha hb ha' ba bb bc
  go_wp2_with fail
  refine (Small_can vc _ _ hc (by omega) (by omega)).mono ?_
  rintro e wd ⟨rfl, bd⟩
  have b6 := nextw b7 bd
  clear b7 hc bd
  obtain ⟨q, hq⟩ : ∃ q, u * v = q := ⟨_, rfl⟩
  rw [hq] at p1 p2
  try rw [hq]
  go_wp2
  go_ret
  exact ⟨rfl, b6⟩
end Go.Proofs.YtgfoplokplnpgaaDoor
