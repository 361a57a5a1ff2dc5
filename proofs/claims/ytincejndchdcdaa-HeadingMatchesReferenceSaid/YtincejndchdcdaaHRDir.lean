/- The reference: Mod, Dir, Beam, Delta. -/
import Derived.Test.YtincejndchdcdaaHRTurn
import Derived.Test.YtincejndchdcdaaHCmp
namespace Go.Proofs.Ytincejndchdcdaa
open Go Go.RowKit Hd

theorem tmod_pos {a b : Int} (hb : 0 < b) (h : 0 ≤ a.tmod b) : a.tmod b = a % b := by
  have h1 := Int.tmod_eq_emod (a := a) (b := b)
  have h2 := Int.emod_nonneg a (show b ≠ 0 by omega)
  have h3 := Int.emod_lt_of_pos a hb
  have h4 : (b.natAbs : Int) = b := by omega
  split at h1 <;> omega
theorem tmod_neg {a b : Int} (hb : 0 < b) (h : a.tmod b < 0) : a.tmod b + b = a % b := by
  have h1 := Int.tmod_eq_emod (a := a) (b := b)
  have h2 := Int.emod_nonneg a (show b ≠ 0 by omega)
  have h4 : (b.natAbs : Int) = b := by omega
  split at h1 <;> omega
set_option maxRecDepth 100000 in
set_option maxHeartbeats 4000000 in
theorem Mod_r (a b : Int) (w : World) (g1 : 1 ≤ b) (g2 : b ≤ 1000) :
    Calls Try.prog 48 #[.int .i64 a, .int .i64 b] w fun e w' => e = .returned (.int .i64 (a % b)) ∧ Below w.heap.size w w' := by
  have hn1 : -1000 ≤ a.tmod b ∧ a.tmod b ≤ 1000 := by
    have h1 := Int.tmod_eq_emod (a := a) (b := b)
    have h2 := Int.emod_nonneg a (show b ≠ 0 by omega)
    have h3 := Int.emod_lt_of_pos a (show 0 < b by omega)
    have h4 : (b.natAbs : Int) = b := by omega
    split at h1 <;> omega
  go_enter Try.func48, Try.ntmps48
  go_wp2_with fail
  · rename_i hh
    go_ret
    have e := tmod_neg (a := a) (b := b) (by omega) hh
    exact ⟨ret_i64 (by rw [← e]), Below.refl _ _⟩
  · rename_i hh
    go_ret
    exact ⟨ret_i64 (tmod_pos (by omega) hh), Below.refl _ _⟩

set_option maxRecDepth 100000 in
set_option maxHeartbeats 4000000 in
theorem RDir_any (h : Int) (w : World) :
    Calls Try.prog 15 #[.int .i64 h] w fun e w' => e = .returned (vv (dir h)) ∧ Below w.heap.size w w' := by
  obtain ⟨m, hm⟩ : ∃ m, h % 256 = m := ⟨_, rfl⟩
  have m1 : 0 ≤ m := by omega
  have m2 : m < 256 := by omega
  obtain ⟨k, hk⟩ : ∃ k, m % 64 = k := ⟨_, rfl⟩
  obtain ⟨j, hj⟩ : ∃ j, m / 64 = j := ⟨_, rfl⟩
  have ED : Hid (dir h = rots j.toNat (dirK k)) := by unfold Hid dir dirM; rw [hm, hk, hj]
  have k1 : 0 ≤ k := by omega
  have k2 : k < 64 := by omega
  have j1 : 0 ≤ j := by omega
  have j2 : j < 4 := by omega
  have kb := kk_bound k1 k2
  have HM := Lib.hid (fun w => hm ▸ Mod_r h 256 w (by omega) (by omega))
  have hl := fun w => rlowest_any (4096 - k * k) (128 * k) (4096 + k * k) w (dir_circle k) (by omega) (by omega) (by omega) (by omega) (by omega) (by omega)
  rw [show low (4096 - k * k) (128 * k) (4096 + k * k) = dirK k from rfl] at hl
  have HL := Lib.hid hl
  have HO := Lib.hid (dirK_ok k1 k2).1
  clear hm hl
  generalize dirK k = v at *
  have B_r := Lib.hid (Box3.new w 0 0 0)
  have HB := Lib.hid ((Below.refl w.heap.size w).alloc (Nat.le_refl _) (.cells #[.int .i64 (0), .int .i64 (0), .int .i64 (0)] 24))
  go_enter Try.func15, Try.ntmps15
  go_wp2_with fail
  generalize w.alloc (.cells #[.int .i64 (0), .int .i64 (0), .int .i64 (0)] 24) = W0 at *
  refine (HM.out _).mono ?_
  rintro e w0 ⟨rfl, bb⟩
  replace B_r := Lib.hid (Box3.below B_r.out bb B_r.out.lt)
  replace HB := Lib.hid (nextw HB.out bb)
  clear bb
  have hmm : (m % 64) * (m % 64) = k * k := by rw [hk]
  have hmb : 0 ≤ (m % 64) * (m % 64) ∧ (m % 64) * (m % 64) ≤ 3969 := by rw [hk]; exact kb
  go_wp2_with fail
  rw [hk]
  refine (HL.out _).mono ?_
  rintro e w1 ⟨rfl, bb⟩
  replace B_r := Lib.hid (Box3.below B_r.out bb B_r.out.lt)
  replace HB := Lib.hid (nextw HB.out bb)
  clear bb
  have hs0 : w.heap.size < w1.heap.size := B_r.out.lt
  have B_v := Lib.hid (Box3.new w1 v.x v.y v.d)
  replace B_r := Lib.hid (Box3.alloc B_r.out (.cells #[.int .i64 v.x, .int .i64 v.y, .int .i64 v.d] 24))
  replace HB := Lib.hid (nextw HB.out ((Below.refl w1.heap.size w1).alloc (Nat.le_refl _) (.cells #[.int .i64 v.x, .int .i64 v.y, .int .i64 v.d] 24)))
  clear hk hmm hmb HM HL
  go_wp2_with fail
  subst hj
  generalize w1.alloc (.cells #[.int .i64 v.x, .int .i64 v.y, .int .i64 v.d] 24) = W1 at *
  go_loopw [5] (fun i wr => ∃ n : Nat, (n : Int) ≤ m / 64 ∧ i = .int .i64 n ∧ Box3 wr w1.heap.size (rots n v).x (rots n v).y v.d ∧ Box3 wr w.heap.size 0 0 0 ∧ Below w.heap.size w wr) (fun i _ => 4 - (RowKit.intOf i).toNat)
  case atStart => exact ⟨0, by omega, rfl, B_v.out, B_r.out, HB.out⟩
  case round =>
    clear B_v B_r HB
    obtain ⟨n, hn, rfl, bv, br, hb⟩ := hrel
    have hx := rots_bound HO.out n
    by_cases hlt : (n : Int) < m / 64
    · have EX : Hid ((rots (n + 1) v).x = -(rots n v).y) := rfl
      have EY : Hid ((rots (n + 1) v).y = (rots n v).x) := rfl
      generalize (rots n v).x = x at *
      generalize (rots n v).y = y at *
      have c0 := bv.c0
      have c1 := bv.c1
      have c2 := bv.c2
      have f0 := bv.f0
      have f1 := bv.f1
      have f2 := bv.f2
      have BV := Lib.hid bv
      have BR := Lib.hid br
      have HB := Lib.hid hb
      clear bv br hb
      go_wp2
      go_roundw
      case rel => exact ⟨n + 1, by omega, by go_num, by rw [EX.out, EY.out]; exact BV.out.store (-y) x _, BR.out.far3 (by omega) _ _ _, Below.store3 HB.out (by omega) _ _ _⟩
      case measure => simp only [RowKit.intOf]; omega
    · have EJ : Hid ((m / 64).toNat = n) := by unfold Hid; omega
      have hlt2 : m / 64 ≤ (n : Int) := by omega
      have EV : Hid (rots (m / 64).toNat v = ⟨(rots n v).x, (rots n v).y, v.d⟩) := by unfold Hid; rw [EJ.out]; exact V3.eq rfl rfl (rots_d n v)
      have c0 := bv.c0
      have c1 := bv.c1
      have c2 := bv.c2
      have f0 := br.f0
      have f1 := br.f1
      have f2 := br.f2
      have r0 := br.c0
      have r1 := br.c1
      have r2 := br.c2
      have sS := br.store (rots n v).x (rots n v).y v.d
      have s0 := sS.c0
      have s1 := sS.c1
      have s2 := sS.c2
      simp only [st3] at s0 s1 s2
      have HF := Lib.hid (Below.store3 hb (y := w.heap.size) (Nat.le_refl _) (.int .i64 (rots n v).x) (.int .i64 (rots n v).y) (.int .i64 v.d))
      clear sS bv br hb hx
      generalize (rots n v).x = x at *
      generalize (rots n v).y = y at *
      go_wp2_with fail
      exact bodyPost_ret (v := .agg #[.int .i64 x, .int .i64 y, .int .i64 v.d]) (by simp [results, Try.results15, go_sem, s0, s1, s2]) rfl ⟨by rw [ED.out, EV.out], nextw HF.out (by exact ⟨rfl, rfl, rfl, Nat.le_refl _, fun _ _ => rfl⟩)⟩

set_option maxRecDepth 100000 in
set_option maxHeartbeats 1000000 in
theorem RBeam_any (h m : Int) (w : World) :
    Calls Try.prog 17 #[.int .i64 h, .int .i64 m] w fun e w' => e = .returned (vv (prod (dir h) (dir m))) ∧ Below w.heap.size w w' := by
  have HD := Lib.hid (fun n w => RDir_any n w)
  have HT := Lib.hid (fun w => RTurn_ok (dir h) (dir m) (dir_ok h).1 (dir_ok m).1 (dir_prod h m) w)
  generalize prod (dir h) (dir m) = L at *
  have HB := Lib.hid (show Below w.heap.size w (w.alloc (.cells #[.int .i64 0, .int .i64 0, .int .i64 0] 24)) from ((Below.refl _ _).alloc (by simp <;> omega) _))
  have B_r : Box3 (w.alloc (.cells #[.int .i64 0, .int .i64 0, .int .i64 0] 24)) (w.heap.size) 0 0 0 := by have h := (Box3.new w 0 0 0); simpa using h
  replace B_r := Lib.hid B_r
  go_enter Try.func17, Try.ntmps17
  go_wp2_with fail
  generalize w.alloc (.cells #[.int .i64 0, .int .i64 0, .int .i64 0] 24) = W0 at *
  refine (HD.out _ _).mono ?_
  rintro e w1 ⟨rfl, bb⟩
  replace bb := nextw (w0 := W0) (by exact ⟨rfl, rfl, rfl, Nat.le_refl _, fun _ _ => rfl⟩) bb
  replace B_r := Lib.hid (Box3.below B_r.out bb B_r.out.lt)
  replace HB := Lib.hid (nextw HB.out bb)
  clear bb
  go_wp2_with fail
  refine (HD.out _ _).mono ?_
  rintro e w2 ⟨rfl, bb⟩
  replace bb := nextw (w0 := w1) (by exact ⟨rfl, rfl, rfl, Nat.le_refl _, fun _ _ => rfl⟩) bb
  replace B_r := Lib.hid (Box3.below B_r.out bb B_r.out.lt)
  replace HB := Lib.hid (nextw HB.out bb)
  clear bb
  go_wp2_with fail
  refine (HT.out _).mono ?_
  rintro e w3 ⟨rfl, bb⟩
  replace bb := nextw (w0 := w2) (by exact ⟨rfl, rfl, rfl, Nat.le_refl _, fun _ _ => rfl⟩) bb
  replace B_r := Lib.hid (Box3.below B_r.out bb B_r.out.lt)
  replace HB := Lib.hid (nextw HB.out bb)
  clear bb
  have lt_vr := B_r.out.lt
  have B_v := Lib.hid (Box3.new w3 L.x L.y L.d)
  replace B_r := Lib.hid (Box3.alloc B_r.out (.cells #[.int .i64 L.x, .int .i64 L.y, .int .i64 L.d] 24))
  replace HB := Lib.hid (nextw HB.out ((Below.refl w3.heap.size w3).alloc (Nat.le_refl _) (.cells #[.int .i64 L.x, .int .i64 L.y, .int .i64 L.d] 24)))
  go_upto_region 2 with (fail)
  generalize w3.alloc (.cells #[.int .i64 L.x, .int .i64 L.y, .int .i64 L.d] 24) = W1 at *
  have c0v := B_v.out.c0
  have c1v := B_v.out.c1
  have c2v := B_v.out.c2
  have sS := Box3.store B_r.out L.x L.y L.d
  have s0 := sS.c0
  have s1 := sS.c1
  have s2 := sS.c2
  have HF := Lib.hid (Below.store3 HB.out (y := w.heap.size) (by omega) (.int .i64 L.x) (.int .i64 L.y) (.int .i64 L.d))
  simp only [st3] at s0 s1 s2 HF
  clear sS
  have c0r := B_r.out.c0
  have f0r := B_r.out.f0
  have c1r := B_r.out.c1
  have f1r := B_r.out.f1
  have c2r := B_r.out.c2
  have f2r := B_r.out.f2
  go_wp2_with fail
  exact bodyPost_ret (v := .agg #[.int .i64 L.x, .int .i64 L.y, .int .i64 L.d]) (by simp [results, Try.results17, go_sem, s0, s1, s2]) rfl ⟨rfl, nextw HF.out (by exact ⟨rfl, rfl, rfl, Nat.le_refl _, fun _ _ => rfl⟩)⟩


set_option maxRecDepth 100000 in
set_option maxHeartbeats 1000000 in
theorem RDelta_hi (a b : Int) (hc : 127 < (b - a) % 256) (w : World) :
    Calls Try.prog 19 #[.int .i64 a, .int .i64 b] w fun e w' => e = .returned (.int .i64 (delta a b)) ∧ Below w.heap.size w w' := by
  have b0 := Int.emod_nonneg b (show (256 : Int) ≠ 0 by decide)
  have b1 := Int.emod_lt_of_pos b (show (0 : Int) < 256 by decide)
  have a0 := Int.emod_nonneg a (show (256 : Int) ≠ 0 by decide)
  have a1 := Int.emod_lt_of_pos a (show (0 : Int) < 256 by decide)
  obtain ⟨m, hm⟩ : ∃ m, (b % 256 - a % 256) % 256 = m := ⟨_, rfl⟩
  have m0 : 0 ≤ m := by omega
  have m1 : m < 256 := by omega
  have HE : Hid (delta a b = m - 256) := by unfold Hid delta; omega
  rw [HE.out]
  rw [show (b - a) % 256 = m by omega] at hc
  have HB1 := Lib.hid (fun w => Mod_r b 256 w (by omega) (by omega))
  have HA1 := Lib.hid (fun w => Mod_r a 256 w (by omega) (by omega))
  have HD1 := Lib.hid (fun w => hm ▸ Mod_r (b % 256 - a % 256) 256 w (by omega) (by omega))
  generalize b % 256 = p at *
  generalize a % 256 = q at *
  clear HE hm
  have HB := Lib.hid (Below.refl w.heap.size w)
  go_enter Try.func19, Try.ntmps19
  go_wp2_with fail
  refine (HB1.out _).mono ?_
  rintro e w1 ⟨rfl, bb⟩
  replace bb := nextw (w0 := w) (by exact ⟨rfl, rfl, rfl, Nat.le_refl _, fun _ _ => rfl⟩) bb
  replace HB := Lib.hid (nextw HB.out bb)
  clear bb
  go_wp2_with fail
  refine (HA1.out _).mono ?_
  rintro e w2 ⟨rfl, bb⟩
  replace bb := nextw (w0 := w1) (by exact ⟨rfl, rfl, rfl, Nat.le_refl _, fun _ _ => rfl⟩) bb
  replace HB := Lib.hid (nextw HB.out bb)
  clear bb
  go_wp2_with fail
  refine (HD1.out _).mono ?_
  rintro e w3 ⟨rfl, bb⟩
  replace bb := nextw (w0 := w2) (by exact ⟨rfl, rfl, rfl, Nat.le_refl _, fun _ _ => rfl⟩) bb
  replace HB := Lib.hid (nextw HB.out bb)
  clear bb
  go_wp2
  go_ret
  exact ⟨rfl, nextw HB.out (by exact ⟨rfl, rfl, rfl, Nat.le_refl _, fun _ _ => rfl⟩)⟩

set_option maxRecDepth 100000 in
set_option maxHeartbeats 1000000 in
theorem RDelta_lo (a b : Int) (hc : (b - a) % 256 ≤ 127) (w : World) :
    Calls Try.prog 19 #[.int .i64 a, .int .i64 b] w fun e w' => e = .returned (.int .i64 (delta a b)) ∧ Below w.heap.size w w' := by
  have b0 := Int.emod_nonneg b (show (256 : Int) ≠ 0 by decide)
  have b1 := Int.emod_lt_of_pos b (show (0 : Int) < 256 by decide)
  have a0 := Int.emod_nonneg a (show (256 : Int) ≠ 0 by decide)
  have a1 := Int.emod_lt_of_pos a (show (0 : Int) < 256 by decide)
  obtain ⟨m, hm⟩ : ∃ m, (b % 256 - a % 256) % 256 = m := ⟨_, rfl⟩
  have m0 : 0 ≤ m := by omega
  have m1 : m < 256 := by omega
  have HE : Hid (delta a b = m) := by unfold Hid delta; omega
  rw [HE.out]
  rw [show (b - a) % 256 = m by omega] at hc
  have HB1 := Lib.hid (fun w => Mod_r b 256 w (by omega) (by omega))
  have HA1 := Lib.hid (fun w => Mod_r a 256 w (by omega) (by omega))
  have HD1 := Lib.hid (fun w => hm ▸ Mod_r (b % 256 - a % 256) 256 w (by omega) (by omega))
  generalize b % 256 = p at *
  generalize a % 256 = q at *
  clear HE hm
  have HB := Lib.hid (Below.refl w.heap.size w)
  go_enter Try.func19, Try.ntmps19
  go_wp2_with fail
  refine (HB1.out _).mono ?_
  rintro e w1 ⟨rfl, bb⟩
  replace bb := nextw (w0 := w) (by exact ⟨rfl, rfl, rfl, Nat.le_refl _, fun _ _ => rfl⟩) bb
  replace HB := Lib.hid (nextw HB.out bb)
  clear bb
  go_wp2_with fail
  refine (HA1.out _).mono ?_
  rintro e w2 ⟨rfl, bb⟩
  replace bb := nextw (w0 := w1) (by exact ⟨rfl, rfl, rfl, Nat.le_refl _, fun _ _ => rfl⟩) bb
  replace HB := Lib.hid (nextw HB.out bb)
  clear bb
  go_wp2_with fail
  refine (HD1.out _).mono ?_
  rintro e w3 ⟨rfl, bb⟩
  replace bb := nextw (w0 := w2) (by exact ⟨rfl, rfl, rfl, Nat.le_refl _, fun _ _ => rfl⟩) bb
  replace HB := Lib.hid (nextw HB.out bb)
  clear bb
  go_wp2
  go_ret
  exact ⟨rfl, nextw HB.out (by exact ⟨rfl, rfl, rfl, Nat.le_refl _, fun _ _ => rfl⟩)⟩

theorem RDelta_any (a b : Int) (w : World) :
    Calls Try.prog 19 #[.int .i64 a, .int .i64 b] w fun e w' => e = .returned (.int .i64 (delta a b)) ∧ Below w.heap.size w w' := by
  rcases Int.lt_or_le 127 ((b - a) % 256) with h | h
  · exact RDelta_hi a b h w
  · exact RDelta_lo a b h w
end Go.Proofs.Ytincejndchdcdaa
