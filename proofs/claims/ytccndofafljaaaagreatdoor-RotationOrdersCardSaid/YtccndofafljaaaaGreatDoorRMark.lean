/- Package rotation: Mark; package wayfinderbase: Mod. -/
import Derived.Test.YtccndofafljaaaaGreatDoorRot2

set_option linter.unusedVariables false
set_option linter.unusedSimpArgs false

namespace Go.Proofs.YtccndofafljaaaaGreatDoor
open Go Go.RowKit Num

theorem tmod_pos {a b : Int} (hb : 0 < b) (h : 0 ≤ a.tmod b) : a.tmod b = a % b := by
  have h1 := Int.tmod_eq_emod (a := a) (b := b)
  have h2 := Int.emod_nonneg a (show b ≠ 0 by omega)
  have h3 := Int.emod_lt_of_pos a hb
  have h4 : (b.natAbs : Int) = b := by omega
  split at h1 <;> omega
theorem tmod_neg {a b : Int} (hb : 0 < b) (h : a.tmod b < 0) : a.tmod b + b = a % b := by
  have h1 := Int.tmod_eq_emod (a := a) (b := b)
  have h2 := Int.emod_nonneg a (show b ≠ 0 by omega)
  have h4 : (b.natAbs : Int) = b := by omega
  split at h1 <;> omega
set_option maxRecDepth 100000 in
set_option maxHeartbeats 4000000 in
theorem Mod_r (a b : Int) (w : World) (h1 : -9223372036854775808 ≤ a) (h2 : a ≤ 9223372036854775807) (g1 : 1 ≤ b) (g2 : b ≤ 1000) :
    Calls Tryz.prog 35 #[.int .i64 a, .int .i64 b] w fun e w' => e = .returned (.int .i64 (a % b)) ∧ Below w.heap.size w w' := by
  have hn1 : -1000 ≤ a.tmod b ∧ a.tmod b ≤ 1000 := by
    have h1 := Int.tmod_eq_emod (a := a) (b := b)
    have h2 := Int.emod_nonneg a (show b ≠ 0 by omega)
    have h3 := Int.emod_lt_of_pos a (show 0 < b by omega)
    have h4 : (b.natAbs : Int) = b := by omega
    split at h1 <;> omega
  go_enter Tryz.func35, Tryz.ntmps35
  go_wp2_with fail
  · rename_i hh
    go_ret
    have e := tmod_neg (a := a) (b := b) (by omega) hh
    exact ⟨ret_int (by rw [← e]), Below.refl _ _⟩
  · rename_i hh
    go_ret
    exact ⟨ret_int (tmod_pos (by omega) hh), Below.refl _ _⟩
/-- The loop of Mark: (64 + ki)(1 + i)^n. -/
def qI (n : Nat) (k : Int) : Int := match n with | 0 => 64 | 1 => 64 - k | 2 => -2 * k | _ => -128 - 2 * k
def pI (n : Nat) (k : Int) : Int := match n with | 0 => k | 1 => 64 + k | 2 => 128 | _ => 128 - 2 * k
theorem qI_step {n : Nat} (h : n < 3) (k : Int) : qI (n + 1) k = qI n k - pI n k ∧ pI (n + 1) k = qI n k + pI n k := by
  obtain rfl | rfl | rfl : n = 0 ∨ n = 1 ∨ n = 2 := by omega
  · exact ⟨rfl, rfl⟩
  · refine ⟨?_, ?_⟩
    · show -2 * k = 64 - k - (64 + k); omega
    · show 128 = 64 - k + (64 + k); omega
  · refine ⟨?_, ?_⟩
    · show -128 - 2 * k = -2 * k - 128; omega
    · show 128 - 2 * k = -2 * k + 128; omega
theorem qI_bound (n : Nat) {k : Int} (h : 0 ≤ k) (h2 : k < 64) : -300 ≤ qI n k ∧ qI n k ≤ 300 ∧ -300 ≤ pI n k ∧ pI n k ≤ 300 := by
  match n with
  | 0 => simp only [qI, pI]; omega
  | 1 => simp only [qI, pI]; omega
  | 2 => simp only [qI, pI]; omega
  | n + 3 => simp only [qI, pI]; omega
/-- The numbers of the rotation by a mark. -/
def mkP (h : Int) : Int := pI (h % 256 / 64).toNat (h % 256 % 64)
def mkQ (h : Int) : Int := qI (h % 256 / 64).toNat (h % 256 % 64)

set_option maxRecDepth 100000 in
set_option maxHeartbeats 4000000 in
theorem Mark_r (h : Int) {w : World} (h1 : -9223372036854775808 ≤ h) (h2 : h ≤ 9223372036854775807) :
    Calls Tryz.prog 34 #[.int .i64 h] w fun e w' => ∃ v', e = .returned v' ∧ Gc w' v' (cnP (mkP h) (mkQ h)) (cnQ (mkP h) (mkQ h)) 4 ∧ Below w.heap.size w w' := by
  have t1 := Int.tmod_lt_of_pos h (show (0 : Int) < 256 by omega)
  have t2 : -256 < h.tmod 256 := Int.lt_tmod_of_pos h (show (0 : Int) < 256 by omega)
  obtain ⟨a, ha⟩ : ∃ a, h.tmod 256 = a := ⟨_, rfl⟩
  have e : a % 256 = h % 256 := by
    have h3 := Int.tmod_eq_emod (a := h) (b := 256)
    rw [← ha]; split at h3 <;> omega
  rw [ha] at t1 t2
  obtain ⟨k, hk⟩ : ∃ k, a % 256 % 64 = k := ⟨_, rfl⟩
  obtain ⟨j, hj⟩ : ∃ j, a % 256 / 64 = j := ⟨_, rfl⟩
  have EP : Hid (pI j.toNat k = mkP h) := by unfold Hid mkP; rw [← e, hk, hj]
  have EQ : Hid (qI j.toNat k = mkQ h) := by unfold Hid mkQ; rw [← e, hk, hj]
  clear e h1 h2
  have hb0 : Below w.heap.size w (w.alloc (.cells #[.bool false, (.slice none 0 0), .bool false, (.slice none 0 0)] 26)) := (Below.alloc (Below.refl w.heap.size w) (by simp <;> omega) _)
  have B_r : BoxR (w.alloc (.cells #[.bool false, (.slice none 0 0), .bool false, (.slice none 0 0)] 26)) (w.heap.size) false (.slice none 0 0) false (.slice none 0 0) := by have h := BoxR.new w false (.slice none 0 0) false (.slice none 0 0); simpa using h
  replace B_r := Lib.hid B_r
  have HB := Lib.hid hb0
  clear hb0
  go_enter Tryz.func34, Tryz.ntmps34
  go_wp2_with fail
  have k1 : 0 ≤ k := by omega
  have k2 : k < 64 := by omega
  have j1 : 0 ≤ j := by omega
  have j2 : j < 4 := by omega
  rw [hk, hj]
  clear hk hj
  generalize w.alloc (.cells #[.bool false, (.slice none 0 0), .bool false, (.slice none 0 0)] 26) = W0 at *
  go_loopw [4, 5, 14] (fun q p i wr => ∃ n : Nat, (n : Int) ≤ j ∧ i = .int .i64 n ∧ q = .int .i64 (qI n k) ∧ p = .int .i64 (pI n k) ∧ wr = W0) (fun _ _ i _ => 4 - (RowKit.intOf i).toNat)
  case atStart => exact ⟨0, by omega, rfl, rfl, rfl, rfl⟩
  case round =>
    obtain ⟨n, hn, rfl, rfl, rfl, rfl⟩ := hrel
    have hb := qI_bound n k1 k2
    by_cases hlt : (n : Int) < j
    · have hs := qI_step (n := n) (by omega) k
      generalize qI n k = x at *
      generalize pI n k = y at *
      go_wp2
      go_roundw
      case rel => exact ⟨n + 1, by omega, by go_num, by rw [hs.1], by rw [hs.2], (by first | rfl | trivial)⟩
      case measure => simp only [RowKit.intOf]; omega
    · have ej : j.toNat = n := by omega
      have EJ := Lib.hid ej
      clear ej
      obtain ⟨x, hx⟩ : ∃ x, qI n k = x := ⟨_, rfl⟩
      obtain ⟨y, hy⟩ : ∃ y, pI n k = y := ⟨_, rfl⟩
      rw [hx, hy] at hb
      rw [hx, hy]
      have HX := Lib.hid hx
      have HY := Lib.hid hy
      clear hx hy
      have hlt2 : j ≤ (n : Int) := by omega
      go_wp2_with fail
      refine (Of_r y x (by omega) (by omega) (by omega) (by omega)).mono ?_
      rintro e w1 ⟨vq, rfl, rq, bb⟩
      replace bb := nextw (w0 := wr) (by exact ⟨rfl, rfl, rfl, Nat.le_refl _, fun _ _ => rfl⟩) bb
      replace B_r := Lib.hid (BoxR.below B_r.out bb B_r.out.lt)
      replace HB := Lib.hid (nextw HB.out bb)
      clear bb
      replace rq := rq.of_eq (show _ = cnP (mkP h) (mkQ h) by rw [← EP.out, ← EQ.out, EJ.out, HX.out, HY.out]) (show _ = cnQ (mkP h) (mkQ h) by rw [← EP.out, ← EQ.out, EJ.out, HX.out, HY.out])
      obtain ⟨sq, Aq, kq, cq, tq, Cq, lq, dq, rfl⟩ := rq.shape
      have V_q := Lib.hid rq
      clear rq
      skip
      have K_q := V_q
      replace K_q := Lib.hid (BoxR.keepsGc B_r.out K_q.out (.bool sq) (.slice Aq kq cq) (.bool tq) (.slice Cq lq dq))
      have HB1 := Lib.hid (Below.store4 HB.out (y := w.heap.size) (by omega) (.bool sq) (.slice Aq kq cq) (.bool tq) (.slice Cq lq dq))
      have N0r := Lib.hid (BoxR.store B_r.out sq (.slice Aq kq cq) tq (.slice Cq lq dq))
      have s0r := N0r.out.c0
      have s1r := N0r.out.c1
      have s2r := N0r.out.c2
      have s3r := N0r.out.c3
      simp only [st4] at s0r s1r s2r s3r
      have HBF := HB1
      have c0r := B_r.out.c0
      have c1r := B_r.out.c1
      have c2r := B_r.out.c2
      have c3r := B_r.out.c3
      have f0r := B_r.out.f0
      have f1r := B_r.out.f1
      have f2r := B_r.out.f2
      have f3r := B_r.out.f3
      go_wp2_with fail
      exact bodyPost_ret (v := .agg #[.bool sq, (.slice Aq kq cq), .bool tq, (.slice Cq lq dq)]) (by simp [results, Tryz.results34, go_sem, s0r, s1r, s2r, s3r]) rfl ⟨_, rfl, (Gc.below K_q.out (by exact ⟨rfl, rfl, rfl, Nat.le_refl _, fun _ _ => rfl⟩)), (nextw HBF.out (by exact ⟨rfl, rfl, rfl, Nat.le_refl _, fun _ _ => rfl⟩))⟩
end Go.Proofs.YtccndofafljaaaaGreatDoor
