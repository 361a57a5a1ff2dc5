/- heading.Dir. -/
import Derived.Test.YtincejndchdcdaaHOne
namespace Go.Proofs.Ytincejndchdcdaa
open Go Go.RowKit Hd

theorem rots_bound {v : V3} (h : Ok v) (n : Nat) : -67108864 ≤ (rots n v).x ∧ (rots n v).x ≤ 67108864 ∧ -67108864 ≤ (rots n v).y ∧ (rots n v).y ≤ 67108864 := by
  have := (h.rots n).bx
  have := (h.rots n).by_
  have := (h.rots n).hi
  omega

set_option maxRecDepth 100000 in
set_option maxHeartbeats 4000000 in
theorem Dir_any (h : Int) (w : World) :
    Calls Try.prog 14 #[.int .i64 h] w fun e w' => e = .returned (vv (dir h)) ∧ Below w.heap.size w w' := by
  obtain ⟨m, hm⟩ : ∃ m, h % 256 = m := ⟨_, rfl⟩
  have m1 : 0 ≤ m := by omega
  have m2 : m < 256 := by omega
  obtain ⟨k, hk⟩ : ∃ k, m % 64 = k := ⟨_, rfl⟩
  obtain ⟨j, hj⟩ : ∃ j, m / 64 = j := ⟨_, rfl⟩
  have ED : Hid (dir h = rots j.toNat (dirK k)) := by unfold Hid dir dirM; rw [hm, hk, hj]
  have k1 : 0 ≤ k := by omega
  have k2 : k < 64 := by omega
  have j1 : 0 ≤ j := by omega
  have j2 : j < 4 := by omega
  have kb := kk_bound k1 k2
  have HM := Lib.hid (fun w => hm ▸ residue_any h w)
  have hl := fun w => lowest_any (4096 - k * k) (128 * k) (4096 + k * k) w (by omega) (by omega) (by omega) (by omega) (by omega) (by omega)
  rw [show low (4096 - k * k) (128 * k) (4096 + k * k) = dirK k from rfl] at hl
  have HL := Lib.hid hl
  have HO := Lib.hid (dirK_ok k1 k2).1
  clear hm hl
  generalize dirK k = v at *
  have B_r := Lib.hid (Box3.new w 0 0 0)
  have HB := Lib.hid ((Below.refl w.heap.size w).alloc (Nat.le_refl _) (.cells #[.int .i64 (0), .int .i64 (0), .int .i64 (0)] 24))
  go_enter Try.func14, Try.ntmps14
  go_wp2_with fail
  generalize w.alloc (.cells #[.int .i64 (0), .int .i64 (0), .int .i64 (0)] 24) = W0 at *
  refine (HM.out _).mono ?_
  rintro e w1 ⟨rfl, rfl⟩
  have hmm : (m % 64) * (m % 64) = k * k := by rw [hk]
  have hmb : 0 ≤ (m % 64) * (m % 64) ∧ (m % 64) * (m % 64) ≤ 3969 := by rw [hk]; exact kb
  go_wp2_with fail
  rw [hk]
  refine (HL.out _).mono ?_
  rintro e w1 ⟨rfl, bb⟩
  replace B_r := Lib.hid (Box3.below B_r.out bb B_r.out.lt)
  replace HB := Lib.hid (nextw HB.out bb)
  clear bb
  have hs0 : w.heap.size < w1.heap.size := B_r.out.lt
  have B_v := Lib.hid (Box3.new w1 v.x v.y v.d)
  replace B_r := Lib.hid (Box3.alloc B_r.out (.cells #[.int .i64 v.x, .int .i64 v.y, .int .i64 v.d] 24))
  replace HB := Lib.hid (nextw HB.out ((Below.refl w1.heap.size w1).alloc (Nat.le_refl _) (.cells #[.int .i64 v.x, .int .i64 v.y, .int .i64 v.d] 24)))
  clear hk hmm hmb HM HL
  go_wp2_with fail
  rw [hj]
  generalize w1.alloc (.cells #[.int .i64 v.x, .int .i64 v.y, .int .i64 v.d] 24) = W1 at *
  clear hj
  go_loopw [23] (fun i wr => ∃ n : Nat, (n : Int) ≤ j ∧ i = .int .i64 n ∧ Box3 wr w1.heap.size (rots n v).x (rots n v).y v.d ∧ Box3 wr w.heap.size 0 0 0 ∧ Below w.heap.size w wr) (fun i _ => 4 - (RowKit.intOf i).toNat)
  case atStart => exact ⟨0, by omega, rfl, B_v.out, B_r.out, HB.out⟩
  case round =>
    clear B_v B_r HB
    obtain ⟨n, hn, rfl, bv, br, hb⟩ := hrel
    have hx := rots_bound HO.out n
    by_cases hlt : (n : Int) < j
    · have EX : Hid ((rots (n + 1) v).x = -(rots n v).y) := rfl
      have EY : Hid ((rots (n + 1) v).y = (rots n v).x) := rfl
      generalize (rots n v).x = x at *
      generalize (rots n v).y = y at *
      have c0 := bv.c0
      have c1 := bv.c1
      have c2 := bv.c2
      have f0 := bv.f0
      have f1 := bv.f1
      have f2 := bv.f2
      have BV := Lib.hid bv
      have BR := Lib.hid br
      have HB := Lib.hid hb
      clear bv br hb
      go_wp2
      go_roundw
      case rel => exact ⟨n + 1, by omega, by go_num, by rw [EX.out, EY.out]; exact BV.out.set01 (-y) x, BR.out.far2 (by omega) _ _, Below.store2 HB.out (by omega) _ _⟩
      case measure => simp only [RowKit.intOf]; omega
    · have EJ : Hid (j.toNat = n) := by unfold Hid; omega
      have hlt2 : j ≤ (n : Int) := by omega
      have EV : Hid (rots j.toNat v = ⟨(rots n v).x, (rots n v).y, v.d⟩) := by unfold Hid; rw [EJ.out]; exact V3.eq rfl rfl (rots_d n v)
      have c0 := bv.c0
      have c1 := bv.c1
      have c2 := bv.c2
      have f0 := br.f0
      have f1 := br.f1
      have f2 := br.f2
      have r0 := br.c0
      have r1 := br.c1
      have r2 := br.c2
      have sS := br.store (rots n v).x (rots n v).y v.d
      have s0 := sS.c0
      have s1 := sS.c1
      have s2 := sS.c2
      simp only [st3] at s0 s1 s2
      have HF := Lib.hid (Below.store3 hb (y := w.heap.size) (Nat.le_refl _) (.int .i64 (rots n v).x) (.int .i64 (rots n v).y) (.int .i64 v.d))
      clear sS bv br hb hx
      generalize (rots n v).x = x at *
      generalize (rots n v).y = y at *
      go_wp2_with fail
      exact bodyPost_ret (v := .agg #[.int .i64 x, .int .i64 y, .int .i64 v.d]) (by simp [results, Try.results14, go_sem, s0, s1, s2]) rfl ⟨by rw [ED.out, EV.out], nextw HF.out (by exact ⟨rfl, rfl, rfl, Nat.le_refl _, fun _ _ => rfl⟩)⟩
end Go.Proofs.Ytincejndchdcdaa
