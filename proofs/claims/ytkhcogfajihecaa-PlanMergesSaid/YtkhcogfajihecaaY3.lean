/- plan.appendRow: a row's cells onto the caller's list. -/
import Derived.Test.YtkhcogfajihecaaY2
import Derived.Test.YtkhcogfajihecaaYBase
set_option linter.unusedVariables false
set_option linter.unusedSimpArgs false
namespace Go.Proofs.Ytkhcogfajihecaa
open Go Go.RowKit Hd

/-- The first k cells of a row. -/
def rowK (y a : Int) : Nat → List P2
  | 0 => []
  | k + 1 => rowK y a k ++ [(a + (k : Int), y)]
theorem rowK_len (y a : Int) (k : Nat) : (rowK y a k).length = k := by
  induction k with
  | zero => rfl
  | succ k ih => simp [rowK, ih]
theorem bxg {w w' : World} {x : Nat} {t : TypeId} {vs : Array Value} {o : Obj} {row : Option Nat} (h : Hid (Bx w x t vs)) (hg : (w.alloc o).grownBy w' row) (hne : some x ≠ row) : Hid (Bx w' x t vs) := by
  have hl := h.out.lt
  exact Lib.hid ((hg.block x (by simp; omega) hne).trans (h.out.below ((Below.refl _ _).alloc (Nat.le_refl _) _) hl))

set_option maxRecDepth 100000 in
set_option maxHeartbeats 4000000 in
theorem appendRow_is (v : Value) (base : Nat) (l : List P2) (y a b : Int) (ha : Wi a 1099511627776) (hb : Wi b 1099511627776) (hl : l.length ≤ 100000) (hn : b + 1 - a ≤ 100000) (w : World) (VR : OwnP w base v l) (hbase : base ≤ w.heap.size) :
    Calls Try.prog 73 #[v, .int .i64 y, .agg #[.int .i64 a, .int .i64 b]] w fun e w' => ∃ v', e = .returned v' ∧ OwnP w' base v' (l ++ rowK y a (b + 1 - a).toNat) ∧ Below base w w' := by
  have ha1 := ha.1
  have ha2 := ha.2
  have hb1 := hb.1
  have hb2 := hb.2
  obtain ⟨i0, hi0, hz0, hz1, hz2⟩ := info_parts info2
  have HI := Lib.hid hi0
  clear hi0
  have NB : Hid (v.ownBlock ≠ some w.heap.size) := fun e => Nat.lt_irrefl _ (VR.lt _ e).2
  replace VR := Lib.hid VR
  obtain ⟨N, hN⟩ : ∃ N, (b + 1 - a).toNat = N := ⟨_, rfl⟩
  have HE := Lib.hid hN
  rw [hN]
  obtain ⟨HB, B_z0⟩ := box1 w 91 #[.int .i64 a, .int .i64 b]
  replace VR := Lib.hid (OwnP.below VR.out HB.out)
  have HBS : Hid (base ≤ ((w.alloc (.cells #[.int .i64 a, .int .i64 b] 91))).heap.size) := Lib.hid (lebel hbase HB.out)
  replace HB := Lib.hid (HB.out.mono hbase)
  go_enter Try.func73, Try.ntmps73
  go_wp2_with fail
  generalize w.alloc (.cells #[.int .i64 a, .int .i64 b] 91) = W0 at *
  obtain ⟨c0z0, c1z0⟩ := cells2 B_z0
  go_wp2_with fail
  clear c0z0 c1z0
  go_loopw [0, 7] (fun a0 kk wx => ∃ (k : Nat), k ≤ N ∧ kk = .int .i64 (a + (k : Int)) ∧ Hid (OwnP wx base a0 (l ++ rowK y a k)) ∧ Hid (base ≤ wx.heap.size) ∧ Hid (a0.ownBlock ≠ some w.heap.size) ∧ Hid (Bx wx (w.heap.size) 91 #[.int .i64 a, .int .i64 b]) ∧ Hid (Below base w wx)) (fun _ kk _ => (b + 1 - intOf kk).toNat)
  case atStart => exact ⟨0, by omega, congrArg (Value.int .i64) (by omega), by simpa [rowK] using VR, HBS, NB, B_z0, HB⟩
  case round =>
    clear VR HBS NB B_z0 HB
    obtain ⟨k, hk, rfl, VR, HBS, NB, B_z0, HB⟩ := hrel
    by_cases hlt : k < N
    · skip
      have hle : a + ((k : Nat) : Int) ≤ b := by omega
      have hrl := rowK_len y a k
      have HRS : Hid (rowK y a (k + 1) = rowK y a k ++ [(a + ((k : Nat) : Int), y)]) := rfl
      have hell : (l ++ rowK y a k).length ≤ 300000 := by rw [List.length_append, hrl]; omega
      have HAS : Hid (l ++ rowK y a (k + 1) = (l ++ rowK y a k) ++ [(a + ((k : Nat) : Int), y)]) := by unfold Hid; rw [HRS.out, List.append_assoc]
      obtain ⟨lk, hlk⟩ : ∃ lk, l ++ rowK y a k = lk := ⟨_, rfl⟩
      rw [hlk] at VR HAS hell
      clear hlk hrl HRS
      obtain ⟨X, hX⟩ : ∃ X, a + ((k : Nat) : Int) = X := ⟨_, rfl⟩
      rw [hX] at HAS hle ⊢
      have HX := Lib.hid hX
      have hX1 : -1099511627776 ≤ X := by omega
      have hX2 : X ≤ 1099511627776 := by omega
      clear hX
      have ltz := B_z0.out.lt
      obtain ⟨c0z0, c1z0⟩ := cells2 B_z0
      have HG := Lib.hid (fun wzz (hg : (wr.alloc (.cells #[.int .i64 X, .int .i64 y] 37)).grownBy wzz (Value.ownBlock u0)) => grown_below VR.out HBS.out hg)
      go_wp2_with (at_builtin; refine wpList_append_own_at _ rfl _ _ 50 rfl base 37 i0 (.agg #[.int .i64 0, .int .i64 0]) 2 16 Try.underlying50 HI.out hz0 hz1 hz2 rfl (by decide) u0 lk.length (pts lk) rfl (VR.out.alloc _) ⟨wr.heap.size, 0, none⟩ 1 1 (pts [(X, y)]) rfl rfl (new_pt wr _ _) (pts_one _) (by simp only [maxLen]; omega) (by omega) (by have := HBS.out; simp; omega) ?_; intro v3 w3 hown3 hgrow3 hnil3 hblk3; have HX3 := Lib.hid hown3; have HG3 := Lib.hid hgrow3; have HK3 := Lib.hid hblk3; have HY3 := Lib.hid (HG.out _ hgrow3); clear hown3 hgrow3 hnil3 hblk3)
      have VRn : Hid (OwnP w3 base v3 (l ++ rowK y a (k + 1))) := by have h := HX3.out; rw [pts_append] at h; rw [HAS.out]; unfold Hid OwnP; rw [List.length_append]; exact h
      have nB := bxg B_z0 HG3.out (fun e => NB.out e.symm)
      have nNB : Hid (v3.ownBlock ≠ some w.heap.size) := by unfold Hid; rcases HK3.out with e | e; (rw [e]; exact NB.out); (rw [e]; intro e2; injection e2 with e2; simp at e2; omega)
      have nHBS : Hid (base ≤ w3.heap.size) := Nat.le_trans HBS.out HY3.out.size
      have nHB := Lib.hid (HB.out.trans HY3.out)
      clear c0z0 c1z0 HG HX3 HG3 HK3 HY3 VR B_z0 NB HBS HB
      have ew : IntKind.i64.wrap (X + 1) = X + 1 := by rw [IntKind.wrap_i64]; omega
      go_wp2_with fail
      go_roundw
      case rel => exact ⟨k + 1, by omega, congrArg (Value.int .i64) (by have := HX.out; omega), VRn, nHBS, nNB, nB, nHB⟩
      case measure => simp only [intOf]; have := HX.out; omega
    · skip
      have hkn : N = k := by omega
      subst hkn
      have hgt : ¬ (a + ((N : Nat) : Int) ≤ b) := by have := HE.out; omega
      obtain ⟨c0z0, c1z0⟩ := cells2 B_z0
      go_wp2
      go_ret
      exact ⟨_, rfl, VR.out, HB.out⟩
end Go.Proofs.Ytkhcogfajihecaa
