/- Bounds of the corners, the corners one by one: mathematics. -/
import Derived.Test.YtpjbkadhmjlpfaaZM3
set_option linter.unusedSimpArgs false
set_option linter.unusedVariables false
namespace Go.Proofs.Ytpjbkadhmjlpfaa
open Go Go.RowKit Hd

/-- All vectors together reach no further than S. -/
def SB (l : List P2) (S : Int) : Prop := spr l 1 0 ≤ S ∧ spr l 0 1 ≤ S
theorem sp1 (l : List P2) : spr l 1 0 = spr l ((1, 0) : P2).1 ((1, 0) : P2).2 := rfl
theorem sp2 (l : List P2) : spr l 0 1 = spr l ((0, 1) : P2).1 ((0, 1) : P2).2 := rfl
theorem nd1 (p : P2) : nd (1, 0) p = p.1 := by unfold nd dt; simp
theorem nd2 (p : P2) : nd (0, 1) p = p.2 := by unfold nd dt; simp
theorem mem_le {l : List P2} {p : P2} (h : p ∈ l) (n : P2) : mg (nd n p) ≤ spr l n.1 n.2 := by
  induction l with
  | nil => simp at h
  | cons q t ih =>
    rw [spr_cons]
    have := mg_nonneg (nd n q)
    have := spr_nn t n
    rcases List.mem_cons.mp h with rfl | h
    · omega
    · have := ih h; omega
theorem SB.mem {l : List P2} {S : Int} (h : SB l S) {p : P2} (hp : p ∈ l) : Wi p.1 S ∧ Wi p.2 S := by
  have h1 := mem_le hp (1, 0)
  have h2 := mem_le hp (0, 1)
  rw [← sp1, nd1] at h1
  rw [← sp2, nd2] at h2
  obtain ⟨a, b⟩ := h
  refine ⟨?_, ?_⟩
  · rcases mg_cs p.1 with ⟨e, _⟩ | ⟨e, _⟩ <;> exact ⟨by omega, by omega⟩
  · rcases mg_cs p.2 with ⟨e, _⟩ | ⟨e, _⟩ <;> exact ⟨by omega, by omega⟩
theorem spr_take_le (l : List P2) (n : P2) (k : Nat) : spr (l.take k) n.1 n.2 ≤ spr l n.1 n.2 := by
  have := spr_take l n k
  have := spr_nn (l.drop k) n
  omega
theorem mv1_bd {z : P2} {l : List P2} {M S : Int} (hz : Wi z.1 M ∧ Wi z.2 M) (h : SB l S) (k : Nat) (hk : k ≤ l.length) : Wi (mvp z (-1) l k).1 (M + S) ∧ Wi (mvp z (-1) l k).2 (M + S) := by
  obtain ⟨⟨z1, z2⟩, z3, z4⟩ := hz
  obtain ⟨a, b⟩ := h
  have e1 := nd_mvp (1, 0) z (-1) l k hk
  have e2 := nd_mvp (0, 1) z (-1) l k hk
  rw [nd1, nd1] at e1
  rw [nd2, nd2] at e2
  have s1 := sn_le (1, 0) (l.take k)
  have s2 := sn_le (0, 1) (l.take k)
  have t1 := spr_take_le l (1, 0) k
  have t2 := spr_take_le l (0, 1) k
  rw [← sp1] at t1
  rw [← sp2] at t2
  have c1 := mg_cs (sn (1, 0) (l.take k))
  have c2 := mg_cs (sn (0, 1) (l.take k))
  dsimp only at *
  exact ⟨⟨by omega, by omega⟩, by omega, by omega⟩
theorem nd_neg (n p : P2) : nd (-n.1, -n.2) p = - nd n p := by unfold nd dt; simp only [Int.neg_mul]; omega
theorem spr_neg (l : List P2) (n : P2) : spr l (-n.1) (-n.2) = spr l n.1 n.2 := by
  induction l with
  | nil => rfl
  | cons p t ih =>
    have e := spr_cons p t (-n.1, -n.2)
    dsimp only at e
    rw [e, ih, nd_neg, mg_neg, spr_cons]
theorem cor_ge (n z : P2) (C : List P2) (i : Nat) (h : i ≤ C.length + C.length) : nd n z - spr C n.1 n.2 ≤ nd n (cor z C i) := by
  have := cor_le (-n.1, -n.2) z C i h
  rw [nd_neg, nd_neg, spr_neg] at this
  omega
theorem cor_bd {z : P2} {l : List P2} {M S : Int} (hz : Wi z.1 M ∧ Wi z.2 M) (h : SB l S) (i : Nat) (hi : i ≤ l.length + l.length) : Wi (cor z l i).1 (M + S) ∧ Wi (cor z l i).2 (M + S) := by
  obtain ⟨⟨z1, z2⟩, z3, z4⟩ := hz
  obtain ⟨a, b⟩ := h
  have a1 := cor_le (1, 0) z l i hi
  have a2 := cor_ge (1, 0) z l i hi
  have b1 := cor_le (0, 1) z l i hi
  have b2 := cor_ge (0, 1) z l i hi
  rw [nd1, nd1, ← sp1] at a1 a2
  rw [nd2, nd2, ← sp2] at b1 b2
  exact ⟨⟨by omega, by omega⟩, by omega, by omega⟩
/-- The corners up to number k. -/
def corT (z : P2) (C : List P2) : Nat → List P2
  | 0 => [cor z C 0]
  | k + 1 => corT z C k ++ [cor z C (k + 1)]
theorem corT_len (z : P2) (C : List P2) (k : Nat) : (corT z C k).length = k + 1 := by
  induction k with
  | zero => rfl
  | succ k ih => simp [corT, ih]
theorem corT_get (z : P2) (C : List P2) (k i : Nat) (h : i ≤ k) : (corT z C k).getD i z2 = cor z C i := by
  induction k with
  | zero => have : i = 0 := by omega
            subst this; rfl
  | succ k ih =>
    have e : corT z C (k + 1) = corT z C k ++ [cor z C (k + 1)] := rfl
    rw [e, List.getD_eq_getElem?_getD]
    by_cases h1 : i ≤ k
    · rw [List.getElem?_append_left (by rw [corT_len]; omega), ← List.getD_eq_getElem?_getD]
      exact ih h1
    · have : i = k + 1 := by omega
      subst this
      rw [List.getElem?_append_right (by rw [corT_len]; omega), corT_len]
      simp
theorem corT_eq (z : P2) (C : List P2) : corT z C (2 * C.length - 1) = cornL z C := by
  have hl := corn_len z C
  have hT := corT_len z C (2 * C.length - 1)
  refine List.ext_getElem (by omega) (fun i h1 h2 => ?_)
  have e1 := corT_get z C (2 * C.length - 1) i (by omega)
  have e2 := corn_get z C i (by omega)
  rw [List.getD_eq_getElem?_getD, List.getElem?_eq_getElem h1] at e1
  rw [List.getD_eq_getElem?_getD, List.getElem?_eq_getElem h2] at e2
  simp only [Option.getD_some] at e1 e2
  rw [e1, e2]
theorem cor_0 (z : P2) (C : List P2) : cor z C 0 = mvp z (-1) C C.length := by unfold cor c0; rw [if_pos (Nat.zero_le _)]; rfl
theorem sub_add {a b c : P2} (h : subP a b = c) : a = (b.1 + c.1, b.2 + c.2) := by
  rw [← h]; unfold subP; exact Prod.ext (by dsimp only; omega) (by dsimp only; omega)
theorem cor_lo (z : P2) (C : List P2) {i : Nat} {gx gy : Int} (h : i < C.length) (e : C.getD i z2 = (gx, gy)) : cor z C (i + 1) = ((cor z C i).1 + 2 * gx, (cor z C i).2 + 2 * gy) := by
  have := sub_add (step_lo z C h)
  rw [e] at this
  exact this
theorem cor_hi (z : P2) (C : List P2) {i : Nat} {gx gy : Int} (h1 : C.length ≤ i) (h2 : i < 2 * C.length) (e : C.getD (i % C.length) z2 = (gx, gy)) : cor z C (i + 1) = ((cor z C i).1 + 2 * -gx, (cor z C i).2 + 2 * -gy) := by
  have hm : i % C.length = i - C.length := by rw [Nat.mod_eq_sub_mod h1, Nat.mod_eq_of_lt (by omega)]
  rw [hm] at e
  have := sub_add (step_hi z C (show i - C.length < C.length by omega))
  rw [e, show C.length + (i - C.length) = i by omega] at this
  rw [this]
  exact Prod.ext (by dsimp only; omega) (by dsimp only; omega)
end Go.Proofs.Ytpjbkadhmjlpfaa
