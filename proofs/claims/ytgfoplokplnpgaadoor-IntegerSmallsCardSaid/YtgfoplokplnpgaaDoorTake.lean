/- integer.takeOff -/
import Derived.Test.YtgfoplokplnpgaaDoorAddb
namespace Go.Proofs.YtgfoplokplnpgaaDoor
open Go Go.RowKit Num

theorem OwnX.part {w : World} {g : Nat} {pre S : List Nat} {ex : List Value} (h : OwnX w g (pre ++ S) ex) (hS : ∀ x ∈ S, x < 4294967296) {n cap : Nat} (hn : n ≤ S.length) (hc : n ≤ cap) (hm : cap ≤ maxLen) :
    U32 w (.slice (some ⟨g, pre.length, none⟩) n cap) (S.take n) := by
  have hlen : (S.take n).length = n := by simp; omega
  refine ⟨fun x hx => hS x (List.mem_of_mem_take hx), some ⟨g, pre.length, none⟩, cap, by rw [hlen], by omega, hm, fun _ => ⟨g, pre.length, rfl, h.lt, fun i hi => ?_⟩⟩
  rw [hlen] at hi
  rw [h.cell (by simp; omega)]
  congr 2
  simp only [List.getD_eq_getElem?_getD]
  rw [List.getElem?_append_right (by omega), Nat.add_sub_cancel_left, List.getElem?_take, if_pos hi]

theorem split2 {l : List Nat} {m : Nat} (hl : l.length = m + 2) : val l = val (l.take m) + 4294967296 ^ m * (l.getD (m + 1) 0 * 4294967296 + l.getD m 0) := by
  have h1 := val_take_succ l (m + 1)
  rw [List.take_of_length_le (by omega), val_take_succ l m, Nat.pow_succ] at h1
  rw [h1, Nat.mul_add, Nat.mul_assoc, Nat.mul_comm 4294967296 (l.getD (m + 1) 0)]
  omega
theorem split3 {l : List Nat} {m : Nat} (hl : l.length = m + 3) : val l = val (l.take m) + 4294967296 ^ m * ((l.getD (m + 2) 0 * 4294967296 + l.getD (m + 1) 0) * 4294967296 + l.getD m 0) := by
  have h1 := val_take_succ l (m + 2)
  rw [List.take_of_length_le (by omega), val_take_succ l (m + 1), val_take_succ l m] at h1
  simp only [Nat.pow_succ] at h1
  rw [h1]
  generalize 4294967296 ^ m = E
  generalize l.getD (m + 2) 0 = a
  generalize l.getD (m + 1) 0 = b
  generalize l.getD m 0 = c
  have e1 : E * 4294967296 * 4294967296 * a = E * (a * 4294967296 * 4294967296) := by rw [Nat.mul_assoc, Nat.mul_assoc, Nat.mul_comm a, ← Nat.mul_assoc 4294967296, Nat.mul_comm (4294967296 * a) 4294967296, Nat.mul_assoc]
  have e2 : E * 4294967296 * b = E * (b * 4294967296) := by rw [Nat.mul_assoc, Nat.mul_comm b]
  rw [e1, e2, Nat.add_mul, Nat.mul_add, Nat.mul_add]
  omega

theorem top_le {E D0 P0 h s N p2 p1 p0 D P : Nat} (hD : D = D0 + E * (h * 4294967296 + s)) (hD0 : D0 < E) (hs : s < 4294967296) (hP : P = P0 + E * N) (hN : N = (p2 * 4294967296 + p1) * 4294967296 + p0) (hlt : P < D * 4294967296) : p2 ≤ h := by
  rcases Nat.lt_or_ge h p2 with hgt | hle
  · exfalso
    have h1 : (h * 4294967296 + s + 1) * 4294967296 ≤ N := by omega
    have h2 : E * ((h * 4294967296 + s + 1) * 4294967296) ≤ E * N := Nat.mul_le_mul_left _ h1
    have h3 : D * 4294967296 ≤ (E * (h * 4294967296 + s + 1)) * 4294967296 := by
      refine Nat.mul_le_mul_right _ ?_
      rw [Nat.mul_add E _ 1]; omega
    rw [Nat.mul_assoc] at h3
    omega
  · exact hle

/-- The estimate is right, or one too great. -/
theorem est_ok {E D0 P0 h s p2 p1 p0 D P q : Nat} (hD : D = D0 + E * (h * 4294967296 + s)) (hD0 : D0 < E) (hP0 : P0 < E) (hh : 0 < h)
    (hP : P = P0 + E * ((p2 * 4294967296 + p1) * 4294967296 + p0)) (hlt : P < D * 4294967296) (e : Est h s p2 p1 p0 q) : P / D ≤ q ∧ q ≤ P / D + 1 := by
  have hDpos : 0 < D := by
    rcases Nat.eq_zero_or_pos D with h0 | h0
    · rw [h0] at hlt; omega
    · exact h0
  constructor
  · refine e.most _ (Nat.div_lt_of_lt_mul hlt) ?_
    have h1 : P / D * D ≤ P := Nat.div_mul_le_self _ _
    have h2 : P / D * (E * (h * 4294967296 + s)) ≤ P / D * D := Nat.mul_le_mul_left _ (by omega)
    rw [Nat.mul_left_comm] at h2
    have h3 : E * (P / D * (h * 4294967296 + s)) < E * ((p2 * 4294967296 + p1) * 4294967296 + p0 + 1) := by rw [Nat.mul_add E _ 1]; omega
    have := Nat.lt_of_mul_lt_mul_left h3
    omega
  · rcases Nat.eq_zero_or_pos q with h0 | h0
    · rw [h0]; exact Nat.zero_le _
    · obtain ⟨k, rfl⟩ : ∃ k, q = k + 1 := ⟨q - 1, by omega⟩
      refine Nat.succ_le_succ ((Nat.le_div_iff_mul_le hDpos).2 ?_)
      have hk := e.lt
      have he := e.le
      have h1 : k * D ≤ k * (E * (h * 4294967296 + s + 1)) := Nat.mul_le_mul_left _ (by rw [Nat.mul_add E _ 1]; omega)
      rw [Nat.mul_left_comm] at h1
      have h2 : k * (h * 4294967296 + s + 1) ≤ (k + 1) * (h * 4294967296 + s) := by
        rw [Nat.mul_add k _ 1, Nat.add_mul]
        omega
      have h3 : E * (k * (h * 4294967296 + s + 1)) ≤ E * ((p2 * 4294967296 + p1) * 4294967296 + p0) := Nat.mul_le_mul_left _ (Nat.le_trans h2 he)
      omega

/-- Whether the product fits decides between the two. -/
theorem fits {P D q Z R : Nat} (hD : 0 < D) (h1 : P / D ≤ q) (e : P = R + q * D) (hR : R < Z) : q = P / D ∧ R = P % D := by
  have h2 : q ≤ P / D := (Nat.le_div_iff_mul_le hD).2 (by omega)
  have h3 : q = P / D := by omega
  refine ⟨h3, ?_⟩
  have := Nat.div_add_mod P D
  rw [Nat.mul_comm, ← h3] at this
  omega
theorem fits_not {P D q Z R R' t' : Nat} (hD : 0 < D) (h1 : P / D ≤ q) (h2 : q ≤ P / D + 1) (e : P + Z = R + q * D) (hR : R < Z) (hDZ : D ≤ Z) (hR' : R' < Z) (e' : R' + Z * t' = R + D) : q = P / D + 1 ∧ R' = P % D := by
  have h3 : q = P / D + 1 := by
    rcases Nat.lt_or_ge (P / D) q with h | h
    · omega
    · have : q = P / D := by omega
      have h4 := Nat.div_mul_le_self P D
      rw [← this] at h4
      omega
  refine ⟨h3, ?_⟩
  have h4 := Nat.div_add_mod P D
  have h5 := Nat.mod_lt P hD
  rw [Nat.mul_comm] at h4
  rw [h3, Nat.add_mul, Nat.one_mul] at e
  have ht : t' = 1 := by
    rcases Nat.lt_trichotomy t' 1 with h | h | h
    · have : t' = 0 := by omega
      rw [this, Nat.mul_zero] at e'
      omega
    · exact h
    · have : Z * 2 ≤ Z * t' := Nat.mul_le_mul_left _ h
      omega
  rw [ht, Nat.mul_one] at e'
  omega

/-- What takeOff leaves. -/
def Taken (w w' : World) (g : Nat) (pre S : List Nat) (ex : List Value) (m r : Nat) : Prop :=
  ∃ R : List Nat, R.length = m + 1 ∧ (∀ x ∈ R, x < 4294967296) ∧ OwnX w' g (pre ++ (R ++ S.drop (m + 1))) ex ∧ w.grownBy w' (some g) ∧ val R = r

theorem taken_fits {w w1 w' : World} {g : Nat} {pre S : List Nat} {ex : List Value} {d : List Nat} {q : Nat} {m : Nat} (hg : w.grownBy w1 (some g)) (h : Subbed w1 w' g pre S ex d q m false) (hD : 0 < val d) (h1 : val (S.take (m + 1)) / val d ≤ q) :
    q = val (S.take (m + 1)) / val d ∧ Taken w w' g pre S ex m (val (S.take (m + 1)) % val d) := by
  obtain ⟨R, t, hl, hlt, ho, hgr, he, hb⟩ := h
  have ht : t = 0 := by
    by_cases h0 : t = 0
    · exact h0
    · rw [decide_eq_true h0] at hb; cases hb
  rw [ht, Nat.mul_zero, Nat.add_zero] at he
  have hR := val_lt hlt
  obtain ⟨e1, e2⟩ := fits hD h1 he hR
  exact ⟨e1, R, hl, hlt, ho, grown_trans hg hgr, e2⟩

theorem taken_not {w w1 w2 w' : World} {g : Nat} {pre S R : List Nat} {ex : List Value} {d : List Nat} {q : Nat} {m t : Nat} (hg : w.grownBy w1 (some g)) (hl : R.length = m + 1) (hlt : ∀ x ∈ R, x < 4294967296) (hgr : w1.grownBy w2 (some g))
    (he : val (S.take (m + 1)) + 4294967296 ^ (m + 1) * t = val R + q * val d) (ht : true = decide (t ≠ 0)) (hA : Added w2 w' g pre (R ++ S.drop (m + 1)) ex d m) (hD : 0 < val d) (hDZ : val d ≤ 4294967296 ^ (m + 1)) (h1 : val (S.take (m + 1)) / val d ≤ q) (h2 : q ≤ val (S.take (m + 1)) / val d + 1) :
    q = val (S.take (m + 1)) / val d + 1 ∧ Taken w w' g pre S ex m (val (S.take (m + 1)) % val d) := by
  obtain ⟨R', t', hl', hlt', ho', hgr', he'⟩ := hA
  have ht0 : t ≠ 0 := by
    intro h0; rw [h0] at ht; simp at ht
  have hd1 : (R ++ S.drop (m + 1)).take (m + 1) = R := by rw [List.take_append_of_le_length (by omega), List.take_of_length_le (by omega)]
  have hd2 : (R ++ S.drop (m + 1)).drop (m + 1) = S.drop (m + 1) := by rw [← hl, List.drop_left]
  rw [hd1] at he'
  rw [hd2] at ho'
  have hR := val_lt hlt
  have hR' := val_lt hlt'
  rw [hl] at hR
  rw [hl'] at hR'
  generalize 4294967296 ^ (m + 1) = Z at *
  have ht1 : t = 1 := by
    rcases Nat.lt_or_ge t 2 with h | h
    · omega
    · exfalso
      have h3 : Z * 2 ≤ Z * t := Nat.mul_le_mul_left _ h
      have h4 := Nat.div_mul_le_self (val (S.take (m + 1))) (val d)
      have h5 : q * val d ≤ (val (S.take (m + 1)) / val d + 1) * val d := Nat.mul_le_mul_right _ h2
      rw [Nat.add_mul, Nat.one_mul] at h5
      omega
  rw [ht1, Nat.mul_one] at he
  obtain ⟨e1, e2⟩ := fits_not hD h1 h2 he hR hDZ hR' he'
  exact ⟨e1, R', hl', hlt', ho', grown_trans hg (grown_trans hgr hgr'), e2⟩

set_option maxRecDepth 100000 in
set_option maxHeartbeats 2000000 in
theorem takeOff_any (g cap : Nat) (v2 : Value) (pre S d : List Nat) (ex : List Value) (m : Nat) (w : World) (h : OwnX w g (pre ++ S) ex) (hS : ∀ x ∈ S, x < 4294967296) (h2 : U32 w v2 d) (hne : ∀ b off n c, v2 = .slice (some ⟨b, off, none⟩) n c → b ≠ g)
    (hd : d.length = m + 2) (hk : d.length < S.length) (hp : pre.length ≤ 1000000) (hl : S.length ≤ 1000000) (hc : d.length + 1 ≤ cap) (hm : cap ≤ maxLen) (hh : 0 < d.getD (m + 1) 0) (hlt : val (S.take (d.length + 1)) < val d * 4294967296) :
    Calls Tryd.prog 84 #[.slice (some ⟨g, pre.length, none⟩) (d.length + 1) cap, v2] w fun e w' => e = .returned (.int .u32 ((val (S.take (d.length + 1)) / val d : Nat) : Int)) ∧ Taken w w' g pre S ex d.length (val (S.take (d.length + 1)) % val d) := by
  have hU := h.part hS (n := d.length + 1) (by omega) hc hm
  have hsl : (S.take (d.length + 1)).length = m + 3 := by rw [List.length_take]; omega
  have hDs := split2 hd
  have hPs := split3 hsl
  have hD0 := take_val_lt h2.lt (k := m) (by omega)
  have hP0 := take_val_lt hU.lt (k := m) (by omega)
  have hs0 := getD_lt h2.lt m
  have htop := top_le hDs hD0 hs0 hPs rfl hlt
  have hDpos : 0 < val d := by
    rcases Nat.eq_zero_or_pos (val d) with h0 | h0
    · rw [h0] at hlt; omega
    · exact h0
  have hDZ : val d ≤ 4294967296 ^ (d.length + 1) := by
    have := val_lt h2.lt
    rw [Nat.pow_succ]; omega
  have hEst := fun q (e : Est _ _ _ _ _ q) => est_ok hDs hD0 hP0 hh hPs hlt e
  have HE := Lib.hid hEst
  have HDP := Lib.hid hDpos
  have HDZ := Lib.hid hDZ
  have c1 := estimate_any _ v2 _ d m w hU h2 hsl hd (by omega) hh htop
  have HC := Lib.hid c1
  have HDL := Lib.hid hd
  clear hEst hDZ hDpos hlt hDs hPs hD0 hP0 hs0 htop c1 hsl hd
  go_enter Tryd.func84, Tryd.ntmps84
  go_wp2_with fail
  refine HC.out.mono ?_
  rintro e w1 ⟨q, rfl, hq, n, rfl⟩
  have hqlt := hq.lt
  obtain ⟨hq1, hq2⟩ := HE.out q hq
  have HQ1 := Lib.hid hq1
  have HQ2 := Lib.hid hq2
  clear hq1 hq2 hq HC
  have c2 := subtractTimes_any g cap v2 pre S d ex q (w.drewN n) (h.drewN n) hS (h2.below ⟨rfl, rfl, rfl, Nat.le_refl _, fun _ _ => rfl⟩) hne hk hp hl hqlt
  have HC2 := Lib.hid c2
  clear c2
  go_wp2_with fail
  refine HC2.out.mono ?_
  rintro e w1 ⟨b, rfl, hsub⟩
  rcases b with _ | _
  · have HT := Lib.hid (taken_fits (grown_drewN w _ n) hsub HDP.out HQ1.out)
    clear hsub
    go_wp2
    go_ret
    exact ⟨ret_int (by rw [HT.out.1]), HT.out.2⟩
  · obtain ⟨R, t, hRl, hRlt, ho, hgr, he, ht⟩ := hsub
    have hRS : ∀ x ∈ R ++ S.drop (d.length + 1), x < 4294967296 := by
      intro x hx
      rcases List.mem_append.1 hx with h1 | h1
      · exact hRlt x h1
      · exact hS x (List.mem_of_mem_drop h1)
    have h2' : U32 w1 v2 d := by
      refine ⟨h2.lt, ?_⟩
      obtain ⟨A, c2, rfl, e1, e2, e3⟩ := h2.form
      refine ⟨A, c2, rfl, e1, e2, fun hne' => ?_⟩
      obtain ⟨b, off, rfl, hb, hcell⟩ := e3 hne'
      exact ⟨b, off, rfl, Nat.lt_of_lt_of_le hb hgr.size, fun i hi => hgr.cell (hcell i hi) (by intro he; injection he with he; exact hne b off _ _ rfl he)⟩
    have hq1 : 1 ≤ q := by
      rcases Nat.eq_zero_or_pos q with h0 | h0
      · exfalso
        have ht0 : t ≠ 0 := by intro h1; rw [h1] at ht; simp at ht
        rw [h0, Nat.zero_mul, Nat.add_zero] at he
        have h3 := val_lt hRlt
        rw [hRl] at h3
        have : 4294967296 ^ (d.length + 1) ≤ 4294967296 ^ (d.length + 1) * t := Nat.le_mul_of_pos_right _ (by omega)
        omega
      · exact h0
    have HE2 := Lib.hid he
    have HT2 := Lib.hid ht
    have HRL := Lib.hid hRl
    have hlen2 : d.length < (R ++ S.drop (d.length + 1)).length ∧ (R ++ S.drop (d.length + 1)).length ≤ 1000000 := by
      rw [List.length_append, List.length_drop, hRl]; omega
    obtain ⟨hl3, hl4⟩ := hlen2
    clear he ht hRl
    have c3 := addBack_any g cap v2 pre (R ++ S.drop (d.length + 1)) d ex w1 ho hRS h2' hne hl3 hp hl4
    have HC3 := Lib.hid c3
    clear c3 hl3 hl4 HC2 HDL
    go_wp2_with fail
    refine HC3.out.mono ?_
    rintro e w2 ⟨rfl, hA⟩
    have HT := Lib.hid (taken_not (grown_drewN w _ n) HRL.out hRlt hgr HE2.out HT2.out hA HDP.out HDZ.out HQ1.out HQ2.out)
    clear hA
    go_wp2
    go_ret
    exact ⟨ret_int (by rw [HT.out.1]; omega), HT.out.2⟩
end Go.Proofs.YtgfoplokplnpgaaDoor
