/- The corners of a canonical form, the points of a zonogon in every direction: mathematics. -/
import Derived.Test.YtpjbkadhmjlpfaaZ17
set_option linter.unusedSimpArgs false
set_option linter.unusedVariables false
namespace Go.Proofs.Ytpjbkadhmjlpfaa
open Go Go.RowKit Hd

theorem mul_self_nonneg' (a : Int) : 0 ≤ a * a := by
  rcases Int.le_total 0 a with h | h
  · exact Int.mul_nonneg h h
  · exact Int.mul_nonneg_of_nonpos_of_nonpos h h
theorem mul_self_pos' {a : Int} (h : a ≠ 0) : 0 < a * a := by
  rcases Int.lt_or_gt_of_ne h with h | h
  · exact Int.mul_pos_of_neg_of_neg h h
  · exact Int.mul_pos h h
/-- Magnitudes. -/
theorem mg_cs (n : Int) : (mg n = n ∧ 0 ≤ n) ∨ (mg n = -n ∧ n ≤ 0) := by unfold mg; split <;> omega
theorem mg_neg (n : Int) : mg (-n) = mg n := by unfold mg; split <;> split <;> omega
theorem mg_mul (a b : Int) : mg (a * b) = mg a * mg b := by
  rcases mg_cs a with ⟨e1, h1⟩ | ⟨e1, h1⟩ <;> rcases mg_cs b with ⟨e2, h2⟩ | ⟨e2, h2⟩ <;> rw [e1, e2]
  · have := Int.mul_nonneg h1 h2
    rcases mg_cs (a * b) with ⟨e, h⟩ | ⟨e, h⟩ <;> omega
  · have := Int.mul_nonpos_of_nonneg_of_nonpos h1 h2
    have e3 : a * -b = -(a * b) := by rw [Int.mul_neg]
    rcases mg_cs (a * b) with ⟨e, h⟩ | ⟨e, h⟩ <;> omega
  · have := Int.mul_nonpos_of_nonpos_of_nonneg h1 h2
    have e3 : -a * b = -(a * b) := by rw [Int.neg_mul]
    rcases mg_cs (a * b) with ⟨e, h⟩ | ⟨e, h⟩ <;> omega
  · have := Int.mul_nonneg_of_nonpos_of_nonpos h1 h2
    have e3 : -a * -b = a * b := by rw [Int.neg_mul_neg]
    rcases mg_cs (a * b) with ⟨e, h⟩ | ⟨e, h⟩ <;> omega
theorem mg_tri (a b : Int) : mg (a + b) ≤ mg a + mg b := by
  rcases mg_cs a with ⟨e1, h1⟩ | ⟨e1, h1⟩ <;> rcases mg_cs b with ⟨e2, h2⟩ | ⟨e2, h2⟩ <;> rcases mg_cs (a + b) with ⟨e, h⟩ | ⟨e, h⟩ <;> omega
theorem mg_same {a b : Int} (h : 0 ≤ a * b) : mg (a + b) = mg a + mg b := by
  rcases mg_cs a with ⟨e1, h1⟩ | ⟨e1, h1⟩ <;> rcases mg_cs b with ⟨e2, h2⟩ | ⟨e2, h2⟩
  · rcases mg_cs (a + b) with ⟨e, h⟩ | ⟨e, h⟩ <;> omega
  · rcases Classical.em (a = 0 ∨ b = 0) with h3 | h3
    · rcases mg_cs (a + b) with ⟨e, h⟩ | ⟨e, h⟩ <;> omega
    · have := Int.mul_neg_of_pos_of_neg (show 0 < a by omega) (show b < 0 by omega); omega
  · rcases Classical.em (a = 0 ∨ b = 0) with h3 | h3
    · rcases mg_cs (a + b) with ⟨e, h⟩ | ⟨e, h⟩ <;> omega
    · have := Int.mul_neg_of_neg_of_pos (show a < 0 by omega) (show 0 < b by omega); omega
  · rcases mg_cs (a + b) with ⟨e, h⟩ | ⟨e, h⟩ <;> omega
theorem mg_opp {a b : Int} (h : a * b ≤ 0) : mg (a - b) = mg a + mg b := by
  have e : a * -b = -(a * b) := by rw [Int.mul_neg]
  have := mg_same (a := a) (b := -b) (by omega)
  rw [mg_neg] at this
  rw [← this, Int.sub_eq_add_neg]
theorem le_of_mul {k a b : Int} (hk : 0 < k) (h : k * a ≤ k * b) : a ≤ b := Int.le_of_mul_le_mul_left h hk
theorem mg_pos {a : Int} (h : a ≠ 0) : 0 < mg a := by rcases mg_cs a with ⟨e, _⟩ | ⟨e, _⟩ <;> omega
theorem mg_zero {a : Int} (h : mg a ≤ 0) : a = 0 := by rcases mg_cs a with ⟨e, _⟩ | ⟨e, _⟩ <;> omega

/-- The scalar product. -/
def nd (n g : P2) : Int := dt n.1 n.2 g.1 g.2
theorem nd_add (n a b : P2) : nd n (addP a b) = nd n a + nd n b := by unfold nd dt addP; simp only [Int.mul_add]; omega
theorem nd_upP (n p : P2) : mg (nd n (upP p)) = mg (nd n p) := by
  have : nd n (upP p) = nd n p ∨ nd n (upP p) = - nd n p := by
    unfold nd dt upP upX upY
    by_cases e : Dn p.1 p.2
    · right; rw [if_pos e, if_pos e]; simp only [Int.mul_neg]; omega
    · left; rw [if_neg e, if_neg e]
  rcases this with h | h <;> rw [h]
  exact mg_neg _
theorem spr_cons (p : P2) (l : List P2) (n : P2) : spr (p :: l) n.1 n.2 = mg (nd n p) + spr l n.1 n.2 := rfl
theorem spr_append (l m : List P2) (n : P2) : spr (l ++ m) n.1 n.2 = spr l n.1 n.2 + spr m n.1 n.2 := by simp [spr]
theorem spr_perm {l m : List P2} (h : l.Perm m) (n : P2) : spr l n.1 n.2 = spr m n.1 n.2 := by
  induction h with
  | nil => rfl
  | cons x _ ih => rw [spr_cons, spr_cons, ih]
  | swap x y l => rw [spr_cons, spr_cons, spr_cons, spr_cons]; omega
  | trans _ _ i1 i2 => rw [i1, i2]
theorem spr_nn (l : List P2) (n : P2) : 0 ≤ spr l n.1 n.2 := by
  induction l with
  | nil => exact Int.le_refl _
  | cons p t ih => rw [spr_cons]; have := mg_nonneg (nd n p); omega
/-- Parallel vectors, both upward, have products of one sign. -/
theorem same_dir {g h : P2} (n : P2) (hg : Up g) (hh : Up h) (c : crs g h = 0) : 0 ≤ nd n g * nd n h := by
  unfold crs cr at c
  rcases Int.lt_or_le 0 g.2 with hp | hp
  · have e : h.2 * nd n g = g.2 * nd n h := by unfold nd dt; grind
    have e2 : g.2 * (nd n g * nd n h) = h.2 * (nd n g * nd n g) := by grind
    have := Int.mul_nonneg hh.nn (mul_self_nonneg' (nd n g))
    exact nn_of_mul hp (by omega)
  · have hz : g.2 = 0 := by have := hg.nn; omega
    obtain ⟨g1, -, e⟩ := hg.flat hz h
    have h2 : h.2 = 0 := by
      unfold crs cr at e
      rw [hz] at c
      have c' : g.1 * h.2 = 0 := by omega
      rcases Int.mul_eq_zero.mp c' with h0 | h0 <;> omega
    obtain ⟨h1, -, -⟩ := hh.flat h2 g
    have e2 : nd n g * nd n h = (n.1 * n.1) * (g.1 * h.1) := by unfold nd dt; rw [hz, h2]; grind
    rw [e2]
    exact Int.mul_nonneg (mul_self_nonneg' _) (Int.le_of_lt (Int.mul_pos g1 h1))
theorem putD_spr {g : P2} {l : List P2} (n : P2) (hl : ∀ x ∈ l, Up x) (hg : Up g) (hs : SS l) : spr (putD g false l) n.1 n.2 = spr l n.1 n.2 + mg (nd n g) := by
  induction l with
  | nil => simp only [putD]; rw [spr_nil, if_neg (by decide), spr_cons, spr_nil]; omega
  | cons h t ih =>
    obtain ⟨hp, ht⟩ := List.pairwise_cons.mp hs
    have hh := hl h List.mem_cons_self
    have hlt := fun x hx => hl x (List.mem_cons_of_mem h hx)
    unfold putD
    by_cases c0 : crs g h = 0
    · rw [if_pos c0]
      have hgx : ∀ x ∈ t, 0 < crs g x := fun x hx => (crs_par hg hh (hlt x hx) c0).2.1.mpr (hp x hx)
      rw [putD_same (fun x hx => by have := hgx x hx; omega), spr_cons, spr_cons, nd_add, mg_same (same_dir n hh hg (by rw [crs_neg, c0]; rfl))]
      omega
    · rw [if_neg c0]
      by_cases c1 : 0 < crs g h
      · rw [if_pos ⟨c1, rfl⟩]
        have hgx : ∀ x ∈ t, 0 < crs g x := fun x hx => crs_ltle hg hh (hlt x hx) c1 (Int.le_of_lt (hp x hx))
        rw [putD_same (fun x hx => by have := hgx x hx; omega), spr_cons, spr_cons]
        omega
      · rw [if_neg (by simp [c1]), spr_cons, spr_cons, ih hlt ht]
        omega
theorem putD_from {g : P2} (d : Bool) {l : List P2} : ∀ y ∈ putD g d l, y ∈ l ∨ crs g y = 0 := by
  induction l generalizing d with
  | nil => intro y hy; unfold putD at hy; split at hy <;> simp_all [crs_self]
  | cons x t ih =>
    intro y hy
    unfold putD at hy
    split at hy
    · rename_i c
      rcases List.mem_cons.mp hy with rfl | h
      · right; rw [crs_addr, c, crs_self]; rfl
      · rcases ih true y h with h | h
        · exact .inl (List.mem_cons_of_mem _ h)
        · exact .inr h
    · split at hy
      · rcases List.mem_cons.mp hy with rfl | h
        · exact .inr (crs_self _)
        · rcases List.mem_cons.mp h with rfl | h
          · exact .inl List.mem_cons_self
          · rcases ih true y h with h | h
            · exact .inl (List.mem_cons_of_mem _ h)
            · exact .inr h
      · rcases List.mem_cons.mp hy with rfl | h
        · exact .inl List.mem_cons_self
        · rcases ih d y h with h | h
          · exact .inl (List.mem_cons_of_mem _ h)
          · exact .inr h
theorem crs_upP (p x : P2) (h : crs (upP p) x = 0) : crs p x = 0 := by
  unfold crs cr upP upX upY at *
  by_cases e : Dn p.1 p.2
  · rw [if_pos e, if_pos e] at h; simp only [Int.neg_mul] at h; omega
  · rw [if_neg e, if_neg e] at h; exact h
theorem fold_spr (l acc : List P2) (n : P2) (ha : ∀ x ∈ acc, Up x) (sa : SS acc) : spr (l.foldl putZ acc) n.1 n.2 = spr acc n.1 n.2 + spr l n.1 n.2 ∧ ∀ y ∈ l.foldl putZ acc, y ∈ acc ∨ ∃ g ∈ l, g ≠ (0, 0) ∧ crs g y = 0 := by
  induction l generalizing acc with
  | nil => exact ⟨by rw [spr_nil]; simp, fun y hy => .inl hy⟩
  | cons p t ih =>
    rw [List.foldl_cons]
    by_cases h : p = (0, 0)
    · have e : putZ acc p = acc := if_pos h
      rw [e]
      obtain ⟨i1, i2⟩ := ih acc ha sa
      refine ⟨?_, fun y hy => ?_⟩
      · have e0 : nd n (0, 0) = 0 := by simp [nd, dt]
        rw [i1, spr_cons, h, e0]
        have : mg 0 = 0 := rfl
        omega
      · rcases i2 y hy with h | ⟨g, hg, r⟩
        · exact .inl h
        · exact .inr ⟨g, List.mem_cons_of_mem _ hg, r⟩
    · have e : putZ acc p = putD (upP p) false acc := if_neg h
      have hu := upP_up h
      rw [e]
      obtain ⟨i1, i2⟩ := ih (putD (upP p) false acc) (putD_up ha hu) (putD_ss ha hu sa)
      refine ⟨?_, fun y hy => ?_⟩
      · rw [i1, putD_spr n ha hu sa, nd_upP, spr_cons]; omega
      · rcases i2 y hy with h2 | ⟨g, hg, r⟩
        · rcases putD_from false y h2 with h3 | h3
          · exact .inl h3
          · exact .inr ⟨p, List.mem_cons_self, h, crs_upP _ _ h3⟩
        · exact .inr ⟨g, List.mem_cons_of_mem _ hg, r⟩
/-- The canonical form reaches as far in every direction. -/
theorem spr_can (l : List P2) (a b : Int) : spr (canL l) a b = spr l a b := by
  have h := (fold_spr l [] (a, b) (by simp) List.Pairwise.nil).1
  unfold canL
  rw [spr_nil] at h
  simpa using h
theorem can_from (l : List P2) : ∀ y ∈ canL l, ∃ g ∈ l, g ≠ (0, 0) ∧ crs g y = 0 := fun y hy => by
  rcases (fold_spr l [] (0, 0) (by simp) List.Pairwise.nil).2 y hy with h | h
  · simp at h
  · exact h
theorem arow_spr (g : P2) (l : List P2) : arow g l = spr l (-g.2) g.1 := by
  unfold arow spr
  congr 1
  apply List.map_congr_left
  intro x _
  unfold crs cr dt
  rw [Int.neg_mul]
  congr 1
  omega
theorem arow_cons (g p : P2) (l : List P2) : arow g (p :: l) = mg (crs g p) + arow g l := rfl
theorem arow_nn (g : P2) (l : List P2) : 0 ≤ arow g l := by
  induction l with
  | nil => exact Int.le_refl _
  | cons p t ih => rw [arow_cons]; have := mg_nonneg (crs g p); omega
/-- In every direction the point is no further than the zonogon. -/
def Hl (l : List P2) (q : P2) : Prop := ∀ n : P2, mg (nd n q) ≤ spr l n.1 n.2
theorem arow_scale {g c : P2} {K M : Int} (h : ∀ x, K * crs c x = M * crs g x) (l : List P2) : mg K * arow c l = mg M * arow g l := by
  induction l with
  | nil => simp [arow]
  | cons x t ih => rw [arow_cons, arow_cons, Int.mul_add, Int.mul_add, ih, ← mg_mul, ← mg_mul, h x]
theorem par_edge {g c : P2} {l : List P2} {q : P2} (hg : g ≠ (0, 0)) (h : crs g c = 0) (e : mg (crs g q) ≤ arow g l) : mg (crs c q) ≤ arow c l := by
  have key : ∀ K M : Int, K ≠ 0 → (∀ x, K * crs c x = M * crs g x) → mg (crs c q) ≤ arow c l := by
    intro K M hK hx
    refine le_of_mul (mg_pos hK) ?_
    rw [arow_scale hx, ← mg_mul, hx q, mg_mul]
    exact Int.mul_le_mul_of_nonneg_left e (mg_nonneg _)
  rcases Classical.em (g.1 = 0) with h1 | h1
  · have h2 : g.2 ≠ 0 := fun h2 => hg (Prod.ext h1 h2)
    refine key g.2 c.2 h2 (fun x => ?_)
    unfold crs cr at *
    grind
  · refine key g.1 c.1 h1 (fun x => ?_)
    unfold crs cr at *
    grind
/-- Two edges between whose normals the direction lies. -/
theorem pair_dir {C : List P2} {u v q n : P2} (hD : crs u v ≠ 0) (hs : ∀ c ∈ C, (nd n u * nd n v) * (crs u c * crs v c) ≤ 0) (hu : mg (crs u q) ≤ arow u C) (hv : mg (crs v q) ≤ arow v C) : mg (nd n q) ≤ spr C n.1 n.2 := by
  have id : ∀ x, crs u v * nd n x = nd n v * crs u x - nd n u * crs v x := by intro x; unfold crs cr nd dt; grind
  have tot : ∀ m : List P2, (∀ c ∈ m, (nd n u * nd n v) * (crs u c * crs v c) ≤ 0) → mg (crs u v) * spr m n.1 n.2 = mg (nd n v) * arow u m + mg (nd n u) * arow v m := by
    intro m hm
    induction m with
    | nil => simp [spr, arow]
    | cons c t ih =>
      have h1 := hm c List.mem_cons_self
      have e : mg (crs u v * nd n c) = mg (nd n v * crs u c) + mg (nd n u * crs v c) := by
        rw [id c]
        refine mg_opp ?_
        have : nd n v * crs u c * (nd n u * crs v c) = (nd n u * nd n v) * (crs u c * crs v c) := by grind
        omega
      rw [spr_cons, arow_cons, arow_cons, Int.mul_add, Int.mul_add, Int.mul_add, ih (fun c hc => hm c (List.mem_cons_of_mem _ hc)), ← mg_mul, ← mg_mul, ← mg_mul, e]
      omega
  refine le_of_mul (mg_pos hD) ?_
  rw [tot C hs, ← mg_mul, id q]
  have a1 := Int.mul_le_mul_of_nonneg_left hu (mg_nonneg (nd n v))
  have a2 := Int.mul_le_mul_of_nonneg_left hv (mg_nonneg (nd n u))
  rw [← mg_mul] at a1 a2
  have a3 := mg_tri (nd n v * crs u q) (-(nd n u * crs v q))
  rw [mg_neg, ← Int.sub_eq_add_neg] at a3
  omega
theorem adj_pos {f : P2 → Int} {a : P2} {l : List P2} (h : ∀ A u v B, a :: l = A ++ u :: v :: B → 0 < f u * f v) : ∀ x ∈ l, 0 < f a * f x := by
  induction l generalizing a with
  | nil => simp
  | cons b t ih =>
    have h1 := h [] a b t rfl
    have h2 := ih (a := b) (fun A u v B e => h (a :: A) u v B (by rw [e]; rfl))
    intro x hx
    rcases List.mem_cons.mp hx with rfl | hx
    · exact h1
    · have h3 := h2 x hx
      have h4 := Int.mul_pos h1 h3
      have e : f a * f b * (f b * f x) = (f b * f b) * (f a * f x) := by grind
      rw [e] at h4
      have h5 := mul_self_nonneg' (f b)
      rcases Int.lt_or_le 0 (f a * f x) with h6 | h6
      · exact h6
      · have := Int.mul_nonpos_of_nonneg_of_nonpos h5 h6; omega
theorem ss_adj {A B : List P2} {u v : P2} (hs : SS (A ++ u :: v :: B)) : 0 < crs u v ∧ ∀ c ∈ A ++ u :: v :: B, 0 ≤ crs u c * crs v c := by
  unfold SS at hs
  rw [List.pairwise_append] at hs
  obtain ⟨_, h2, h3⟩ := hs
  obtain ⟨h4, h5⟩ := List.pairwise_cons.mp h2
  obtain ⟨h6, _⟩ := List.pairwise_cons.mp h5
  refine ⟨h4 v (by simp), fun c hc => ?_⟩
  rcases List.mem_append.mp hc with h | h
  · have a := h3 c h u (by simp)
    have b := h3 c h v (by simp)
    rw [crs_neg c u, crs_neg c v, Int.neg_mul_neg]
    exact Int.mul_nonneg (by omega) (by omega)
  · rcases List.mem_cons.mp h with rfl | h
    · rw [crs_self]; simp
    · rcases List.mem_cons.mp h with rfl | h
      · rw [crs_self]; simp
      · have a := h4 c (by simp [h])
        have b := h6 c h
        exact Int.mul_nonneg (by omega) (by omega)
theorem mem_last {l : List P2} (h : l ≠ []) : ∃ M z, l = M ++ [z] := by
  rcases List.eq_nil_or_concat l with h2 | ⟨M, z, h2⟩
  · exact absurd h2 h
  · exact ⟨M, z, by rw [h2]; simp⟩
/-- Two directions or more: the edges' conditions are those of all directions. -/
theorem edges_two {a b : P2} {t : List P2} {q : P2} (hs : SS (a :: b :: t)) (hu : ∀ x ∈ a :: b :: t, Up x) (he : ∀ c ∈ a :: b :: t, mg (crs c q) ≤ arow c (a :: b :: t)) : Hl (a :: b :: t) q := by
  intro n
  by_cases hx : ∃ A u v B, a :: b :: t = A ++ u :: v :: B ∧ nd n u * nd n v ≤ 0
  · obtain ⟨A, u, v, B, e, hn⟩ := hx
    have hs' : SS (A ++ u :: v :: B) := e ▸ hs
    obtain ⟨h1, h2⟩ := ss_adj hs'
    refine pair_dir (u := u) (v := v) (by omega) (fun c hc => ?_) (he u (by rw [e]; simp)) (he v (by rw [e]; simp))
    exact Int.mul_nonpos_of_nonpos_of_nonneg hn (h2 c (e ▸ hc))
  · have hp : ∀ A u v B, a :: b :: t = A ++ u :: v :: B → 0 < nd n u * nd n v := fun A u v B e => by
      rcases Int.lt_or_le 0 (nd n u * nd n v) with h | h
      · exact h
      · exact absurd ⟨A, u, v, B, e, h⟩ hx
    obtain ⟨M, z, ez⟩ := mem_last (l := b :: t) (by simp)
    have hz := adj_pos (f := nd n) hp z (by rw [ez]; simp)
    rw [ez] at hs he ⊢
    obtain ⟨h1, h2⟩ := List.pairwise_cons.mp hs
    rw [List.pairwise_append] at h2
    obtain ⟨_, _, h3⟩ := h2
    have haz := h1 z (by simp)
    refine pair_dir (u := a) (v := z) (by omega) (fun c hc => ?_) (he a (by simp)) (he z (by simp))
    refine Int.mul_nonpos_of_nonneg_of_nonpos (Int.le_of_lt hz) ?_
    rcases List.mem_cons.mp hc with rfl | hc
    · rw [crs_self]; simp
    · rcases List.mem_append.mp hc with h | h
      · have k1 := h1 c (by simp [h])
        have k2 := h3 c h z (by simp)
        rw [crs_neg c z]
        exact Int.mul_nonpos_of_nonneg_of_nonpos (by omega) (by omega)
      · simp at h; subst h; rw [crs_self]; simp
/-- The edges' conditions are those of all directions. -/
theorem edges_all {C : List P2} {q : P2} (hs : SS C) (hu : ∀ x ∈ C, Up x) (ax : mg q.1 ≤ spr C 1 0) (ay : mg q.2 ≤ spr C 0 1) (he : ∀ c ∈ C, mg (crs c q) ≤ arow c C) : Hl C q := by
  match C, hs, hu, ax, ay, he with
  | [], _, _, ax, ay, _ =>
    intro n
    rw [spr_nil] at *
    have h1 := mg_zero ax
    have h2 := mg_zero ay
    unfold nd dt
    rw [h1, h2]
    simp [mg]
  | [c], _, hu, ax, ay, he =>
    intro n
    have h0 := he c (by simp)
    have e0 : arow c [c] = 0 := by simp [arow, crs_self, mg]
    rw [e0] at h0
    have hc := mg_zero h0
    rw [spr_cons, spr_nil]
    have e1 : spr [c] 1 0 = mg c.1 := by simp [spr, dt]
    have e2 : spr [c] 0 1 = mg c.2 := by simp [spr, dt]
    rw [e1] at ax
    rw [e2] at ay
    unfold crs cr at hc
    have fin : ∀ k m : Int, k ≠ 0 → mg m ≤ mg k → k * nd n q = m * nd n c → mg (nd n q) ≤ mg (nd n c) + 0 := by
      intro k m hk hm e
      refine le_of_mul (mg_pos hk) ?_
      rw [Int.add_zero, ← mg_mul, e, mg_mul]
      exact Int.mul_le_mul_of_nonneg_right hm (mg_nonneg _)
    rcases Classical.em (c.1 = 0) with h1 | h1
    · have h2 : c.2 ≠ 0 := fun h2 => up_ne (hu c (by simp)) (Prod.ext h1 h2)
      exact fin c.2 q.2 h2 ay (by unfold nd dt; grind)
    · exact fin c.1 q.1 h1 ax (by unfold nd dt; grind)
  | a :: b :: t, hs, hu, _, _, he => exact edges_two hs hu he
/-- The program's conditions are those of all directions. -/
theorem Rc_iff (l : List P2) (q : P2) : Rc l q.1 q.2 ↔ Hl l q := by
  have eq1 : ∀ g : P2, dt (-g.2) g.1 q.1 q.2 = crs g q := fun g => by unfold dt crs cr; rw [Int.neg_mul]; omega
  constructor
  · rintro ⟨h1, h2, h3⟩
    have he : ∀ g ∈ l, mg (crs g q) ≤ arow g l := fun g hg => by
      rw [List.any_eq_false] at h3
      have := h3 g hg
      unfold beyB at this
      rw [eq1] at this
      rw [arow_spr]
      simp at this
      exact this
    have := edges_all (C := canL l) (q := q) (canL_ss l) (canL_up l) (by rw [spr_can]; exact h1) (by rw [spr_can]; exact h2) (fun c hc => by
      obtain ⟨g, hg, g0, gc⟩ := can_from l c hc
      have := par_edge g0 gc (he g hg)
      rw [arow_spr] at this ⊢
      rw [spr_can]
      exact this)
    intro n
    rw [← spr_can]
    exact this n
  · intro h
    refine ⟨?_, ?_, ?_⟩
    · have := h (1, 0); unfold nd dt at this; simpa using this
    · have := h (0, 1); unfold nd dt at this; simpa using this
    · rw [List.any_eq_false]
      intro g hg
      unfold beyB
      simp
      exact h (-g.2, g.1)
/-- Sums along a list. -/
def sn (n : P2) (l : List P2) : Int := (l.map (nd n)).sum
theorem sn_cons (n p : P2) (l : List P2) : sn n (p :: l) = nd n p + sn n l := rfl
theorem sn_append (n : P2) (l m : List P2) : sn n (l ++ m) = sn n l + sn n m := by simp [sn]
theorem sn_le (n : P2) (l : List P2) : mg (sn n l) ≤ spr l n.1 n.2 := by
  induction l with
  | nil => exact Int.le_refl _
  | cons p t ih => rw [sn_cons, spr_cons]; have := mg_tri (nd n p) (sn n t); omega
theorem sn_pos {n : P2} {l : List P2} (h : ∀ x ∈ l, 0 ≤ nd n x) : spr l n.1 n.2 = sn n l := by
  induction l with
  | nil => rfl
  | cons p t ih =>
    have h1 := h p List.mem_cons_self
    rw [sn_cons, spr_cons, ih (fun x hx => h x (List.mem_cons_of_mem _ hx))]
    rcases mg_cs (nd n p) with ⟨e, _⟩ | ⟨e, _⟩ <;> omega
theorem sn_npos {n : P2} {l : List P2} (h : ∀ x ∈ l, nd n x ≤ 0) : spr l n.1 n.2 = - sn n l := by
  induction l with
  | nil => rfl
  | cons p t ih =>
    have h1 := h p List.mem_cons_self
    rw [sn_cons, spr_cons, ih (fun x hx => h x (List.mem_cons_of_mem _ hx))]
    rcases mg_cs (nd n p) with ⟨e, _⟩ | ⟨e, _⟩ <;> omega
theorem nd_mvp (n a : P2) (s : Int) (l : List P2) (k : Nat) (hk : k ≤ l.length) : nd n (mvp a s l k) = nd n a + s * sn n (l.take k) := by
  induction k with
  | zero => simp [mvp, sn]
  | succ k ih =>
    have h1 := ih (by omega)
    have e : mvp a s l (k + 1) = addP (mvp a s l k) (s * (l.getD k z2).1, s * (l.getD k z2).2) := rfl
    rw [e, nd_add, h1, take_snoc l z2 (show k < l.length by omega), sn_append, Int.mul_add]
    have e2 : nd n (s * (l.getD k z2).1, s * (l.getD k z2).2) = s * nd n (l.getD k z2) := by unfold nd dt; grind
    have e3 : sn n [l.getD k z2] = nd n (l.getD k z2) := by simp [sn]
    rw [e2, e3]
    omega
theorem nd_ext {p q : P2} (h : ∀ n, nd n p = nd n q) : p = q := by
  have h1 := h (1, 0)
  have h2 := h (0, 1)
  unfold nd dt at h1 h2
  exact Prod.ext (by simpa using h1) (by simpa using h2)
/-- The corners by their numbers. -/
def c0 (z : P2) (C : List P2) : P2 := mvp z (-1) C C.length
def cor (z : P2) (C : List P2) (i : Nat) : P2 := if i ≤ C.length then mvp (c0 z C) 2 C i else mvp (mvp (c0 z C) 2 C C.length) (-2) C (i - C.length)
theorem nd_lo (n z : P2) (C : List P2) {i : Nat} (h : i ≤ C.length) : nd n (cor z C i) = nd n z - sn n C + 2 * sn n (C.take i) := by
  unfold cor c0
  rw [if_pos h, nd_mvp _ _ _ _ _ h, nd_mvp _ _ _ _ _ (Nat.le_refl _), List.take_length]
  omega
theorem nd_hi (n z : P2) (C : List P2) {i : Nat} (h : i ≤ C.length) : nd n (cor z C (C.length + i)) = nd n z + sn n C - 2 * sn n (C.take i) := by
  by_cases h0 : i = 0
  · subst h0
    rw [Nat.add_zero, nd_lo _ _ _ (Nat.le_refl _), List.take_length]
    simp [sn]
    omega
  · unfold cor c0
    rw [if_neg (by omega), Nat.add_sub_cancel_left, nd_mvp _ _ _ _ _ h, nd_mvp _ _ _ _ _ (Nat.le_refl _), nd_mvp _ _ _ _ _ (Nat.le_refl _), List.take_length]
    omega
theorem cor_end (z : P2) (C : List P2) : cor z C (C.length + C.length) = cor z C 0 := nd_ext fun n => by
  rw [nd_hi n z C (Nat.le_refl _), nd_lo n z C (Nat.zero_le _), List.take_length]
  simp [sn]
  omega
theorem vis_get (a : P2) (s : Int) (l : List P2) (k i : Nat) (h : i < (vis a s l k).length) : (vis a s l k)[i] = mvp a s l (i + 1) := by
  induction k with
  | zero => simp [vis] at h
  | succ k ih =>
    have e : vis a s l (k + 1) = vis a s l k ++ [mvp a s l (k + 1)] := rfl
    simp only [e]
    rw [List.getElem_append]
    split
    · rename_i h1; exact ih h1
    · rename_i h1
      rw [vis_len] at h1
      rw [vis_len] at h
      have : i = k := by omega
      subst this
      simp
theorem corn_len (z : P2) (C : List P2) : (cornL z C).length = max 1 (2 * C.length) := by
  unfold cornL cornW
  simp [vis_len]
  omega
theorem cornW_get (z : P2) (C : List P2) (i : Nat) (h : i < (cornW z C).length) : (cornW z C)[i] = cor z C i := by
  have hl : (cornW z C).length = 1 + C.length + C.length := by unfold cornW; simp [vis_len]; omega
  have hi : i < 1 + C.length + C.length := by omega
  clear hl
  revert h
  unfold cornW
  intro h
  rw [List.getElem_append]
  split
  · rename_i h1
    simp [vis_len] at h1
    rw [List.getElem_append]
    split
    · rename_i h2
      simp at h2
      subst h2
      simp [cor, c0, mvp]
    · rename_i h2
      simp at h2
      rw [vis_get]
      unfold cor c0
      simp
      rw [if_pos (by omega)]
      congr 1
      omega
  · rename_i h1
    simp [vis_len] at h1
    rw [vis_get]
    unfold cor c0
    simp [vis_len]
    rw [if_neg (by omega)]
    congr 1
    omega
theorem corn_get (z : P2) (C : List P2) (i : Nat) (h : i < max 1 (2 * C.length)) : (cornL z C).getD i z2 = cor z C i := by
  have hl := corn_len z C
  have h1 : i < (cornL z C).length := by omega
  rw [List.getD_eq_getElem?_getD, List.getElem?_eq_getElem h1]
  simp only [Option.getD_some]
  have e : (cornL z C)[i]? = (cornW z C)[i]? := by
    unfold cornL
    rw [List.getElem?_take]
    unfold cornL at h1
    rw [List.length_take] at h1
    rw [if_pos (by omega)]
  have h2 : i < (cornW z C).length := by
    unfold cornL at h1
    rw [List.length_take] at h1
    omega
  rw [List.getElem?_eq_getElem h1, List.getElem?_eq_getElem h2] at e
  injection e with e
  rw [e]
  exact cornW_get z C i h2
def subP (a b : P2) : P2 := (a.1 - b.1, a.2 - b.2)
theorem nd_sub (n a b : P2) : nd n (subP a b) = nd n a - nd n b := by unfold nd dt subP; simp only [Int.mul_sub]; omega
theorem crs_nd (g x : P2) : crs g x = nd (-g.2, g.1) x := by unfold crs cr nd dt; simp only [Int.neg_mul]; omega
/-- One corner of the test whether a point is in a hull fails. -/
def badC (L : List P2) (p : P2) (i : Nat) : Prop :=
  let a := L.getD i z2
  let b := L.getD ((i + 1) % L.length) z2
  crs (subP b a) (subP p a) < 0 ∨ (L.length ≤ 2 ∧ (crs (subP b a) (subP p a) ≠ 0 ∨ nd (subP b a) (subP p a) < 0 ∨ (L.length = 1 ∧ p ≠ a)))
instance (L : List P2) (p : P2) (i : Nat) : Decidable (badC L p i) := by unfold badC; infer_instance
def inL (L : List P2) (p : P2) : Prop := ∀ i, i < L.length → ¬ badC L p i
instance (L : List P2) (p : P2) : Decidable (inL L p) := by unfold inL; infer_instance
theorem take_get (C : List P2) {i : Nat} (h : i < C.length) : C = C.take i ++ C.getD i z2 :: C.drop (i + 1) := by
  rw [List.getD_eq_getElem?_getD, List.getElem?_eq_getElem h]
  simp
theorem step_lo (z : P2) (C : List P2) {i : Nat} (h : i < C.length) : subP (cor z C (i + 1)) (cor z C i) = (2 * (C.getD i z2).1, 2 * (C.getD i z2).2) := nd_ext fun n => by
  rw [nd_sub, nd_lo n z C (show i + 1 ≤ C.length by omega), nd_lo n z C (Nat.le_of_lt h), take_snoc C z2 h, sn_append]
  have e3 : sn n [C.getD i z2] = nd n (C.getD i z2) := by simp [sn]
  rw [e3]
  unfold nd dt
  grind
theorem step_hi (z : P2) (C : List P2) {i : Nat} (h : i < C.length) : subP (cor z C (C.length + i + 1)) (cor z C (C.length + i)) = (-2 * (C.getD i z2).1, -2 * (C.getD i z2).2) := nd_ext fun n => by
  rw [Nat.add_assoc, nd_sub, nd_hi n z C (show i + 1 ≤ C.length by omega), nd_hi n z C (Nat.le_of_lt h), take_snoc C z2 h, sn_append]
  have e3 : sn n [C.getD i z2] = nd n (C.getD i z2) := by simp [sn]
  rw [e3]
  unfold nd dt
  grind
/-- Before an element the vectors lie to its right, behind it to its left. -/
theorem ss_split {C : List P2} (hs : SS C) {i : Nat} (h : i < C.length) : (∀ x ∈ C.take i, crs (C.getD i z2) x ≤ 0) ∧ ∀ x ∈ C.drop i, 0 ≤ crs (C.getD i z2) x := by
  have e := take_get C h
  have hs2 : SS (C.take i ++ C.getD i z2 :: C.drop (i + 1)) := e ▸ hs
  unfold SS at hs2
  rw [List.pairwise_append] at hs2
  obtain ⟨_, h2, h3⟩ := hs2
  obtain ⟨h4, _⟩ := List.pairwise_cons.mp h2
  refine ⟨fun x hx => ?_, fun x hx => ?_⟩
  · have := h3 x hx (C.getD i z2) (by simp)
    rw [crs_neg x]
    omega
  · have e2 : C.drop i = C.getD i z2 :: C.drop (i + 1) := by
      rw [List.getD_eq_getElem?_getD, List.getElem?_eq_getElem h]
      simp
    rw [e2] at hx
    rcases List.mem_cons.mp hx with rfl | hx
    · rw [crs_self]; exact Int.le_refl _
    · exact Int.le_of_lt (h4 x hx)
theorem spr_take (C : List P2) (n : P2) (i : Nat) : spr C n.1 n.2 = spr (C.take i) n.1 n.2 + spr (C.drop i) n.1 n.2 := by rw [← spr_append, List.take_append_drop]
theorem sn_take (C : List P2) (n : P2) (i : Nat) : sn n C = sn n (C.take i) + sn n (C.drop i) := by rw [← sn_append, List.take_append_drop]
/-- The corner at an edge lies as far as the spread on the edge's right. -/
theorem edge_lo (z : P2) {C : List P2} (hs : SS C) {i : Nat} (h : i < C.length) : crs (C.getD i z2) (cor z C i) = crs (C.getD i z2) z - arow (C.getD i z2) C := by
  obtain ⟨h1, h2⟩ := ss_split hs h
  generalize C.getD i z2 = g at *
  rw [crs_nd, crs_nd, arow_spr, nd_lo _ z C (Nat.le_of_lt h)]
  have e1 := sn_npos (n := (-g.2, g.1)) (l := C.take i) (fun x hx => by rw [← crs_nd]; exact h1 x hx)
  have e2 := sn_pos (n := (-g.2, g.1)) (l := C.drop i) (fun x hx => by rw [← crs_nd]; exact h2 x hx)
  have e3 := spr_take C (-g.2, g.1) i
  have e4 := sn_take C (-g.2, g.1) i
  simp only at *
  omega
theorem edge_hi (z : P2) {C : List P2} (hs : SS C) {i : Nat} (h : i < C.length) : crs (C.getD i z2) (cor z C (C.length + i)) = crs (C.getD i z2) z + arow (C.getD i z2) C := by
  obtain ⟨h1, h2⟩ := ss_split hs h
  generalize C.getD i z2 = g at *
  rw [crs_nd, crs_nd, arow_spr, nd_hi _ z C (Nat.le_of_lt h)]
  have e1 := sn_npos (n := (-g.2, g.1)) (l := C.take i) (fun x hx => by rw [← crs_nd]; exact h1 x hx)
  have e2 := sn_pos (n := (-g.2, g.1)) (l := C.drop i) (fun x hx => by rw [← crs_nd]; exact h2 x hx)
  have e3 := spr_take C (-g.2, g.1) i
  have e4 := sn_take C (-g.2, g.1) i
  simp only at *
  omega
theorem crs_mul (s : Int) (g x : P2) : crs (s * g.1, s * g.2) x = s * crs g x := by unfold crs cr; grind
theorem crs_sub (g x y : P2) : crs g (subP x y) = crs g x - crs g y := by rw [crs_nd, crs_nd, crs_nd, nd_sub]
theorem getD_of {C : List P2} {c : P2} (hc : c ∈ C) : ∃ i, i < C.length ∧ C.getD i z2 = c := by
  obtain ⟨i, h, e⟩ := List.mem_iff_getElem.mp hc
  exact ⟨i, h, by rw [List.getD_eq_getElem?_getD, List.getElem?_eq_getElem h]; exact e⟩
theorem wrap_lo {k i : Nat} (h : i < k) (hk : 1 < k) : (i + 1) % (2 * k) = i + 1 := Nat.mod_eq_of_lt (by omega)
/-- The corner behind corner i. -/
theorem corn_next (z : P2) (C : List P2) (h0 : 0 < C.length) (i : Nat) (h : i < 2 * C.length) : (cornL z C).getD ((i + 1) % (2 * C.length)) z2 = cor z C (i + 1) := by
  by_cases h1 : i + 1 < 2 * C.length
  · rw [Nat.mod_eq_of_lt h1, corn_get z C _ (by omega)]
  · have e : i + 1 = C.length + C.length := by omega
    rw [e, show C.length + C.length = 2 * C.length by omega, Nat.mod_self, corn_get z C 0 (by omega), ← cor_end, show C.length + C.length = 2 * C.length by omega]
theorem dtl (s : Int) (g x : P2) : nd (s * g.1, s * g.2) x = s * nd g x := by unfold nd dt; grind
/-- The reference's test by the corners is that of all directions. -/
theorem in_corn {C : List P2} (hs : SS C) (hu : ∀ x ∈ C, Up x) (z p : P2) : inL (cornL z C) p ↔ Hl C (subP p z) := by
  have hl := corn_len z C
  by_cases k0 : C.length = 0
  · obtain rfl := List.length_eq_zero_iff.mp k0
    have e0 : (cornL z []).getD 0 z2 = z := by rw [corn_get z [] 0 (by simp)]; rfl
    have e1 : (cornL z []).length = 1 := by rw [hl]; rfl
    constructor
    · intro h n
      have := h 0 (by omega)
      unfold badC at this
      simp only [e1, Nat.zero_add, Nat.mod_self, e0] at this
      have hz : p = z := by
        apply Classical.byContradiction
        intro hne
        exact this (.inr ⟨by omega, .inr (.inr ⟨by trivial, hne⟩)⟩)
      subst hz
      rw [spr_nil, nd_sub, Int.sub_self]
      exact Int.le_refl _
    · intro h i hi
      have hi0 : i = 0 := by omega
      subst hi0
      have hz : subP p z = (0, 0) := nd_ext fun n => by
        have h1 := mg_zero (h n)
        rw [h1]; simp [nd, dt]
      have hz2 : p = z := by unfold subP at hz; injection hz with h1 h2; exact Prod.ext (by omega) (by omega)
      subst hz2
      unfold badC
      simp only [e1, Nat.zero_add, Nat.mod_self, e0]
      have e2 : subP p p = (0, 0) := by unfold subP; simp
      have e3 : crs ((0, 0) : P2) (0, 0) = 0 := by decide
      have e4 : nd ((0, 0) : P2) (0, 0) = 0 := by decide
      rw [e2, e3, e4]
      simp
  · have hl2 : (cornL z C).length = 2 * C.length := by omega
    have A : ∀ i, i < C.length → badC (cornL z C) p i = (2 * (crs (C.getD i z2) (subP p z) + arow (C.getD i z2) C) < 0 ∨ (2 * C.length ≤ 2 ∧ (2 * (crs (C.getD i z2) (subP p z) + arow (C.getD i z2) C) ≠ 0 ∨ 2 * nd (C.getD i z2) (subP p (cor z C i)) < 0 ∨ (2 * C.length = 1 ∧ p ≠ cor z C i)))) := fun i hi => by
      have n1 := corn_next z C (by omega) i (by omega)
      have n2 := corn_get z C i (by omega)
      have e : crs (C.getD i z2) (subP p (cor z C i)) = crs (C.getD i z2) (subP p z) + arow (C.getD i z2) C := by rw [crs_sub, crs_sub, edge_lo z hs hi]; omega
      unfold badC
      simp only [hl2]
      rw [n1, n2, step_lo z C hi, crs_mul, dtl, e]
    have B : ∀ i, i < C.length → badC (cornL z C) p (C.length + i) = (-2 * (crs (C.getD i z2) (subP p z) - arow (C.getD i z2) C) < 0 ∨ (2 * C.length ≤ 2 ∧ (-2 * (crs (C.getD i z2) (subP p z) - arow (C.getD i z2) C) ≠ 0 ∨ -2 * nd (C.getD i z2) (subP p (cor z C (C.length + i))) < 0 ∨ (2 * C.length = 1 ∧ p ≠ cor z C (C.length + i))))) := fun i hi => by
      have n1 := corn_next z C (by omega) (C.length + i) (by omega)
      have n2 := corn_get z C (C.length + i) (by omega)
      have e : crs (C.getD i z2) (subP p (cor z C (C.length + i))) = crs (C.getD i z2) (subP p z) - arow (C.getD i z2) C := by rw [crs_sub, crs_sub, edge_hi z hs hi]; omega
      unfold badC
      simp only [hl2]
      rw [n1, n2, step_hi z C hi, crs_mul, dtl, e]
    have split : inL (cornL z C) p ↔ ∀ i, i < C.length → ¬ badC (cornL z C) p i ∧ ¬ badC (cornL z C) p (C.length + i) := by
      unfold inL
      rw [hl2]
      constructor
      · intro h i hi
        exact ⟨h i (by omega), h _ (by omega)⟩
      · intro h i hi
        by_cases hh : i < C.length
        · exact (h i hh).1
        · have := (h (i - C.length) (by omega)).2
          rwa [show C.length + (i - C.length) = i by omega] at this
    rw [split]
    by_cases k1 : C.length = 1
    · obtain ⟨g, rfl⟩ := List.length_eq_one_iff.mp k1
      have ge : [g].getD 0 z2 = g := rfl
      have ar : arow g [g] = 0 := by simp [arow, crs_self, mg]
      have w0 : nd g (cor z [g] 0) = nd g z - nd g g := by rw [nd_lo g z [g] (by simp)]; simp [sn]
      have w1 : nd g (cor z [g] 1) = nd g z + nd g g := by
        have := nd_lo g z [g] (i := 1) (by simp)
        rw [this]; simp [sn]; omega
      have gg : 0 < nd g g := by
        have := hu g (by simp)
        have h1 := mul_self_nonneg' g.1
        have h2 := mul_self_nonneg' g.2
        unfold nd dt
        rcases Classical.em (g.1 = 0) with e | e
        · have e2 : g.2 ≠ 0 := fun e2 => up_ne this (Prod.ext e e2)
          have := mul_self_pos' e2; omega
        · have := mul_self_pos' e; omega
      have hA := A 0 (by simp)
      have hB := B 0 (by simp)
      rw [ge, ar, nd_sub, w0] at hA
      rw [ge, ar, nd_sub] at hB
      simp only [List.length_singleton, Nat.add_zero] at hA hB
      rw [w1] at hB
      have key : (∀ i, i < [g].length → ¬ badC (cornL z [g]) p i ∧ ¬ badC (cornL z [g]) p ([g].length + i)) ↔ crs g (subP p z) = 0 ∧ mg (nd g (subP p z)) ≤ nd g g := by
        have e1 := nd_sub g p z
        constructor
        · intro h
          obtain ⟨h1, h2⟩ := h 0 (by simp)
          simp only [List.length_singleton, Nat.add_zero] at h2
          rw [hA] at h1
          rw [hB] at h2
          generalize crs g (subP p z) = X at *
          simp only [Nat.mul_one, Nat.le_refl, true_and, not_or] at h1 h2
          refine ⟨by omega, ?_⟩
          rcases mg_cs (nd g (subP p z)) with ⟨e, _⟩ | ⟨e, _⟩ <;> omega
        · rintro ⟨h1, h2⟩ i hi
          simp only [List.length_singleton] at hi
          have : i = 0 := by omega
          subst this
          simp only [List.length_singleton, Nat.add_zero]
          rw [hA, hB, h1]
          have h3 : -nd g g ≤ nd g (subP p z) ∧ nd g (subP p z) ≤ nd g g := by rcases mg_cs (nd g (subP p z)) with ⟨e, _⟩ | ⟨e, _⟩ <;> omega
          generalize nd g g = G at *
          generalize nd g (subP p z) = Y at *
          constructor
          · rintro (h | ⟨_, h | h | h⟩)
            · omega
            · omega
            · omega
            · omega
          · rintro (h | ⟨_, h | h | h⟩)
            · omega
            · omega
            · omega
            · omega
      rw [key]
      constructor
      · rintro ⟨h1, h2⟩ n
        generalize subP p z = q at *
        have e : nd g g * nd n q = nd g q * nd n g := by unfold crs cr at h1; unfold nd dt; grind
        refine le_of_mul gg ?_
        rw [spr_cons, spr_nil, Int.add_zero]
        have e2 := mg_mul (nd g g) (nd n q)
        have e3 : mg (nd g g) = nd g g := by rcases mg_cs (nd g g) with ⟨e, _⟩ | ⟨e, _⟩ <;> omega
        rw [e3] at e2
        rw [← e2, e, mg_mul]
        exact Int.mul_le_mul_of_nonneg_right h2 (mg_nonneg _)
      · intro h
        refine ⟨?_, ?_⟩
        · have h1 := h (-g.2, g.1)
          rw [spr_cons, spr_nil, ← crs_nd, ← crs_nd, crs_self] at h1
          exact mg_zero h1
        · have h1 := h g
          rw [spr_cons, spr_nil] at h1
          have e3 : mg (nd g g) = nd g g := by rcases mg_cs (nd g g) with ⟨e, _⟩ | ⟨e, _⟩ <;> omega
          omega
    · have two : (∀ i, i < C.length → ¬ badC (cornL z C) p i ∧ ¬ badC (cornL z C) p (C.length + i)) ↔ ∀ c ∈ C, mg (crs c (subP p z)) ≤ arow c C := by
        constructor
        · intro h c hc
          obtain ⟨i, hi, e⟩ := getD_of hc
          obtain ⟨h1, h2⟩ := h i hi
          rw [A i hi, e] at h1
          rw [B i hi, e] at h2
          generalize crs c (subP p z) = X at *
          generalize arow c C = R at *
          have h3 : ¬ 2 * (X + R) < 0 := fun h => h1 (.inl h)
          have h4 : ¬ -2 * (X - R) < 0 := fun h => h2 (.inl h)
          rcases mg_cs X with ⟨e, _⟩ | ⟨e, _⟩ <;> omega
        · intro h i hi
          have h1 := h _ (getD_mem (z := z2) hi)
          rw [A i hi, B i hi]
          generalize crs (C.getD i z2) (subP p z) = X at *
          generalize arow (C.getD i z2) C = R at *
          constructor
          · rintro (h | ⟨h, _⟩)
            · rcases mg_cs X with ⟨e, _⟩ | ⟨e, _⟩ <;> omega
            · omega
          · rintro (h | ⟨h, _⟩)
            · rcases mg_cs X with ⟨e, _⟩ | ⟨e, _⟩ <;> omega
            · omega
      rw [two]
      constructor
      · intro h
        match C, hs, hu, h, k0, k1 with
        | [], _, _, _, k0, _ => exact absurd rfl k0
        | [c], _, _, _, _, k1 => exact absurd rfl k1
        | a :: b :: t, hs, hu, h, _, _ => exact edges_two hs hu h
      · intro h c hc
        have := h (-c.2, c.1)
        rw [← crs_nd] at this
        rwa [arow_spr]
/-- Along a strictly sorted list the products with a vector change their sign at most once. -/
theorem sign_once {C : List P2} (hs : SS C) (n : P2) : ∃ A B, C = A ++ B ∧ (((∀ a ∈ A, 0 ≤ nd n a) ∧ ∀ b ∈ B, nd n b ≤ 0) ∨ ((∀ a ∈ A, nd n a ≤ 0) ∧ ∀ b ∈ B, 0 ≤ nd n b)) := by
  induction C with
  | nil => exact ⟨[], [], rfl, .inl ⟨by simp, by simp⟩⟩
  | cons c t ih =>
    obtain ⟨hp, ht⟩ := List.pairwise_cons.mp hs
    obtain ⟨A, B, rfl, h⟩ := ih ht
    have three : ∀ a b, nd n a * crs c b = nd n c * crs a b + nd n b * crs c a := fun a b => by unfold nd dt crs cr; grind
    rw [List.pairwise_append] at ht
    obtain ⟨_, _, hAB⟩ := ht
    have cons : ∀ (P : P2 → Prop) (l : List P2), P c → (∀ x ∈ l, P x) → ∀ x ∈ c :: l, P x := fun P l h1 h2 x hx => by
      rcases List.mem_cons.mp hx with rfl | hx
      · exact h1
      · exact h2 x hx
    have app : ∀ (P : P2 → Prop), (∀ x ∈ A, P x) → (∀ x ∈ B, P x) → ∀ x ∈ A ++ B, P x := fun P h1 h2 x hx => by
      rcases List.mem_append.mp hx with h | h
      · exact h1 x h
      · exact h2 x h
    rcases h with ⟨hA, hB⟩ | ⟨hA, hB⟩
    · rcases Int.lt_or_le (nd n c) 0 with h0 | h0
      · match A, hA, hAB, hp, app with
        | [], _, _, _, app => exact ⟨[c] ++ B, [], by simp, .inr ⟨cons _ _ (Int.le_of_lt h0) hB, by simp⟩⟩
        | a :: A', hA, hAB, hp, app =>
          match B, hB, hAB, hp, app with
          | [], _, _, _, app => exact ⟨[c], a :: A', by simp, .inr ⟨by simp; omega, hA⟩⟩
          | b :: B', hB, hAB, hp, app =>
            exfalso
            have e := three a b
            have h1 := hA a (by simp)
            have h2 := hB b (by simp)
            have h3 := hAB a (by simp) b (by simp)
            have h4 := hp a (by simp)
            have h5 := hp b (by simp)
            have k1 := Int.mul_nonneg h1 (Int.le_of_lt h5)
            have k2 := Int.mul_neg_of_neg_of_pos h0 h3
            have k3 := Int.mul_nonpos_of_nonpos_of_nonneg h2 (Int.le_of_lt h4)
            omega
      · exact ⟨c :: A, B, rfl, .inl ⟨cons _ _ h0 hA, hB⟩⟩
    · rcases Int.lt_or_le 0 (nd n c) with h0 | h0
      · match A, hA, hAB, hp, app with
        | [], _, _, _, app => exact ⟨[c] ++ B, [], by simp, .inl ⟨cons (fun x => 0 ≤ nd n x) _ (Int.le_of_lt h0) hB, by simp⟩⟩
        | a :: A', hA, hAB, hp, app =>
          match B, hB, hAB, hp, app with
          | [], _, _, _, app => exact ⟨[c], a :: A', by simp, .inl ⟨by simp; omega, hA⟩⟩
          | b :: B', hB, hAB, hp, app =>
            exfalso
            have e := three a b
            have h1 := hA a (by simp)
            have h2 := hB b (by simp)
            have h3 := hAB a (by simp) b (by simp)
            have h4 := hp a (by simp)
            have h5 := hp b (by simp)
            have k1 := Int.mul_nonpos_of_nonpos_of_nonneg h1 (Int.le_of_lt h5)
            have k2 := Int.mul_pos h0 h3
            have k3 := Int.mul_nonneg h2 (Int.le_of_lt h4)
            omega
      · exact ⟨c :: A, B, rfl, .inr ⟨cons (fun x => nd n x ≤ 0) _ h0 hA, hB⟩⟩
/-- No corner is beyond the spread. -/
theorem cor_le (n z : P2) (C : List P2) (i : Nat) (h : i ≤ C.length + C.length) : nd n (cor z C i) ≤ nd n z + spr C n.1 n.2 := by
  by_cases h1 : i ≤ C.length
  · rw [nd_lo n z C h1]
    have a := sn_le n (C.take i)
    have b := sn_le n (C.drop i)
    have e := spr_take C n i
    have e2 := sn_take C n i
    have c1 := mg_cs (sn n (C.take i))
    have c2 := mg_cs (sn n (C.drop i))
    omega
  · obtain ⟨j, rfl⟩ : ∃ j, i = C.length + j := ⟨i - C.length, by omega⟩
    rw [nd_hi n z C (by omega)]
    have a := sn_le n (C.take j)
    have b := sn_le n (C.drop j)
    have e := spr_take C n j
    have e2 := sn_take C n j
    have c1 := mg_cs (sn n (C.take j))
    have c2 := mg_cs (sn n (C.drop j))
    omega
/-- Some corner is as far as the spread. -/
theorem cor_max (n z : P2) {C : List P2} (hs : SS C) : ∃ i, i < max 1 (2 * C.length) ∧ nd n (cor z C i) = nd n z + spr C n.1 n.2 := by
  obtain ⟨A, B, e, h⟩ := sign_once hs n
  have lA : A.length ≤ C.length := by rw [e]; simp
  have tA : C.take A.length = A := by rw [e]; simp
  have dA : C.drop A.length = B := by rw [e]; simp
  have e1 := spr_take C n A.length
  have e2 := sn_take C n A.length
  rw [tA, dA] at e1 e2
  rcases h with ⟨hA, hB⟩ | ⟨hA, hB⟩
  · have p1 := sn_pos hA
    have p2 := sn_npos hB
    have r := nd_lo n z C lA
    rw [tA] at r
    exact ⟨A.length, by omega, by omega⟩
  · have p1 := sn_npos hA
    have p2 := sn_pos hB
    have r := nd_hi n z C lA
    rw [tA] at r
    by_cases h0 : A.length < C.length
    · exact ⟨C.length + A.length, by omega, by omega⟩
    · have ez : A.length = C.length := by omega
      rw [ez, cor_end] at r
      exact ⟨0, by omega, by omega⟩
/-- The greatest product of the first points. -/
def mxl (n : P2) (L : List P2) : Nat → Int
  | 0 => nd n (L.getD 0 z2)
  | k + 1 => if mxl n L k < nd n (L.getD k z2) then nd n (L.getD k z2) else mxl n L k
theorem mxl_ge (n : P2) (L : List P2) (k : Nat) : ∀ i, i < k → nd n (L.getD i z2) ≤ mxl n L k := by
  induction k with
  | zero => intro i hi; omega
  | succ k ih =>
    intro i hi
    unfold mxl
    by_cases h : i < k
    · have := ih i h; split <;> omega
    · have : i = k := by omega
      subst this
      split <;> omega
theorem mxl_le {n : P2} {L : List P2} {M : Int} (h0 : 0 < L.length) (k : Nat) (hk : k ≤ L.length) (h : ∀ i, i < L.length → nd n (L.getD i z2) ≤ M) : mxl n L k ≤ M := by
  induction k with
  | zero => exact h 0 h0
  | succ k ih =>
    have h1 := ih (by omega)
    have h2 := h k (by omega)
    unfold mxl
    split <;> omega
/-- The greatest product of the corners is the support. -/
theorem sup_corn (n z : P2) {C : List P2} (hs : SS C) : mxl n (cornL z C) (cornL z C).length = nd n z + spr C n.1 n.2 := by
  have hl := corn_len z C
  refine Int.le_antisymm ?_ ?_
  · refine mxl_le (by omega) _ (Nat.le_refl _) (fun i hi => ?_)
    rw [corn_get z C i (by omega)]
    exact cor_le n z C i (by omega)
  · obtain ⟨i, hi, e⟩ := cor_max n z hs
    rw [← e, ← corn_get z C i hi]
    exact mxl_ge n _ _ i (by omega)
/-- The areas of the parallelograms of all pairs. -/
def pr : List P2 → Int
  | [] => 0
  | x :: t => arow x t + pr t
theorem arow_append (g : P2) (l m : List P2) : arow g (l ++ m) = arow g l + arow g m := by simp [arow]
theorem mg_crs (a b : P2) : mg (crs a b) = mg (crs b a) := by rw [crs_neg a b, mg_neg]
theorem pr_snoc (l : List P2) (x : P2) : pr (l ++ [x]) = pr l + arow x l := by
  induction l with
  | nil => simp [pr, arow]
  | cons y t ih =>
    have e : pr (y :: t ++ [x]) = arow y (t ++ [x]) + pr (t ++ [x]) := rfl
    have e2 : pr (y :: t) = arow y t + pr t := rfl
    have e3 : arow y [x] = mg (crs y x) := by simp [arow]
    rw [e, e2, ih, arow_append, e3, arow_cons, mg_crs x y]
    omega
theorem areaN_pr (l : List P2) (k : Nat) (hk : k ≤ l.length) : areaN l k = pr (l.take k) := by
  induction k with
  | zero => rfl
  | succ k ih =>
    rw [take_snoc l z2 (show k < l.length by omega), pr_snoc, ← ih (by omega)]
    rfl
theorem areaL_pr (l : List P2) : areaL l = pr l := by
  unfold areaL
  rw [areaN_pr l _ (Nat.le_refl _), List.take_length]
theorem putD_pr {g : P2} {l : List P2} (hl : ∀ x ∈ l, Up x) (hg : Up g) (hs : SS l) : pr (putD g false l) = pr l + arow g l := by
  induction l with
  | nil => simp [putD, pr, arow]
  | cons h t ih =>
    obtain ⟨hp, ht⟩ := List.pairwise_cons.mp hs
    have hh := hl h List.mem_cons_self
    have hlt := fun x hx => hl x (List.mem_cons_of_mem h hx)
    have e2 : ∀ y (u : List P2), pr (y :: u) = arow y u + pr u := fun y u => rfl
    unfold putD
    by_cases c0 : crs g h = 0
    · rw [if_pos c0]
      have hgx : ∀ x ∈ t, 0 < crs g x := fun x hx => (crs_par hg hh (hlt x hx) c0).2.1.mpr (hp x hx)
      rw [putD_same (fun x hx => by have := hgx x hx; omega), e2, e2, arow_cons, c0]
      have key : ∀ m : List P2, (∀ x ∈ m, 0 < crs g x ∧ 0 < crs h x) → arow (addP h g) m = arow h m + arow g m := by
        intro m hm
        induction m with
        | nil => rfl
        | cons x u ihm =>
          obtain ⟨q1, q2⟩ := hm x List.mem_cons_self
          rw [arow_cons, arow_cons, arow_cons, ihm (fun y hy => hm y (List.mem_cons_of_mem _ hy)), crs_addl]
          have c1 := mg_cs (crs h x + crs g x)
          have c2 := mg_cs (crs h x)
          have c3 := mg_cs (crs g x)
          omega
      rw [key t (fun x hx => ⟨hgx x hx, hp x hx⟩)]
      have : mg 0 = 0 := rfl
      omega
    · rw [if_neg c0]
      by_cases c1 : 0 < crs g h
      · rw [if_pos ⟨c1, rfl⟩]
        have hgx : ∀ x ∈ t, 0 < crs g x := fun x hx => crs_ltle hg hh (hlt x hx) c1 (Int.le_of_lt (hp x hx))
        rw [putD_same (fun x hx => by have := hgx x hx; omega), e2 g]
        omega
      · rw [if_neg (by simp [c1]), e2, e2, ih hlt ht, arow_spr, putD_spr (-h.2, h.1) hlt hg ht, ← arow_spr, ← crs_nd, arow_cons, mg_crs g h]
        omega
theorem arow_can (g : P2) (l : List P2) : arow g (canL l) = arow g l := by rw [arow_spr, arow_spr, spr_can]
theorem arow_upP (p : P2) (l : List P2) : arow (upP p) l = arow p l := by
  induction l with
  | nil => rfl
  | cons x t ih =>
    rw [arow_cons, arow_cons, ih, mg_crs, mg_crs p, crs_nd x, nd_upP, ← crs_nd]
theorem pr_can_take (l : List P2) (k : Nat) : pr (canL (l.take k)) = pr (l.take k) := by
  induction k with
  | zero => rfl
  | succ k ih =>
    rcases Nat.lt_or_ge k l.length with hk | hk
    · rw [take_snoc l z2 hk, canL_snoc, pr_snoc, ← ih]
      unfold putZ
      split
      · rename_i h
        rw [h]
        have : ∀ m : List P2, arow (0, 0) m = 0 := fun m => by
          induction m with
          | nil => rfl
          | cons x t ih =>
            have e : crs (0, 0) x = 0 := by unfold crs cr; simp
            rw [arow_cons, ih, e]; rfl
        rw [this]; omega
      · rename_i h
        rw [putD_pr (canL_up _) (upP_up h) (canL_ss _), arow_upP, arow_can]
    · rw [List.take_of_length_le (by omega)]
      rwa [List.take_of_length_le hk] at ih
/-- The area of the canonical form is that of the generators. -/
theorem area_can (l : List P2) : areaL (canL l) = areaL l := by
  have := pr_can_take l l.length
  rw [List.take_length] at this
  rw [areaL_pr, areaL_pr, this]
/-- The reference's sum over the corners. -/
def shoe (L : List P2) : Nat → Int
  | 0 => 0
  | k + 1 => shoe L k + crs (subP (L.getD k z2) (L.getD 0 z2)) (subP (L.getD ((k + 1) % L.length) z2) (L.getD 0 z2))
theorem crs_subl (a b x : P2) : crs (subP a b) x = crs a x - crs b x := by
  rw [crs_neg x, crs_neg x a, crs_neg x b, crs_sub]; omega
theorem arow_pos {g : P2} {l : List P2} (h : ∀ x ∈ l, 0 ≤ crs g x) : arow g l = sn (-g.2, g.1) l := by
  rw [arow_spr, ← sn_pos (n := (-g.2, g.1)) (fun x hx => by rw [← crs_nd]; exact h x hx)]
theorem arow_npos {g : P2} {l : List P2} (h : ∀ x ∈ l, crs g x ≤ 0) : arow g l = - sn (-g.2, g.1) l := by
  rw [arow_spr, ← sn_npos (n := (-g.2, g.1)) (fun x hx => by rw [← crs_nd]; exact h x hx)]
/-- The sums of the parallelograms with what lies behind. -/
def prN (l : List P2) : Nat → Int
  | 0 => 0
  | k + 1 => prN l k + arow (l.getD k z2) (l.drop k)
theorem prN_pr (l : List P2) (k : Nat) (hk : k ≤ l.length) : prN l k + pr (l.drop k) = pr l := by
  induction k with
  | zero => simp [prN]
  | succ k ih =>
    have h1 := ih (by omega)
    have e2 : l.drop k = l.getD k z2 :: l.drop (k + 1) := by
      rw [List.getD_eq_getElem?_getD, List.getElem?_eq_getElem (show k < l.length by omega)]
      simp
    have e3 : prN l (k + 1) = prN l k + arow (l.getD k z2) (l.drop k) := rfl
    rw [e3, ← h1, e2]
    have e4 : pr (l.getD k z2 :: l.drop (k + 1)) = arow (l.getD k z2) (l.drop (k + 1)) + pr (l.drop (k + 1)) := rfl
    rw [e4, arow_cons, crs_self]
    have : mg 0 = 0 := rfl
    omega
theorem shoe_corn (z : P2) {C : List P2} (hs : SS C) : shoe (cornL z C) (cornL z C).length = 8 * areaL C := by
  have hl := corn_len z C
  by_cases k0 : C.length = 0
  · obtain rfl := List.length_eq_zero_iff.mp k0
    have e1 : (cornL z []).length = 1 := by rw [hl]; rfl
    rw [e1]
    unfold shoe shoe
    rw [e1]
    simp only [Nat.zero_add, Nat.mod_self]
    have e2 : subP ((cornL z []).getD 0 z2) ((cornL z []).getD 0 z2) = (0, 0) := by unfold subP; simp
    rw [e2]
    rfl
  · have hl2 : (cornL z C).length = 2 * C.length := by omega
    have lo : ∀ i, i ≤ C.length → shoe (cornL z C) i = 4 * areaN C i := by
      intro i hi
      induction i with
      | zero => rfl
      | succ i ih =>
        have h1 := ih (by omega)
        have e : areaN C (i + 1) = areaN C i + arow (C.getD i z2) (C.take i) := rfl
        have e2 : shoe (cornL z C) (i + 1) = shoe (cornL z C) i + crs (subP ((cornL z C).getD i z2) ((cornL z C).getD 0 z2)) (subP ((cornL z C).getD ((i + 1) % (cornL z C).length) z2) ((cornL z C).getD 0 z2)) := rfl
        rw [e2, e, h1, hl2, corn_next z C (by omega) i (by omega), corn_get z C i (by omega), corn_get z C 0 (by omega)]
        have st := step_lo z C (show i < C.length by omega)
        have e3 : subP (cor z C (i + 1)) (cor z C 0) = addP (subP (cor z C i) (cor z C 0)) (subP (cor z C (i + 1)) (cor z C i)) := by unfold subP addP; simp; omega
        rw [e3, crs_addr, crs_self, st, crs_neg, crs_mul, crs_nd, nd_sub, nd_lo _ z C (show i ≤ C.length by omega), nd_lo _ z C (Nat.zero_le _), arow_npos (ss_split hs (show i < C.length by omega)).1]
        simp only [List.take_zero, sn, List.map_nil, List.sum_nil]
        omega
    have hi : ∀ j, j ≤ C.length → shoe (cornL z C) (C.length + j) = 4 * areaL C + 4 * prN C j := by
      intro j hj
      induction j with
      | zero => rw [Nat.add_zero, lo _ (Nat.le_refl _)]; unfold areaL prN; omega
      | succ i ih =>
        have h1 := ih (by omega)
        have e : prN C (i + 1) = prN C i + arow (C.getD i z2) (C.drop i) := rfl
        have e2 : shoe (cornL z C) (C.length + i + 1) = shoe (cornL z C) (C.length + i) + crs (subP ((cornL z C).getD (C.length + i) z2) ((cornL z C).getD 0 z2)) (subP ((cornL z C).getD ((C.length + i + 1) % (cornL z C).length) z2) ((cornL z C).getD 0 z2)) := rfl
        rw [← Nat.add_assoc, e2, e, h1, hl2, corn_next z C (by omega) (C.length + i) (by omega), corn_get z C (C.length + i) (by omega), corn_get z C 0 (by omega)]
        have st := step_hi z C (show i < C.length by omega)
        have e3 : subP (cor z C (C.length + i + 1)) (cor z C 0) = addP (subP (cor z C (C.length + i)) (cor z C 0)) (subP (cor z C (C.length + i + 1)) (cor z C (C.length + i))) := by unfold subP addP; simp; omega
        have e4 := sn_take C (-(C.getD i z2).2, (C.getD i z2).1) i
        rw [e3, crs_addr, crs_self, st, crs_neg, crs_mul, crs_nd, nd_sub, nd_hi _ z C (show i ≤ C.length by omega), nd_lo _ z C (Nat.zero_le _), arow_pos (ss_split hs (show i < C.length by omega)).2]
        simp only [List.take_zero, sn, List.map_nil, List.sum_nil] at *
        omega
    have e := hi C.length (Nat.le_refl _)
    have e2 := prN_pr C C.length (Nat.le_refl _)
    rw [List.drop_length] at e2
    have e3 : pr [] = 0 := rfl
    rw [hl2, show 2 * C.length = C.length + C.length by omega, e]
    rw [areaL_pr]
    omega
/-- The corners tell the centre and the generators. -/
theorem corn_inj {z z' : P2} {C C' : List P2} (h : cornL z C = cornL z' C') : z = z' ∧ C = C' := by
  have l1 := corn_len z C
  have l2 := corn_len z' C'
  have hk : C.length = C'.length := by rw [h] at l1; omega
  have hg : ∀ i, i < max 1 (2 * C.length) → cor z C i = cor z' C' i := fun i hi => by
    rw [← corn_get z C i hi, ← corn_get z' C' i (by omega), h]
  have hC : C = C' := by
    refine List.ext_getElem hk (fun i h1 h2 => ?_)
    have e1 := step_lo z C h1
    have e2 := step_lo z' C' h2
    rw [hg i (by omega), hg (i + 1) (by omega), e2] at e1
    have g1 : C.getD i z2 = C[i] := by rw [List.getD_eq_getElem?_getD, List.getElem?_eq_getElem h1]; rfl
    have g2 : C'.getD i z2 = C'[i] := by rw [List.getD_eq_getElem?_getD, List.getElem?_eq_getElem h2]; rfl
    rw [g1, g2] at e1
    injection e1 with a b
    exact Prod.ext (by omega) (by omega)
  subst hC
  refine ⟨nd_ext fun n => ?_, rfl⟩
  have a := congrArg (nd n) (hg 0 (by omega))
  rw [nd_lo _ _ _ (Nat.zero_le _), nd_lo _ _ _ (Nat.zero_le _)] at a
  omega
end Go.Proofs.Ytpjbkadhmjlpfaa
