/- The canonical form of a zonogon's generators: mathematics. -/
import Derived.Test.YtpjbkadhmjlpfaaZ4
set_option linter.unusedSimpArgs false
set_option linter.unusedVariables false
namespace Go.Proofs.Ytpjbkadhmjlpfaa
open Go Go.RowKit Hd

/-- The cross product. -/
def crs (a b : P2) : Int := cr a.1 a.2 b.1 b.2
/-- An angle from 0 on, below 180 degrees. -/
def Up (p : P2) : Prop := 0 < p.2 ∨ (p.2 = 0 ∧ 0 < p.1)
instance (p : P2) : Decidable (Up p) := inferInstanceAs (Decidable (_ ∨ _))
def addP (a b : P2) : P2 := (a.1 + b.1, a.2 + b.2)
theorem crs_self (a : P2) : crs a a = 0 := by unfold crs cr; rw [Int.mul_comm]; omega
theorem crs_neg (a b : P2) : crs b a = - crs a b := by unfold crs cr; rw [Int.mul_comm b.1, Int.mul_comm b.2]; omega
theorem crs_addl (a b c : P2) : crs (addP a b) c = crs a c + crs b c := by unfold crs cr addP; simp only [Int.add_mul]; omega
theorem crs_addr (a b c : P2) : crs a (addP b c) = crs a b + crs a c := by unfold crs cr addP; simp only [Int.mul_add]; omega
theorem crs_three2 (a b c : P2) : b.2 * crs a c = c.2 * crs a b + a.2 * crs b c := by unfold crs cr; grind
theorem crs_three1 (a b c : P2) : b.1 * crs a c = c.1 * crs a b + a.1 * crs b c := by unfold crs cr; grind
theorem Up.add {a b : P2} (ha : Up a) (hb : Up b) : Up (addP a b) := by unfold Up addP at *; dsimp only; omega
theorem Up.nn {a : P2} (ha : Up a) : 0 ≤ a.2 := by unfold Up at ha; omega
theorem neg_of_mul {a b : Int} (ha : 0 < a) (h : 0 < a * b) : 0 < b := by
  rcases Int.lt_or_le 0 b with h1 | h1
  · exact h1
  · have := Int.mul_nonpos_of_nonneg_of_nonpos (Int.le_of_lt ha) h1
    omega
theorem nn_of_mul {a b : Int} (ha : 0 < a) (h : 0 ≤ a * b) : 0 ≤ b := by
  rcases Int.lt_or_le b 0 with h1 | h1
  · have := Int.mul_neg_of_pos_of_neg ha h1
    omega
  · exact h1
/-- A vector of angle 0 comes first. -/
theorem Up.flat {b : P2} (hb : Up b) (h : b.2 = 0) (a : P2) : 0 < b.1 ∧ crs a b = -(a.2 * b.1) ∧ crs b a = b.1 * a.2 := by
  have h1 : 0 < b.1 := by unfold Up at hb; omega
  refine ⟨h1, ?_, ?_⟩ <;> (unfold crs cr; rw [h]; simp)
theorem crs_lele {a b c : P2} (ha : Up a) (hb : Up b) (hc : Up c) (h1 : 0 ≤ crs a b) (h2 : 0 ≤ crs b c) : 0 ≤ crs a c := by
  rcases Int.lt_or_le 0 b.2 with hp | hp
  · have e := crs_three2 a b c
    have k1 := Int.mul_nonneg hc.nn h1
    have k2 := Int.mul_nonneg ha.nn h2
    exact nn_of_mul hp (by omega)
  · have hz : b.2 = 0 := by have := hb.nn; omega
    obtain ⟨b1, e1, -⟩ := hb.flat hz a
    have ha0 : a.2 = 0 := by
      have := ha.nn
      rcases Int.lt_or_le 0 a.2 with h | h
      · have := Int.mul_pos h b1; omega
      · omega
    obtain ⟨a1, -, e2⟩ := ha.flat ha0 c
    rw [e2]
    exact Int.mul_nonneg (Int.le_of_lt a1) hc.nn
theorem crs_ltle {a b c : P2} (ha : Up a) (hb : Up b) (hc : Up c) (h1 : 0 < crs a b) (h2 : 0 ≤ crs b c) : 0 < crs a c := by
  rcases Int.lt_or_le 0 b.2 with hp | hp
  · have e := crs_three2 a b c
    have k2 := Int.mul_nonneg ha.nn h2
    rcases Int.lt_or_le 0 c.2 with hq | hq
    · have k1 := Int.mul_pos hq h1
      exact neg_of_mul hp (by omega)
    · have hz : c.2 = 0 := by have := hc.nn; omega
      obtain ⟨c1, e1, -⟩ := hc.flat hz b
      have := Int.mul_pos hp c1
      omega
  · have hz : b.2 = 0 := by have := hb.nn; omega
    obtain ⟨b1, e1, -⟩ := hb.flat hz a
    have := Int.mul_nonneg ha.nn (Int.le_of_lt b1)
    omega
theorem crs_lelt {a b c : P2} (ha : Up a) (hb : Up b) (hc : Up c) (h1 : 0 ≤ crs a b) (h2 : 0 < crs b c) : 0 < crs a c := by
  rcases Int.lt_or_le 0 b.2 with hp | hp
  · have e := crs_three2 a b c
    have k1 := Int.mul_nonneg hc.nn h1
    rcases Int.lt_or_le 0 a.2 with hq | hq
    · have k2 := Int.mul_pos hq h2
      exact neg_of_mul hp (by omega)
    · have hz : a.2 = 0 := by have := ha.nn; omega
      obtain ⟨a1, -, e2⟩ := ha.flat hz c
      have hc2 : 0 < c.2 := by
        rcases Int.lt_or_le 0 c.2 with h | h
        · exact h
        · have hz2 : c.2 = 0 := by have := hc.nn; omega
          obtain ⟨c1, e1, -⟩ := hc.flat hz2 b
          have := Int.mul_pos hp c1
          omega
      rw [e2]
      exact Int.mul_pos a1 hc2
  · have hz : b.2 = 0 := by have := hb.nn; omega
    obtain ⟨b1, e1, -⟩ := hb.flat hz a
    obtain ⟨-, -, e3⟩ := hb.flat hz c
    have ha0 : a.2 = 0 := by
      have := ha.nn
      rcases Int.lt_or_le 0 a.2 with h | h
      · have := Int.mul_pos h b1; omega
      · omega
    obtain ⟨a1, -, e2⟩ := ha.flat ha0 c
    rw [e3] at h2
    have := neg_of_mul b1 h2
    rw [e2]
    exact Int.mul_pos a1 this
theorem crs_par {a b c : P2} (ha : Up a) (hb : Up b) (hc : Up c) (h1 : crs a b = 0) : (crs a c = 0 ↔ crs b c = 0) ∧ (0 < crs a c ↔ 0 < crs b c) ∧ (0 < crs c a ↔ 0 < crs c b) := by
  have h1' : crs b a = 0 := by rw [crs_neg, h1]; rfl
  have n1 := crs_neg a c
  have n2 := crs_neg b c
  have p1 : 0 < crs a c → 0 < crs b c := fun h => crs_lelt hb ha hc (by omega) h
  have p2 : 0 < crs b c → 0 < crs a c := fun h => crs_lelt ha hb hc (by omega) h
  have p3 : 0 < crs c a → 0 < crs c b := fun h => crs_ltle hc ha hb h (by omega)
  have p4 : 0 < crs c b → 0 < crs c a := fun h => crs_ltle hc hb ha h (by omega)
  refine ⟨⟨fun h => ?_, fun h => ?_⟩, ⟨p1, p2⟩, p3, p4⟩ <;> omega

/-- The vectors rise strictly by their angles. -/
def SS (l : List P2) : Prop := l.Pairwise fun a b => 0 < crs a b
/-- One more generator in its place. -/
def putD (g : P2) : Bool → List P2 → List P2
  | d, [] => if d then [] else [g]
  | d, h :: t => if crs g h = 0 then addP h g :: putD g true t else if 0 < crs g h ∧ d = false then g :: h :: putD g true t else h :: putD g d t
theorem putD_same {g : P2} {l : List P2} (h : ∀ x ∈ l, crs g x ≠ 0) : putD g true l = l := by
  induction l with
  | nil => rfl
  | cons x t ih =>
    have h1 := h x List.mem_cons_self
    unfold putD
    rw [if_neg h1, if_neg (by simp), ih (fun y hy => h y (List.mem_cons_of_mem _ hy))]
theorem putD_all {P : P2 → Prop} {g : P2} {l : List P2} (d : Bool) (hl : ∀ x ∈ l, P x) (hg : P g) (hs : ∀ x, P x → P (addP x g)) : ∀ y ∈ putD g d l, P y := by
  induction l generalizing d with
  | nil => intro y hy; unfold putD at hy; split at hy <;> simp_all
  | cons x t ih =>
    have i1 := fun d => ih d (fun z hz => hl z (List.mem_cons_of_mem _ hz))
    have hx := hl x List.mem_cons_self
    intro y hy
    unfold putD at hy
    split at hy
    · rcases List.mem_cons.mp hy with rfl | h
      · exact hs x hx
      · exact i1 true y h
    · split at hy
      · rcases List.mem_cons.mp hy with rfl | h
        · exact hg
        · rcases List.mem_cons.mp h with rfl | h
          · exact hx
          · exact i1 true y h
      · rcases List.mem_cons.mp hy with rfl | h
        · exact hx
        · exact i1 d y h
theorem putD_up {g : P2} {l : List P2} (hl : ∀ x ∈ l, Up x) (hg : Up g) : ∀ y ∈ putD g false l, Up y := putD_all false hl hg (fun x hx => hx.add hg)
theorem putD_ss {g : P2} {l : List P2} (hl : ∀ x ∈ l, Up x) (hg : Up g) (hs : SS l) : SS (putD g false l) := by
  induction l with
  | nil => simp [putD, SS]
  | cons h t ih =>
    obtain ⟨hp, ht⟩ := List.pairwise_cons.mp hs
    have hh := hl h List.mem_cons_self
    have hlt := fun x hx => hl x (List.mem_cons_of_mem h hx)
    unfold putD
    by_cases c0 : crs g h = 0
    · rw [if_pos c0]
      have hgx : ∀ x ∈ t, 0 < crs g x := fun x hx => (crs_par hg hh (hlt x hx) c0).2.1.mpr (hp x hx)
      rw [putD_same (fun x hx => by have := hgx x hx; omega)]
      exact List.pairwise_cons.mpr ⟨fun x hx => by rw [crs_addl]; have := hgx x hx; have := hp x hx; omega, ht⟩
    · rw [if_neg c0]
      by_cases c1 : 0 < crs g h
      · rw [if_pos ⟨c1, rfl⟩]
        have hgx : ∀ x ∈ t, 0 < crs g x := fun x hx => crs_ltle hg hh (hlt x hx) c1 (Int.le_of_lt (hp x hx))
        rw [putD_same (fun x hx => by have := hgx x hx; omega)]
        refine List.pairwise_cons.mpr ⟨fun x hx => ?_, hs⟩
        rcases List.mem_cons.mp hx with rfl | hx
        · exact c1
        · exact hgx x hx
      · rw [if_neg (by simp [c1])]
        have hg' : 0 < crs h g := by rw [crs_neg]; omega
        exact List.pairwise_cons.mpr ⟨putD_all false hp hg' (fun x hx => by rw [crs_addr]; omega), ih hlt ht⟩
/-- The part of the sum of a list along d. -/
def Ds (f : P2 → Int) (l : List P2) (d : P2) : Int := (l.map fun x => if crs x d = 0 then f x else 0).sum
def LinP (f : P2 → Int) : Prop := ∀ a b, f (addP a b) = f a + f b
theorem Ds_cons (f : P2 → Int) (x : P2) (l : List P2) (d : P2) : Ds f (x :: l) d = (if crs x d = 0 then f x else 0) + Ds f l d := rfl
theorem Ds_snoc (f : P2 → Int) (x : P2) (l : List P2) (d : P2) : Ds f (l ++ [x]) d = Ds f l d + (if crs x d = 0 then f x else 0) := by simp [Ds]
theorem Ds_add {f : P2 → Int} (hf : LinP f) {a b d : P2} (ha : Up a) (hb : Up b) (hd : Up d) (h : crs a b = 0) : (if crs (addP a b) d = 0 then f (addP a b) else 0) = (if crs a d = 0 then f a else 0) + (if crs b d = 0 then f b else 0) := by
  obtain ⟨e1, e2, -⟩ := crs_par ha hb hd h
  rw [crs_addl, hf]
  have n1 := crs_neg a d
  have n2 := crs_neg b d
  by_cases h0 : crs a d = 0
  · have h1 := e1.mp h0
    simp [h0, h1]
  · have h1 : crs b d ≠ 0 := fun h => h0 (e1.mpr h)
    rw [if_neg h0, if_neg h1, if_neg (by omega)]
    rfl
theorem putD_Ds {f : P2 → Int} (hf : LinP f) {g d : P2} {l : List P2} (hl : ∀ x ∈ l, Up x) (hg : Up g) (hd : Up d) (hs : SS l) : Ds f (putD g false l) d = Ds f l d + (if crs g d = 0 then f g else 0) := by
  induction l with
  | nil => simp [putD, Ds]
  | cons h t ih =>
    obtain ⟨hp, ht⟩ := List.pairwise_cons.mp hs
    have hh := hl h List.mem_cons_self
    have hlt := fun x hx => hl x (List.mem_cons_of_mem h hx)
    unfold putD
    by_cases c0 : crs g h = 0
    · rw [if_pos c0]
      have hgx : ∀ x ∈ t, 0 < crs g x := fun x hx => (crs_par hg hh (hlt x hx) c0).2.1.mpr (hp x hx)
      rw [putD_same (fun x hx => by have := hgx x hx; omega), Ds_cons, Ds_cons, Ds_add hf hh hg hd (by rw [crs_neg]; omega)]
      omega
    · rw [if_neg c0]
      by_cases c1 : 0 < crs g h
      · rw [if_pos ⟨c1, rfl⟩]
        have hgx : ∀ x ∈ t, 0 < crs g x := fun x hx => crs_ltle hg hh (hlt x hx) c1 (Int.le_of_lt (hp x hx))
        rw [putD_same (fun x hx => by have := hgx x hx; omega), Ds_cons, Ds_cons]
        omega
      · rw [if_neg (by simp [c1]), Ds_cons, Ds_cons, ih hlt ht]
        omega
theorem Ds_none {f : P2 → Int} {l : List P2} {d : P2} (h : ∀ x ∈ l, crs x d ≠ 0) : Ds f l d = 0 := by
  induction l with
  | nil => rfl
  | cons x t ih => rw [Ds_cons, if_neg (h x List.mem_cons_self), ih (fun y hy => h y (List.mem_cons_of_mem _ hy))]; rfl
/-- In a strictly sorted list at most one vector lies along d. -/
theorem Ds_mem {l : List P2} (hs : SS l) (hl : ∀ x ∈ l, Up x) {d : P2} (hd : Up d) : (∀ x ∈ l, crs x d ≠ 0) ∨ ∃ x ∈ l, crs x d = 0 ∧ ∀ f : P2 → Int, Ds f l d = f x := by
  induction l with
  | nil => left; intro x hx; simp at hx
  | cons h t ih =>
    obtain ⟨hp, ht⟩ := List.pairwise_cons.mp hs
    have hh := hl h List.mem_cons_self
    have hlt := fun x hx => hl x (List.mem_cons_of_mem h hx)
    by_cases c : crs h d = 0
    · right
      refine ⟨h, List.mem_cons_self, c, fun f => ?_⟩
      rw [Ds_cons, if_pos c, Ds_none (fun x hx h0 => ?_)]
      · omega
      · have := (crs_par hd hh (hlt x hx) (by rw [crs_neg, c]; rfl)).2.1.mpr (hp x hx)
        rw [crs_neg] at this
        omega
    · rcases ih ht hlt with h1 | ⟨x, hx, hc, hf⟩
      · left
        intro x hx
        rcases List.mem_cons.mp hx with rfl | hx
        · exact c
        · exact h1 x hx
      · right
        refine ⟨x, List.mem_cons_of_mem _ hx, hc, fun f => ?_⟩
        rw [Ds_cons, if_neg c, hf]
        omega
theorem up_ne {p : P2} (h : Up p) : p ≠ (0, 0) := by rintro rfl; simp [Up] at h
/-- Two strictly sorted lists with the same sums along each direction are the same. -/
theorem ss_uniq {l m : List P2} (hl : ∀ x ∈ l, Up x) (hm : ∀ x ∈ m, Up x) (sl : SS l) (sm' : SS m) (h1 : ∀ d, Up d → Ds (·.1) l d = Ds (·.1) m d) (h2 : ∀ d, Up d → Ds (·.2) l d = Ds (·.2) m d) : l = m := by
  have key : ∀ {l m : List P2}, (∀ x ∈ l, Up x) → (∀ x ∈ m, Up x) → SS l → SS m → (∀ d, Up d → Ds (·.1) l d = Ds (·.1) m d) → (∀ d, Up d → Ds (·.2) l d = Ds (·.2) m d) → ∀ x ∈ l, x ∈ m := by
    intro l m hl hm sl sm' h1 h2 x hx
    have ux := hl x hx
    rcases Ds_mem sl hl ux with h | ⟨y, hy, hc, hf⟩
    · exact absurd (crs_self x) (h x hx)
    · have exy : y = x := by
        apply Classical.byContradiction
        intro hne
        have tri : crs y x ≠ 0 := by
          clear h1 h2 hf
          induction l with
          | nil => simp at hx
          | cons a t ih =>
            obtain ⟨hp, ht⟩ := List.pairwise_cons.mp sl
            rcases List.mem_cons.mp hx with ex | ex <;> rcases List.mem_cons.mp hy with ey | ey
            · exact absurd (ey.trans ex.symm) hne
            · subst ex
              have := hp y ey
              rw [crs_neg] at this
              omega
            · subst ey
              have := hp x ex
              omega
            · exact ih (fun z hz => hl z (List.mem_cons_of_mem _ hz)) ht ex ey
        exact tri hc
      subst exy
      rcases Ds_mem sm' hm ux with h | ⟨z, hz, hcz, hfz⟩
      · have a1 := h1 y ux
        have a2 := h2 y ux
        rw [hf, Ds_none h] at a1 a2
        exact absurd (Prod.ext a1 a2) (up_ne ux)
      · have a1 := h1 y ux
        have a2 := h2 y ux
        rw [hf, hfz] at a1 a2
        rw [show y = z from Prod.ext a1 a2]
        exact hz
  have k1 := key hl hm sl sm' h1 h2
  have k2 := key hm hl sm' sl (fun d hd => (h1 d hd).symm) (fun d hd => (h2 d hd).symm)
  clear h1 h2 key
  induction l generalizing m with
  | nil =>
    cases m with
    | nil => rfl
    | cons a t => exact absurd (k2 a List.mem_cons_self) (by simp)
  | cons a t ih =>
    cases m with
    | nil => exact absurd (k1 a List.mem_cons_self) (by simp)
    | cons b u =>
      obtain ⟨pa, st⟩ := List.pairwise_cons.mp sl
      obtain ⟨pb, su⟩ := List.pairwise_cons.mp sm'
      have eab : a = b := by
        rcases List.mem_cons.mp (k1 a List.mem_cons_self) with h | h
        · exact h
        · rcases List.mem_cons.mp (k2 b List.mem_cons_self) with h' | h'
          · exact h'.symm
          · have q1 := pb a h
            have q2 := pa b h'
            rw [crs_neg] at q1
            omega
      subst eab
      have ne : ∀ x, 0 < crs a x → x ≠ a := fun x hx e => by rw [e, crs_self] at hx; omega
      rw [ih (m := u) (fun x hx => hl x (List.mem_cons_of_mem _ hx)) (fun x hx => hm x (List.mem_cons_of_mem _ hx)) st su
        (fun x hx => by rcases List.mem_cons.mp (k1 x (List.mem_cons_of_mem _ hx)) with h | h; exact absurd h (ne x (pa x hx)); exact h)
        (fun x hx => by rcases List.mem_cons.mp (k2 x (List.mem_cons_of_mem _ hx)) with h | h; exact absurd h (ne x (pb x hx)); exact h)]
end Go.Proofs.Ytpjbkadhmjlpfaa
