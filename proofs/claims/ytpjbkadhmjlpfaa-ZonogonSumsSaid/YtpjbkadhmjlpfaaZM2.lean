/- The canonical form: sorting and joining is the same as putting in one by one. -/
import Derived.Test.YtpjbkadhmjlpfaaZM1
set_option linter.unusedSimpArgs false
set_option linter.unusedVariables false
namespace Go.Proofs.Ytpjbkadhmjlpfaa
open Go Go.RowKit Hd

def upP (p : P2) : P2 := (upX p.1 p.2, upY p.1 p.2)
theorem upP_up {p : P2} (h : p ≠ (0, 0)) : Up (upP p) := by
  have : p.1 ≠ 0 ∨ p.2 ≠ 0 := by
    rcases Classical.em (p.1 = 0) with h1 | h1
    · rcases Classical.em (p.2 = 0) with h2 | h2
      · exact absurd (Prod.ext h1 h2) h
      · exact .inr h2
    · exact .inl h1
  unfold Up upP upX upY
  dsimp only
  by_cases e : Dn p.1 p.2
  · rw [if_pos e, if_pos e]; unfold Dn at e; omega
  · rw [if_neg e, if_neg e]; unfold Dn at e; omega
/-- The generators, turned upward, without those that are (0, 0). -/
def upz (p : P2) : List P2 := if p = (0, 0) then [] else [upP p]
def ups (l : List P2) : List P2 := l.flatMap upz
theorem ups_snoc (l : List P2) (p : P2) : ups (l ++ [p]) = ups l ++ upz p := by simp [ups]
theorem ups_up (l : List P2) : ∀ x ∈ ups l, Up x := by
  intro x hx
  simp only [ups, List.mem_flatMap, upz] at hx
  obtain ⟨p, hp, h⟩ := hx
  split at h
  · simp at h
  · simp at h; subst h; exact upP_up (by assumption)
/-- Put in place. -/
def putZ (acc : List P2) (g : P2) : List P2 := if g = (0, 0) then acc else putD (upP g) false acc
/-- The canonical form. -/
def canL (l : List P2) : List P2 := l.foldl putZ []
theorem canL_snoc (l : List P2) (p : P2) : canL (l ++ [p]) = putZ (canL l) p := by simp [canL]
theorem put_fold (l acc : List P2) (ha : ∀ x ∈ acc, Up x) (sa : SS acc) : (∀ x ∈ l.foldl putZ acc, Up x) ∧ SS (l.foldl putZ acc) ∧ ∀ f, LinP f → ∀ d, Up d → Ds f (l.foldl putZ acc) d = Ds f acc d + Ds f (ups l) d := by
  induction l generalizing acc with
  | nil => exact ⟨ha, sa, fun f hf d hd => by simp [ups, Ds]⟩
  | cons p t ih =>
    have eu : ups (p :: t) = upz p ++ ups t := rfl
    by_cases h : p = (0, 0)
    · have e : putZ acc p = acc := if_pos h
      have e2 : upz p = [] := if_pos h
      rw [List.foldl_cons, e, eu, e2]
      exact ih acc ha sa
    · have e : putZ acc p = putD (upP p) false acc := if_neg h
      have e2 : upz p = [upP p] := if_neg h
      have hu := upP_up h
      obtain ⟨i1, i2, i3⟩ := ih (putD (upP p) false acc) (putD_up ha hu) (putD_ss ha hu sa)
      rw [List.foldl_cons, e, eu, e2]
      refine ⟨i1, i2, fun f hf d hd => ?_⟩
      rw [i3 f hf d hd, putD_Ds hf ha hu hd sa, List.singleton_append, Ds_cons]
      omega
theorem canL_up (l : List P2) : ∀ x ∈ canL l, Up x := (put_fold l [] (by simp) List.Pairwise.nil).1
theorem canL_ss (l : List P2) : SS (canL l) := (put_fold l [] (by simp) List.Pairwise.nil).2.1
theorem canL_Ds (l : List P2) {f : P2 → Int} (hf : LinP f) {d : P2} (hd : Up d) : Ds f (canL l) d = Ds f (ups l) d := by
  have h := (put_fold l [] (by simp) List.Pairwise.nil).2.2 f hf d hd
  unfold canL
  rw [h]
  simp [Ds]
/-- One more generator at the end. -/
def js (acc : List P2) (g : P2) : List P2 := match acc.getLast? with
  | some s => if crs s g = 0 then acc.dropLast ++ [addP s g] else acc ++ [g]
  | none => [g]
theorem js_nil (g : P2) : js [] g = [g] := rfl
theorem js_snoc (acc : List P2) (s g : P2) : js (acc ++ [s]) g = if crs s g = 0 then acc ++ [addP s g] else acc ++ [s] ++ [g] := by simp [js]
def joinL (l : List P2) : List P2 := l.foldl js []
theorem joinL_snoc (l : List P2) (p : P2) : joinL (l ++ [p]) = js (joinL l) p := by simp [joinL]
theorem nil_or_snoc (l : List P2) : l = [] ∨ ∃ t s, l = t ++ [s] := by
  rcases List.eq_nil_or_concat l with h | ⟨t, s, h⟩
  · exact .inl h
  · exact .inr ⟨t, s, by rw [h]; simp⟩
theorem Ds_append (f : P2 → Int) (l m : List P2) (d : P2) : Ds f (l ++ m) d = Ds f l d + Ds f m d := by simp [Ds]
theorem ss_snoc {l : List P2} {g : P2} (h : SS l) (hg : ∀ x ∈ l, 0 < crs x g) : SS (l ++ [g]) := by
  unfold SS
  rw [List.pairwise_append]
  exact ⟨h, List.pairwise_singleton _ _, fun a ha b hb => by simp at hb; subst hb; exact hg a ha⟩
theorem join_fold (l acc : List P2) (ha : ∀ x ∈ acc, Up x) (sa : SS acc) (hl : ∀ x ∈ l, Up x) (sl : l.Pairwise fun a b => 0 ≤ crs a b) (hal : ∀ a ∈ acc, ∀ g ∈ l, 0 ≤ crs a g) :
    (∀ x ∈ l.foldl js acc, Up x) ∧ SS (l.foldl js acc) ∧ ∀ f, LinP f → ∀ d, Up d → Ds f (l.foldl js acc) d = Ds f acc d + Ds f l d := by
  induction l generalizing acc with
  | nil => exact ⟨ha, sa, fun f hf d hd => by simp [Ds]⟩
  | cons g t ih =>
    obtain ⟨hp, ht⟩ := List.pairwise_cons.mp sl
    have ug := hl g List.mem_cons_self
    have hlt := fun x hx => hl x (List.mem_cons_of_mem g hx)
    rw [List.foldl_cons]
    have hag := fun a ha => hal a ha g List.mem_cons_self
    have main : (∀ x ∈ js acc g, Up x) ∧ SS (js acc g) ∧ (∀ a ∈ js acc g, ∀ x ∈ t, 0 ≤ crs a x) ∧ ∀ f, LinP f → ∀ d, Up d → Ds f (js acc g) d = Ds f acc d + (if crs g d = 0 then f g else 0) := by
      rcases nil_or_snoc acc with rfl | ⟨u, s, rfl⟩
      · rw [js_nil]
        exact ⟨fun x hx => by simp at hx; subst hx; exact ug, List.pairwise_singleton _ _, fun a ha x hx => by simp at ha; subst ha; exact hp x hx, fun f hf d hd => by simp [Ds]⟩
      · have us : Up s := ha s (by simp)
        have uu : ∀ x ∈ u, Up x := fun x hx => ha x (by simp [hx])
        unfold SS at sa
        rw [List.pairwise_append] at sa
        obtain ⟨su, -, hus⟩ := sa
        have hus2 : ∀ x ∈ u, 0 < crs x s := fun x hx => hus x hx s (by simp)
        rw [js_snoc]
        by_cases c : crs s g = 0
        · rw [if_pos c]
          refine ⟨fun x hx => ?_, ss_snoc su (fun x hx => ?_), fun a ha' x hx => ?_, fun f hf d hd => ?_⟩
          · rcases List.mem_append.mp hx with h | h
            · exact uu x h
            · simp at h; subst h; exact us.add ug
          · rw [crs_addr]
            have := hus2 x hx
            have := hag x (by simp [hx])
            omega
          · rcases List.mem_append.mp ha' with h | h
            · exact hal a (by simp [h]) x (List.mem_cons_of_mem _ hx)
            · simp at h; subst h
              rw [crs_addl]
              have := hal s (by simp) x (List.mem_cons_of_mem _ hx)
              have := hp x hx
              omega
          · rw [Ds_snoc, Ds_snoc, Ds_add hf us ug hd c]
            omega
        · rw [if_neg c]
          have hsg : 0 < crs s g := by have := hag s (by simp); omega
          refine ⟨fun x hx => ?_, ss_snoc (ss_snoc su hus2) (fun x hx => ?_), fun a ha' x hx => ?_, fun f hf d hd => ?_⟩
          · rcases List.mem_append.mp hx with h | h
            · exact ha x h
            · simp at h; subst h; exact ug
          · rcases List.mem_append.mp hx with h | h
            · exact crs_ltle (uu x h) us ug (hus2 x h) (Int.le_of_lt hsg)
            · simp at h; subst h; exact hsg
          · rcases List.mem_append.mp ha' with h | h
            · exact hal a h x (List.mem_cons_of_mem _ hx)
            · simp at h; subst h; exact hp x hx
          · rw [Ds_snoc]
    obtain ⟨m1, m2, m3, m4⟩ := main
    obtain ⟨i1, i2, i3⟩ := ih (js acc g) m1 m2 hlt ht m3
    refine ⟨i1, i2, fun f hf d hd => ?_⟩
    rw [i3 f hf d hd, m4 f hf d hd, Ds_cons]
    omega
theorem Ds_perm {f : P2 → Int} {l m : List P2} (h : l.Perm m) (d : P2) : Ds f l d = Ds f m d := by
  induction h with
  | nil => rfl
  | cons x _ ih => rw [Ds_cons, Ds_cons, ih]
  | swap x y l => rw [Ds_cons, Ds_cons, Ds_cons, Ds_cons]; omega
  | trans _ _ i1 i2 => rw [i1, i2]
/-- The sorted generators, joined, are the canonical form. -/
theorem can_sorted {s l : List P2} (hp : s.Perm (ups l)) (hs : s.Pairwise fun a b => 0 ≤ crs a b) : joinL s = canL l := by
  have us : ∀ x ∈ s, Up x := fun x hx => ups_up l x (hp.mem_iff.mp hx)
  obtain ⟨a1, a2, a3⟩ := join_fold s [] (by simp) List.Pairwise.nil us hs (by simp)
  have f1 : LinP (·.1) := fun a b => rfl
  have f2 : LinP (·.2) := fun a b => rfl
  refine ss_uniq a1 (canL_up l) a2 (canL_ss l) (fun d hd => ?_) (fun d hd => ?_)
  · have e := a3 _ f1 d hd
    rw [canL_Ds l f1 hd, ← Ds_perm hp]
    unfold joinL
    rw [e]
    simp [Ds]
  · have e := a3 _ f2 d hd
    rw [canL_Ds l f2 hd, ← Ds_perm hp]
    unfold joinL
    rw [e]
    simp [Ds]
/-- Bounds. -/
def Bd (M : Int) (p : P2) : Prop := Wi p.1 M ∧ Wi p.2 M
theorem Bd.mono {M N : Int} {p : P2} (h : Bd M p) (hm : M ≤ N) : Bd N p := by
  obtain ⟨⟨a, b⟩, c, d⟩ := h
  exact ⟨⟨by omega, by omega⟩, by omega, by omega⟩
theorem Bd.add {M N : Int} {p q : P2} (h : Bd M p) (h2 : Bd N q) : Bd (M + N) (addP p q) := by
  obtain ⟨⟨a, b⟩, c, d⟩ := h
  obtain ⟨⟨a2, b2⟩, c2, d2⟩ := h2
  exact ⟨⟨by simp only [addP]; omega, by simp only [addP]; omega⟩, by simp only [addP]; omega, by simp only [addP]; omega⟩
theorem Bd.up {M : Int} {p : P2} (h : Bd M p) : Bd M (upP p) := by
  obtain ⟨⟨a, b⟩, c, d⟩ := h
  unfold upP upX upY
  by_cases e : Dn p.1 p.2
  · rw [if_pos e, if_pos e]; exact ⟨⟨by dsimp only; omega, by dsimp only; omega⟩, by dsimp only; omega, by dsimp only; omega⟩
  · rw [if_neg e, if_neg e]; exact ⟨⟨a, b⟩, c, d⟩
theorem Bd.nn {M : Int} {p : P2} (h : Bd M p) : 0 ≤ M := by obtain ⟨⟨a, b⟩, -⟩ := h; omega
theorem ups_bd {l : List P2} {M : Int} (h : ∀ x ∈ l, Bd M x) : ∀ x ∈ ups l, Bd M x := by
  intro x hx
  simp only [ups, List.mem_flatMap, upz] at hx
  obtain ⟨p, hp, h2⟩ := hx
  split at h2
  · simp at h2
  · simp at h2; subst h2; exact (h p hp).up
theorem ups_len (l : List P2) : (ups l).length ≤ l.length := by
  induction l with
  | nil => exact Nat.le_refl _
  | cons p t ih =>
    have e : ups (p :: t) = upz p ++ ups t := rfl
    rw [e, List.length_append, List.length_cons]
    have : (upz p).length ≤ 1 := by unfold upz; split <;> simp
    omega
theorem js_bd {acc : List P2} {g : P2} {N M : Int} (ha : ∀ x ∈ acc, Bd N x) (hg : Bd M g) (hN : 0 ≤ N) : ∀ x ∈ js acc g, Bd (N + M) x := by
  have hM := hg.nn
  rcases nil_or_snoc acc with rfl | ⟨u, s, rfl⟩
  · intro x hx; rw [js_nil] at hx; simp at hx; subst hx; exact hg.mono (by omega)
  · intro x hx
    rw [js_snoc] at hx
    split at hx
    · rcases List.mem_append.mp hx with h | h
      · exact (ha x (by simp [h])).mono (by omega)
      · simp at h; subst h; exact (ha s (by simp)).add hg
    · rcases List.mem_append.mp hx with h | h
      · exact (ha x h).mono (by omega)
      · simp at h; subst h; exact hg.mono (by omega)
theorem js_len (acc : List P2) (g : P2) : (js acc g).length ≤ acc.length + 1 := by
  rcases nil_or_snoc acc with rfl | ⟨u, s, rfl⟩
  · rw [js_nil]; simp
  · rw [js_snoc]; split <;> simp
theorem joinL_bd {l : List P2} {M : Int} (h : ∀ x ∈ l, Bd M x) (k : Nat) (hM : 0 ≤ M) : (∀ x ∈ joinL (l.take k), Bd (k * M) x) ∧ (joinL (l.take k)).length ≤ k := by
  induction k with
  | zero => simp [joinL]
  | succ k ih =>
    rcases Nat.lt_or_ge k l.length with hk | hk
    · rw [take_snoc l z2 hk, joinL_snoc]
      refine ⟨fun x hx => (js_bd ih.1 (h _ (getD_mem hk)) (Int.mul_nonneg (by omega) hM) x hx).mono (by rw [Int.natCast_add, Int.add_mul]; omega), ?_⟩
      have := js_len (joinL (l.take k)) (l.getD k z2)
      omega
    · rw [List.take_of_length_le (by omega)]
      rw [List.take_of_length_le hk] at ih
      exact ⟨fun x hx => (ih.1 x hx).mono (by rw [Int.natCast_add, Int.add_mul]; omega), by omega⟩
theorem putD_all2 {P Q : P2 → Prop} {g : P2} {l : List P2} (d : Bool) (hl : ∀ x ∈ l, P x) (hg : Q g) (hpq : ∀ x, P x → Q x) (hs : ∀ x, P x → Q (addP x g)) : ∀ y ∈ putD g d l, Q y := by
  induction l generalizing d with
  | nil => intro y hy; unfold putD at hy; split at hy <;> simp_all
  | cons x t ih =>
    have i1 := fun d => ih d (fun z hz => hl z (List.mem_cons_of_mem _ hz))
    have hx := hl x List.mem_cons_self
    intro y hy
    unfold putD at hy
    split at hy
    · rcases List.mem_cons.mp hy with rfl | h
      · exact hs x hx
      · exact i1 true y h
    · split at hy
      · rcases List.mem_cons.mp hy with rfl | h
        · exact hg
        · rcases List.mem_cons.mp h with rfl | h
          · exact hpq _ hx
          · exact i1 true y h
      · rcases List.mem_cons.mp hy with rfl | h
        · exact hpq _ hx
        · exact i1 d y h
theorem putD_len (g : P2) (d : Bool) (l : List P2) : (putD g d l).length ≤ l.length + 1 := by
  induction l generalizing d with
  | nil => unfold putD; split <;> simp
  | cons x t ih =>
    have i1 := ih true
    have i2 := ih d
    unfold putD
    split
    · simp; omega
    · split
      · rename_i hh
        have e : (putD g true t).length ≤ t.length := by
          clear ih i1 i2 hh
          induction t with
          | nil => simp [putD]
          | cons y u ihu => unfold putD; split; (· simp; omega); (· rw [if_neg (by simp)]; simp; omega)
        simp; omega
      · simp; omega
theorem canL_bd {l : List P2} {M : Int} (h : ∀ x ∈ l, Bd M x) (k : Nat) (hM : 0 ≤ M) : (∀ x ∈ canL (l.take k), Bd (k * M) x) ∧ (canL (l.take k)).length ≤ k := by
  induction k with
  | zero => simp [canL]
  | succ k ih =>
    rcases Nat.lt_or_ge k l.length with hk | hk
    · rw [take_snoc l z2 hk, canL_snoc]
      have hN : 0 ≤ (k : Int) * M := Int.mul_nonneg (by omega) hM
      have hg := (h _ (getD_mem (z := z2) hk)).up
      have e : ((k + 1 : Nat) : Int) * M = k * M + M := by rw [Int.natCast_add, Int.add_mul]; omega
      rw [e]
      unfold putZ
      split
      · exact ⟨fun x hx => (ih.1 x hx).mono (by omega), by omega⟩
      · refine ⟨putD_all2 false ih.1 (hg.mono (by omega)) (fun x hx => hx.mono (by omega)) (fun x hx => hx.add hg), ?_⟩
        have := putD_len (upP (l.getD k z2)) false (canL (l.take k))
        omega
    · rw [List.take_of_length_le (by omega)]
      rw [List.take_of_length_le hk] at ih
      exact ⟨fun x hx => (ih.1 x hx).mono (by rw [Int.natCast_add, Int.add_mul]; omega), by omega⟩
theorem canL_all {l : List P2} {M : Int} (h : ∀ x ∈ l, Bd M x) (hM : 0 ≤ M) : (∀ x ∈ canL l, Bd (l.length * M) x) ∧ (canL l).length ≤ l.length := by
  have := canL_bd h l.length hM
  rwa [List.take_length] at this
end Go.Proofs.Ytpjbkadhmjlpfaa
