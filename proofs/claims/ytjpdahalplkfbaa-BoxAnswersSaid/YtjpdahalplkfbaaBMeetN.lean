/- Plain mathematics: counting the poses of the boxes of Meet. -/
import Derived.Test.YtjpdahalplkfbaaBMeetM
set_option linter.unusedVariables false
namespace Go.Proofs.Ytjpdahalplkfbaa
open Go Go.RowKit Hd

def HasR (r : I6) (x y h : Int) : Prop := HasP r.1 r.2.1 r.2.2.1 r.2.2.2.1 r.2.2.2.2.1 r.2.2.2.2.2 x y h
instance (r : I6) (x y h : Int) : Decidable (HasR r x y h) := inferInstanceAs (Decidable (HasP _ _ _ _ _ _ _ _ _))
def OkR6 (r : I6) : Prop := OkB r.1 r.2.1 r.2.2.1 r.2.2.2.1 r.2.2.2.2.1 r.2.2.2.2.2
def volR (r : I6) : Int := volI r.1 r.2.1 r.2.2.1 r.2.2.2.1 r.2.2.2.2.1 r.2.2.2.2.2
def InsR (r : I6) (u0 v0 u1 v1 g d : Int) : Prop := InsP r.1 r.2.1 r.2.2.1 r.2.2.2.1 r.2.2.2.2.1 r.2.2.2.2.2 u0 v0 u1 v1 g d
def cntH (l : List I6) (x y h : Int) : Int := match l with
  | [] => 0
  | r :: l => (if HasR r x y h then 1 else 0) + cntH l x y h
def volS (l : List I6) : Int := match l with
  | [] => 0
  | r :: l => volR r + volS l
theorem cntH_app (l m : List I6) (x y h : Int) : cntH (l ++ m) x y h = cntH l x y h + cntH m x y h := by
  induction l with
  | nil => simp [cntH]
  | cons p l ih => simp only [List.cons_append, cntH, ih]; omega
theorem volS_app (l m : List I6) : volS (l ++ m) = volS l + volS m := by
  induction l with
  | nil => simp [volS]
  | cons p l ih => simp only [List.cons_append, volS, ih]; omega
theorem cntH_take {l : List I6} {k : Nat} (hk : k < l.length) (x y h : Int) : cntH (l.take (k + 1)) x y h = cntH (l.take k) x y h + if HasR (l.getD k z6) x y h then 1 else 0 := by
  have e := take_map_snoc l id z6 hk
  simp only [List.map_id] at e
  rw [e, cntH_app]; simp [cntH]
theorem volS_take {l : List I6} {k : Nat} (hk : k < l.length) : volS (l.take (k + 1)) = volS (l.take k) + volR (l.getD k z6) := by
  have e := take_map_snoc l id z6 hk
  simp only [List.map_id] at e
  rw [e, volS_app]; simp [volS]
theorem cntH_bd (l : List I6) (x y h : Int) : 0 ≤ cntH l x y h ∧ cntH l x y h ≤ l.length := by
  induction l with
  | nil => simp [cntH]
  | cons p l ih => simp only [cntH, List.length_cons]; split <;> omega
theorem volS_bd (l : List I6) : 0 ≤ volS l ∧ volS l ≤ 1125900980584704 * l.length := by
  induction l with
  | nil => simp [volS]
  | cons p l ih => have := volI_bd p.1 p.2.1 p.2.2.1 p.2.2.2.1 p.2.2.2.2.1 p.2.2.2.2.2; simp only [volS, volR, List.length_cons]; omega
section
variable {X0 Y0 X1 Y1 : Int}
theorem cnt_rows (hx : -1048576 ≤ X0 ∧ X0 ≤ X1 ∧ X1 ≤ 1048576) (hy : -1048576 ≤ Y0 ∧ Y0 ≤ Y1 ∧ Y1 ≤ 1048576) {l : List (Int × Int)} (hl : AllOk l) (x y h : Int) : cntH (l.map fun p => ((X0, Y0, X1, Y1, p.1, p.2) : I6)) x y h = if X0 ≤ x ∧ x ≤ X1 ∧ Y0 ≤ y ∧ y ≤ Y1 then (cntL l h : Int) else 0 := by
  induction l with
  | nil => simp [cntH, cntL]
  | cons p l ih =>
    have o : OkB X0 Y0 X1 Y1 p.1 p.2 := ⟨⟨hx, hy⟩, hl p (by simp)⟩
    have e : HasR ((X0, Y0, X1, Y1, p.1, p.2) : I6) x y h ↔ (X0 ≤ x ∧ x ≤ X1 ∧ Y0 ≤ y ∧ y ≤ Y1) ∧ hasB p.1 p.2 h = true := by
      show HasP X0 Y0 X1 Y1 p.1 p.2 x y h ↔ _
      unfold HasP hasM; exact ⟨fun k => ⟨⟨k.2.1, k.2.2.1, k.2.2.2.1, k.2.2.2.2.1⟩, k.2.2.2.2.2⟩, fun k => ⟨o, k.1.1, k.1.2.1, k.1.2.2.1, k.1.2.2.2, k.2⟩⟩
    have c : (cntL (p :: l) h : Int) = (if hasB p.1 p.2 h = true then 1 else 0) + cntL l h := by
      unfold cntL; rw [List.filter_cons]; split
      · simp only [List.length_cons]; omega
      · omega
    simp only [List.map_cons, cntH, ih (fun q hq => hl q (by simp [hq]))]
    rw [c]
    by_cases k1 : X0 ≤ x ∧ x ≤ X1 ∧ Y0 ≤ y ∧ y ≤ Y1
    · rw [if_pos k1, if_pos k1]
      by_cases k2 : hasB p.1 p.2 h = true
      · rw [if_pos (e.2 ⟨k1, k2⟩), if_pos k2]
      · rw [if_neg (fun k => k2 (e.1 k).2), if_neg k2]
    · rw [if_neg k1, if_neg k1, if_neg (fun k => k1 (e.1 k).1)]; rfl
theorem vol_rows (hx : -1048576 ≤ X0 ∧ X0 ≤ X1 ∧ X1 ≤ 1048576) (hy : -1048576 ≤ Y0 ∧ Y0 ≤ Y1 ∧ Y1 ≤ 1048576) {l : List (Int × Int)} (hl : AllOk l) : volS (l.map fun p => ((X0, Y0, X1, Y1, p.1, p.2) : I6)) = (X1 - X0 + 1) * (Y1 - Y0 + 1) * totA l := by
  induction l with
  | nil => simp [volS, totA]
  | cons p l ih =>
    have o : OkB X0 Y0 X1 Y1 p.1 p.2 := ⟨⟨hx, hy⟩, hl p (by simp)⟩
    simp only [List.map_cons, volS, totA, ih (fun q hq => hl q (by simp [hq]))]
    show volI X0 Y0 X1 Y1 p.1 p.2 + _ = _
    unfold volI volM; rw [if_pos o, ← Int.mul_add]
end
theorem prod_eq {W H T a b c : Int} (h1 : 1 ≤ W ∧ W ≤ a) (h2 : 1 ≤ H ∧ H ≤ b) (h3 : T ≤ c) (hc : 1 ≤ c) (e : W * H * T = a * b * c) : W = a ∧ H = b ∧ T = c := by
  have k1 := Int.mul_le_mul h1.2 h2.2 (by omega) (show (0 : Int) ≤ a by omega)
  have k0 := Int.mul_le_mul h1.1 h2.1 (by omega) (show (0 : Int) ≤ W by omega)
  have pab : 1 ≤ a * b := by omega
  have eT : T = c := by
    by_cases hT : T = c
    · exact hT
    · exfalso
      have h4 : T ≤ c - 1 := by omega
      have m1 : W * H * T ≤ W * H * (c - 1) := Int.mul_le_mul_of_nonneg_left h4 (by omega)
      have m2 : W * H * (c - 1) ≤ a * b * (c - 1) := Int.mul_le_mul_of_nonneg_right k1 (by omega)
      have m3 : a * b * (c - 1) = a * b * c - a * b := by rw [Int.mul_sub, Int.mul_one]
      omega
  subst eT
  have e2 : W * H = a * b := Int.eq_of_mul_eq_mul_right (by omega) e
  have eH : H = b := by
    by_cases hT : H = b
    · exact hT
    · exfalso
      have h4 : H ≤ b - 1 := by omega
      have m1 : W * H ≤ W * (b - 1) := Int.mul_le_mul_of_nonneg_left h4 (by omega)
      have m2 : W * (b - 1) ≤ a * (b - 1) := Int.mul_le_mul_of_nonneg_right h1.2 (by omega)
      have m3 : a * (b - 1) = a * b - a := by rw [Int.mul_sub, Int.mul_one]
      omega
  subst eH
  exact ⟨Int.eq_of_mul_eq_mul_right (by omega) e2, rfl, rfl⟩
structure MeetF (l : List I6) (x0 y0 x1 y1 f c u0 v0 u1 v1 g d x y h : Int) : Prop where
  len : l.length ≤ 2
  ins : ∀ r ∈ l, InsR r x0 y0 x1 y1 f c ∧ InsR r u0 v0 u1 v1 g d
  one : cntH l x y h ≤ 1
  both : (HasP x0 y0 x1 y1 f c x y h ∧ HasP u0 v0 u1 v1 g d x y h) ↔ cntH l x y h = 1
  sum : InsP x0 y0 x1 y1 f c u0 v0 u1 v1 g d ↔ OkB x0 y0 x1 y1 f c ∧ volS l = volI x0 y0 x1 y1 f c
theorem volI_pos {x0 y0 x1 y1 f c : Int} (b : OkB x0 y0 x1 y1 f c) : 1 ≤ volI x0 y0 x1 y1 f c := by unfold volI; rw [if_pos b]; exact (vol_bd b).1
theorem meet_fine (x0 y0 x1 y1 f c u0 v0 u1 v1 g d x y h : Int) : MeetF (meetLL x0 y0 x1 y1 f c u0 v0 u1 v1 g d) x0 y0 x1 y1 f c u0 v0 u1 v1 g d x y h := by
  unfold meetLL
  by_cases hv : OkB x0 y0 x1 y1 f c ∧ OkB u0 v0 u1 v1 g d
  · rw [if_pos hv]
    obtain ⟨ha, hb⟩ := hv
    have ba := ha.b; have bb := hb.b
    unfold meetL
    by_cases hr : max x0 u0 ≤ min x1 u1 ∧ max y0 v0 ≤ min y1 v1
    · rw [if_pos hr]
      have hx : -1048576 ≤ max x0 u0 ∧ max x0 u0 ≤ min x1 u1 ∧ min x1 u1 ≤ 1048576 := by omega
      have hy : -1048576 ≤ max y0 v0 ∧ max y0 v0 ≤ min y1 v1 ∧ min y1 v1 ≤ 1048576 := by omega
      obtain ⟨fo, fl, fc⟩ := all_fine ha.a hb.a h
      obtain ⟨⟨t1, t2⟩, ti⟩ := tot_all ha.a hb.a
      have cr := cnt_rows hx hy fo x y h
      have vr := vol_rows hx hy fo
      refine ⟨by rw [List.length_map]; exact fl, ?_, ?_, ?_, ?_⟩
      · intro r hr2
        obtain ⟨p, hp, rfl⟩ := List.mem_map.1 hr2
        have o : OkB (max x0 u0) (max y0 v0) (min x1 u1) (min y1 v1) p.1 p.2 := ⟨⟨hx, hy⟩, fo p hp⟩
        exact ⟨⟨⟨o, ha⟩, (ins_iff ⟨o, ha⟩).2 ⟨by omega, (ti p hp).1⟩⟩, ⟨⟨o, hb⟩, (ins_iff ⟨o, hb⟩).2 ⟨by omega, (ti p hp).2⟩⟩⟩
      · rw [cr, fc]; split <;> (try split) <;> omega
      · rw [cr, fc]
        have e : (HasP x0 y0 x1 y1 f c x y h ∧ HasP u0 v0 u1 v1 g d x y h) ↔ (max x0 u0 ≤ x ∧ x ≤ min x1 u1 ∧ max y0 v0 ≤ y ∧ y ≤ min y1 v1) ∧ bothB f c g d h = true := by
          rw [hasM_iff ha, hasM_iff hb, both_iff]; omega
        rw [e]
        by_cases k1 : max x0 u0 ≤ x ∧ x ≤ min x1 u1 ∧ max y0 v0 ≤ y ∧ y ≤ min y1 v1
        · rw [if_pos k1]
          by_cases k2 : bothB f c g d h = true
          · rw [if_pos k2]; exact ⟨fun _ => rfl, fun _ => ⟨k1, k2⟩⟩
          · rw [if_neg k2]; exact ⟨fun k => absurd k.2 k2, fun k => absurd k (by decide)⟩
        · rw [if_neg k1]; exact ⟨fun k => absurd k.1 k1, fun k => absurd k (by decide)⟩
      · have vi : volI x0 y0 x1 y1 f c = (x1 - x0 + 1) * (y1 - y0 + 1) * c := by unfold volI volM; rw [if_pos ha]
        rw [vr, vi]
        constructor
        · intro i
          have j := (ins_iff ⟨ha, hb⟩).1 i.2
          have e1 : max x0 u0 = x0 := by omega
          have e2 : min x1 u1 = x1 := by omega
          have e3 : max y0 v0 = y0 := by omega
          have e4 : min y1 v1 = y1 := by omega
          rw [e1, e2, e3, e4, t2.2 j.2]; exact ⟨ha, rfl⟩
        · rintro ⟨-, e⟩
          have q := prod_eq (a := x1 - x0 + 1) (b := y1 - y0 + 1) (by omega) (by omega) t1 (by omega) e
          exact ⟨⟨ha, hb⟩, (ins_iff ⟨ha, hb⟩).2 ⟨by omega, t2.1 q.2.2⟩⟩
    · rw [if_neg hr]
      refine ⟨by simp, fun r hr2 => by simp at hr2, by simp [cntH], ?_, ?_⟩
      · rw [hasM_iff ha, hasM_iff hb]; simp only [cntH]; omega
      · have vp := volI_pos ha
        simp only [volS]
        exact ⟨fun i => by have j := (ins_iff ⟨ha, hb⟩).1 i.2; exfalso; omega, fun k => by exfalso; omega⟩
  · rw [if_neg hv]
    refine ⟨by simp, fun r hr2 => by simp at hr2, by simp [cntH], ?_, ?_⟩
    · simp only [cntH]; exact ⟨fun k => absurd ⟨k.1.1, k.2.1⟩ hv, fun k => absurd k (by decide)⟩
    · simp only [volS]
      exact ⟨fun i => absurd i.1 hv, fun k => by have := volI_pos k.1; exfalso; omega⟩
end Go.Proofs.Ytjpdahalplkfbaa
