/- both sides of layer 7 alike. -/
import Derived.Test.YtpjbkadhmjlpfaaZ40
import Derived.Test.YtpjbkadhmjlpfaaZ23
set_option linter.unusedVariables false
set_option linter.unusedSimpArgs false
namespace Go.Proofs.Ytpjbkadhmjlpfaa
open Go Go.RowKit Hd

/-- The point with these doubled coordinates is in the zonogon. -/
def HasP (x y : Int) (l : List P2) (p q : Int) : Prop := OkZ x y l ∧ Wi p 16777216 ∧ Wi q 16777216 ∧ Rc l (p - x) (q - y)
instance (x y : Int) (l : List P2) (p q : Int) : Decidable (HasP x y l p q) := inferInstanceAs (Decidable (_ ∧ _ ∧ _ ∧ _))
theorem Has_q (x y p q : Int) (A : Option Addr) (n c : Nat) (l : List P2) (hn : n ≤ 1000) (w : World) {lo hi : Nat} (L : PL w lo hi A n c l) :
    Calls Try.prog 33 #[.agg #[.int .i64 x, .int .i64 y, .slice A n c], .int .i64 p, .int .i64 q] w fun e w' => e = .returned (.bool (decide (HasP x y l p q))) ∧ Below w.heap.size w w' := by
  have h := Has_any x y p q A n c l hn w L
  rw [show HasV x y p q A n c l = .bool (decide (HasP x y l p q)) from ?_] at h
  · exact h
  · unfold HasV
    by_cases h1 : OkZ x y l
    · rw [if_pos h1]
      by_cases h2 : Wi p 16777216
      · rw [if_pos h2]
        by_cases h3 : Wi q 16777216
        · rw [if_pos h3]
          exact congrArg Value.bool (decide_eq_decide.2 ⟨fun h => ⟨h1, h2, h3, h⟩, fun h => h.2.2.2⟩)
        · rw [if_neg h3]; exact congrArg Value.bool (decide_eq_false (fun h => h3 h.2.2.1)).symm
      · rw [if_neg h2]; exact congrArg Value.bool (decide_eq_false (fun h => h2 h.2.1)).symm
    · rw [if_neg h1]; exact congrArg Value.bool (decide_eq_false (fun h => h1 h.1)).symm
theorem in_rc (x y : Int) (l : List P2) (p q : Int) : inL (cornL (x, y) (canL l)) (p, q) ↔ Rc l (p - x) (q - y) := by
  rw [in_corn (canL_ss l) (canL_up l), Rc_iff l (p - x, q - y)]
  constructor
  · intro h n; rw [← spr_can]; exact h n
  · intro h n; rw [spr_can]; exact h n
theorem RHas_q (x y p q : Int) (A : Option Addr) (n c : Nat) (l : List P2) (hn : n ≤ 200) (w : World) {lo hi : Nat} (L : PL w lo hi A n c l) :
    Calls Try.prog 36 #[.agg #[.int .i64 x, .int .i64 y, .slice A n c], .int .i64 p, .int .i64 q] w fun e w' => e = .returned (.bool (decide (HasP x y l p q))) ∧ Below w.heap.size w w' := by
  by_cases h1 : OkZ x y l
  · by_cases h2 : Wi p 16777216
    · by_cases h3 : Wi q 16777216
      · have h := RHas_w0 x y p q A n c l hn h1 h2 h3 w L
        rw [decide_eq_decide.2 (show inL (cornL (x, y) (canL l)) (p, q) ↔ HasP x y l p q from (in_rc x y l p q).trans ⟨fun h => ⟨h1, h2, h3, h⟩, fun h => h.2.2.2⟩)] at h
        exact h
      · rw [decide_eq_false (fun h => h3 h.2.2.1)]; exact RHas_w3 x y p q A n c l hn h1 h2 h3 w L
    · rw [decide_eq_false (fun h => h2 h.2.1)]; exact RHas_w2 x y p q A n c l hn h1 h2 w L
  · rw [decide_eq_false (fun h => h1 h.1)]; exact RHas_w1 x y p q A n c l hn h1 w L
theorem Sup_q (x y a b : Int) (A : Option Addr) (n c : Nat) (l : List P2) (hn : n ≤ 1000) (w : World) {lo hi : Nat} (L : PL w lo hi A n c l) :
    Calls Try.prog 34 #[.agg #[.int .i64 x, .int .i64 y, .slice A n c], .agg #[.int .i64 a, .int .i64 b]] w fun e w' => e = .returned (.int .i64 (supX x y l a b)) ∧ Below w.heap.size w w' := by
  have h := Support_any x y a b A n c l hn w L
  rw [show SupportV x y a b A n c l = .int .i64 (supX x y l a b) from ?_] at h
  · exact h
  · unfold SupportV supX
    by_cases h1 : OkZ x y l
    · rw [if_pos h1]
      by_cases h2 : Wi a 65536 ∧ Wi b 65536
      · rw [if_pos h2, if_pos ⟨h1, h2⟩]
      · rw [if_neg h2, if_neg (fun h => h2 h.2)]
    · rw [if_neg h1, if_neg (fun h => h1 h.1)]
/-- The zonogon and the rectangle have no point in common. -/
def ApartP (x y : Int) (l : List P2) (x0 y0 x1 y1 : Int) : Prop := OkZ x y l ∧ OkR x0 y0 x1 y1 ∧ ¬ Rc (l ++ [(x1 - x0, 0), (0, y1 - y0)]) (x0 + x1 - x) (y0 + y1 - y)
instance (x y : Int) (l : List P2) (x0 y0 x1 y1 : Int) : Decidable (ApartP x y l x0 y0 x1 y1) := inferInstanceAs (Decidable (_ ∧ _ ∧ _))
theorem not_dec {P Q : Prop} [Decidable P] [Decidable Q] (h : Q ↔ ¬ P) : (!decide P) = decide Q := by
  by_cases hp : P
  · rw [decide_eq_true hp, decide_eq_false (fun q => h.1 q hp)]; rfl
  · rw [decide_eq_false hp, decide_eq_true (h.2 hp)]; rfl
theorem Apart_q (x y x0 y0 x1 y1 : Int) (A : Option Addr) (n c : Nat) (l : List P2) (hn : n ≤ 1000) (w : World) {lo hi : Nat} (L : PL w lo hi A n c l) :
    Calls Try.prog 40 #[.agg #[.int .i64 x, .int .i64 y, .slice A n c], .agg #[.int .i64 x0, .int .i64 y0, .int .i64 x1, .int .i64 y1]] w fun e w' => e = .returned (.bool (decide (ApartP x y l x0 y0 x1 y1))) ∧ Below w.heap.size w w' := by
  by_cases h1 : OkZ x y l
  · by_cases h2 : OkR x0 y0 x1 y1
    · have h := Apart_yes x y A n c l x0 y0 x1 y1 hn h1 h2 w L
      rw [not_dec (Q := ApartP x y l x0 y0 x1 y1) ⟨fun h => h.2.2, fun h => ⟨h1, h2, h⟩⟩] at h
      exact h
    · rw [decide_eq_false (fun h => h2 h.2.1)]; exact Apart_w2 x y x0 y0 x1 y1 A n c l hn h1 h2 w L
  · rw [decide_eq_false (fun h => h1 h.1)]; exact Apart_w1 x y x0 y0 x1 y1 A n c l hn h1 w L
/-- What reaches as far in every direction has the same points. -/
theorem rc_same {l m : List P2} (h : ∀ n : P2, spr l n.1 n.2 = spr m n.1 n.2) {q r : P2} (hq : q = r) : Rc l q.1 q.2 ↔ Rc m r.1 r.2 := by
  subst hq
  rw [Rc_iff, Rc_iff]
  constructor
  · intro k n; rw [← h]; exact k n
  · intro k n; rw [h]; exact k n
theorem apart_rc (x y : Int) (l : List P2) (x0 y0 x1 y1 : Int) : inL (cornL (x + (-x1 + -x0), y + (-y1 + -y0)) (canL (l ++ canL [(-x0 - -x1, 0), (0, -y0 - -y1)]))) (0, 0) ↔ Rc (l ++ [(x1 - x0, 0), (0, y1 - y0)]) (x0 + x1 - x) (y0 + y1 - y) := by
  rw [in_rc]
  refine rc_same (q := (0 - (x + (-x1 + -x0)), 0 - (y + (-y1 + -y0)))) (r := (x0 + x1 - x, y0 + y1 - y)) (fun n => ?_) (Prod.ext (by dsimp only; omega) (by dsimp only; omega))
  rw [spr_append, spr_append, spr_can, show -x0 - -x1 = x1 - x0 by omega, show -y0 - -y1 = y1 - y0 by omega]
theorem RApart_q (x y x0 y0 x1 y1 : Int) (A : Option Addr) (n c : Nat) (l : List P2) (hn : n ≤ 50) (w : World) {lo hi : Nat} (L : PL w lo hi A n c l) :
    Calls Try.prog 41 #[.agg #[.int .i64 x, .int .i64 y, .slice A n c], .agg #[.int .i64 x0, .int .i64 y0, .int .i64 x1, .int .i64 y1]] w fun e w' => e = .returned (.bool (decide (ApartP x y l x0 y0 x1 y1))) ∧ Below w.heap.size w w' := by
  by_cases h1 : OkZ x y l
  · by_cases h2 : OkR x0 y0 x1 y1
    · have h := RApart_w0 x y x0 y0 x1 y1 A n c l hn _ _ _ rfl rfl rfl h1 h2 w L
      rw [not_dec (Q := ApartP x y l x0 y0 x1 y1) ⟨fun h k => h.2.2 ((apart_rc x y l x0 y0 x1 y1).1 k), fun h => ⟨h1, h2, fun k => h ((apart_rc x y l x0 y0 x1 y1).2 k)⟩⟩] at h
      exact h
    · rw [decide_eq_false (fun h => h2 h.2.1)]; exact RApart_w2 x y x0 y0 x1 y1 A n c l hn _ _ _ rfl rfl rfl h1 h2 w L
  · rw [decide_eq_false (fun h => h1 h.1)]; exact RApart_w1 x y x0 y0 x1 y1 A n c l hn _ _ _ rfl rfl rfl h1 w L
/-- The same set. -/
def SameP (x y : Int) (l : List P2) (u v : Int) (l2 : List P2) : Prop := (OkZ x y l ∧ OkZ u v l2) ∧ x = u ∧ y = v ∧ canL l = canL l2
instance (x y : Int) (l : List P2) (u v : Int) (l2 : List P2) : Decidable (SameP x y l u v l2) := inferInstanceAs (Decidable (_ ∧ _))
theorem Same_q (x y u v : Int) (A : Option Addr) (n c : Nat) (l : List P2) (A2 : Option Addr) (n2 c2 : Nat) (l2 : List P2) (hn : n ≤ 200) (hn2 : n2 ≤ 200) (w : World) {lo hi : Nat} (L : PL w lo hi A n c l) {lo2 hi2 : Nat} (L2 : PL w lo2 hi2 A2 n2 c2 l2) :
    Calls Try.prog 38 #[.agg #[.int .i64 x, .int .i64 y, .slice A n c], .agg #[.int .i64 u, .int .i64 v, .slice A2 n2 c2]] w fun e w' => e = .returned (.bool (decide (SameP x y l u v l2))) ∧ Below w.heap.size w w' := Same_is x y A n c l u v A2 n2 c2 l2 (by omega) (by omega) w L L2
theorem RSame_q (x y u v : Int) (A : Option Addr) (n c : Nat) (l : List P2) (A2 : Option Addr) (n2 c2 : Nat) (l2 : List P2) (hn : n ≤ 200) (hn2 : n2 ≤ 200) (w : World) {lo hi : Nat} (L : PL w lo hi A n c l) {lo2 hi2 : Nat} (L2 : PL w lo2 hi2 A2 n2 c2 l2) :
    Calls Try.prog 39 #[.agg #[.int .i64 x, .int .i64 y, .slice A n c], .agg #[.int .i64 u, .int .i64 v, .slice A2 n2 c2]] w fun e w' => e = .returned (.bool (decide (SameP x y l u v l2))) ∧ Below w.heap.size w w' := by
  have h := RSame_is x y u v A n c l A2 n2 c2 l2 hn hn2 w L L2
  rw [decide_eq_decide.2 (show SameC x y l u v l2 ↔ SameP x y l u v l2 from (sameC_iff x y l u v l2).trans ⟨fun h => ⟨⟨h.1, h.2.1⟩, h.2.2⟩, fun h => ⟨h.1.1, h.1.2, h.2⟩⟩)] at h
  exact h
theorem Area_q (x y : Int) (A : Option Addr) (n c : Nat) (l : List P2) (hn : n ≤ 1000) (w : World) {lo hi : Nat} (L : PL w lo hi A n c l) :
    Calls Try.prog 22 #[.agg #[.int .i64 x, .int .i64 y, .slice A n c]] w fun e w' => e = .returned (.int .i64 (areaX x y l)) ∧ Below w.heap.size w w' := by
  by_cases h1 : OkZ x y l
  · rw [show areaX x y l = areaL l from if_pos h1]; exact Area_yes x y A n c l hn h1 w L
  · rw [show areaX x y l = 0 from if_neg h1]; exact Area_w1 x y A n c l hn h1 w L

set_option maxRecDepth 100000 in
set_option maxHeartbeats 4000000 in
theorem few_w0 (x y : Int) (A : Option Addr) (n c : Nat) (l : List P2)    (w : World) {lo_L hi_L : Nat} (L : PL w lo_L hi_L A n c l) :
    Calls Try.prog 14 #[.agg #[.int .i64 x, .int .i64 y, .slice A n c]] w fun e w' => e = .returned (.bool (decide (((n : Nat) : Int) ≤ 40))) ∧ Below w.heap.size w w' := by
  replace L := Lib.hid L
  obtain ⟨HB, B_z0⟩ := box1 w 24 #[.int .i64 x, .int .i64 y, .slice A n c]
  replace L := Lib.hid (PL.below L.out HB.out)
  go_enter Try.func14, Try.ntmps14
  go_upto_region 1 with (fail)
  generalize w.alloc (.cells #[.int .i64 x, .int .i64 y, .slice A n c] 24) = W0 at *
  obtain ⟨c0z0, c1z0, c2z0⟩ := cells3 B_z0
  go_wp2
  go_ret
  exact ⟨(by first | rfl | exact rbt (by omega) | exact rbf (by omega)), nextw HB.out (by exact sm)⟩
end Go.Proofs.Ytpjbkadhmjlpfaa
