/- the laws Meets, Apart. -/
import Derived.Test.YtpjbkadhmjlpfaaZ41
set_option linter.unusedVariables false
set_option linter.unusedSimpArgs false
namespace Go.Proofs.Ytpjbkadhmjlpfaa
open Go Go.RowKit Hd

theorem rc_zero (l : List P2) (p q a b : Int) (ha : a = 0) (hb : b = 0) : Rc (l ++ [(a, 0), (0, b)]) p q ↔ Rc l p q := by
  subst ha
  subst hb
  refine rc_same (q := (p, q)) (r := (p, q)) (fun n => ?_) rfl
  rw [spr_append]
  have : spr [((0 : Int), (0 : Int)), (0, 0)] n.1 n.2 = 0 := by simp [spr, dt, mg]
  omega
theorem apart_pt {x y : Int} {l : List P2} {a b : Int} (hz : OkZ x y l) (ha : Wi a 2097152) (hb : Wi b 2097152) : ApartP x y l a b a b ↔ ¬ HasP x y l (2 * a) (2 * b) := by
  have e := rc_zero l (2 * a - x) (2 * b - y) (a - a) (b - b) (by omega) (by omega)
  rw [show (2 * a - x : Int) = a + a - x by omega, show (2 * b - y : Int) = b + b - y by omega] at e
  unfold ApartP HasP
  rw [show (2 * a - x : Int) = a + a - x by omega, show (2 * b - y : Int) = b + b - y by omega, e]
  obtain ⟨a1, a2⟩ := ha
  obtain ⟨b1, b2⟩ := hb
  constructor
  · rintro ⟨_, _, h⟩ ⟨_, _, _, k⟩
    exact h k
  · intro h
    exact ⟨hz, ⟨⟨a1, a2⟩, ⟨b1, b2⟩, ⟨a1, a2⟩, ⟨b1, b2⟩, Int.le_refl _, Int.le_refl _⟩, fun k => h ⟨hz, ⟨by omega, by omega⟩, ⟨by omega, by omega⟩, k⟩⟩
theorem not_apart {x y : Int} {l : List P2} {a b x0 y0 x1 y1 : Int} (h : HasP x y l (2 * a) (2 * b)) (h0 : x0 ≤ a) (h1 : a ≤ x1) (h2 : y0 ≤ b) (h3 : b ≤ y1) : ¬ ApartP x y l x0 y0 x1 y1 := by
  rintro ⟨_, _, k⟩
  apply k
  have hl := (Rc_iff l (2 * a - x, 2 * b - y)).1 h.2.2.2
  refine (Rc_iff (l ++ [(x1 - x0, 0), (0, y1 - y0)]) (x0 + x1 - x, y0 + y1 - y)).2 (fun n => ?_)
  have h1' := hl n
  rw [spr_append]
  have e : spr [(x1 - x0, 0), (0, y1 - y0)] n.1 n.2 = mg (n.1 * (x1 - x0)) + mg (n.2 * (y1 - y0)) := by simp [spr, dt]
  have s : nd n (x0 + x1 - x, y0 + y1 - y) = nd n (2 * a - x, 2 * b - y) + (n.1 * (x0 + x1 - 2 * a) + n.2 * (y0 + y1 - 2 * b)) := by unfold nd dt; grind
  have t1 := mg_tri (nd n (2 * a - x, 2 * b - y)) (n.1 * (x0 + x1 - 2 * a) + n.2 * (y0 + y1 - 2 * b))
  have t2 := mg_tri (n.1 * (x0 + x1 - 2 * a)) (n.2 * (y0 + y1 - 2 * b))
  have t3 : mg (n.1 * (x0 + x1 - 2 * a)) ≤ mg (n.1 * (x1 - x0)) := by
    rw [mg_mul, mg_mul]
    refine Int.mul_le_mul_of_nonneg_left ?_ (mg_nonneg _)
    have c1 := mg_cs (x0 + x1 - 2 * a)
    have c2 := mg_cs (x1 - x0)
    omega
  have t4 : mg (n.2 * (y0 + y1 - 2 * b)) ≤ mg (n.2 * (y1 - y0)) := by
    rw [mg_mul, mg_mul]
    refine Int.mul_le_mul_of_nonneg_left ?_ (mg_nonneg _)
    have c1 := mg_cs (y0 + y1 - 2 * b)
    have c2 := mg_cs (y1 - y0)
    omega
  rw [s, e]
  omega
theorem same_area {x y : Int} {l : List P2} {u v : Int} {l2 : List P2} (h : SameP x y l u v l2) : areaX x y l = areaX u v l2 := by
  unfold areaX
  rw [if_pos h.1.1, if_pos h.1.2, ← area_can l, ← area_can l2, h.2.2.2]

set_option maxRecDepth 100000 in
set_option maxHeartbeats 4000000 in
theorem LMeets_w0 (x y x0 y0 x1 y1 a b : Int) (A : Option Addr) (n c : Nat) (l : List P2)   (dd0 : ((n : Nat) : Int) ≤ 40) (dd1 : a < x0) (w : World) {lo_L hi_L : Nat} (L : PL w lo_L hi_L A n c l) :
    Calls Try.prog 11 #[.agg #[.int .i64 x, .int .i64 y, .slice A n c], .agg #[.int .i64 x0, .int .i64 y0, .int .i64 x1, .int .i64 y1], .agg #[.int .i64 a, .int .i64 b]] w fun e w' => e = .returned (.bool true) ∧ Below w.heap.size w w' := by
  replace L := Lib.hid L
  have H0 := Lib.hid (fun w => awake_w0 w)
  have H2 := Lib.hid (fun w => awake_w0 w)
  obtain ⟨HB, B_z0, B_z1, B_z2⟩ := box3 w 24 #[.int .i64 x, .int .i64 y, .slice A n c] 31 #[.int .i64 x0, .int .i64 y0, .int .i64 x1, .int .i64 y1] 39 #[.int .i64 a, .int .i64 b]
  replace L := Lib.hid (PL.below L.out HB.out)
  go_enter Try.func11, Try.ntmps11
  go_upto_region 1 with (fail)
  generalize ((w.alloc (.cells #[.int .i64 x, .int .i64 y, .slice A n c] 24)).alloc (.cells #[.int .i64 x0, .int .i64 y0, .int .i64 x1, .int .i64 y1] 31)).alloc (.cells #[.int .i64 a, .int .i64 b] 39) = W0 at *
  go_wp2_with fail
  refine (H0.out _).mono ?_
  rintro e w1 ⟨rfl, bb⟩
  replace bb := nextw (w0 := W0) (by exact sm) bb
  replace B_z0 := mv B_z0 bb
  replace B_z1 := mv B_z1 bb
  replace B_z2 := mv B_z2 bb
  replace L := Lib.hid (PL.below L.out bb)
  replace HB := nx HB bb
  clear bb
  obtain ⟨c0z0, c1z0, c2z0⟩ := cells3 B_z0
  go_wp2_with fail
  refine (few_w0 x y _ _ _ l _ (PL.below L.out (by exact sm))).mono ?_
  clear c0z0 c1z0 c2z0
  rintro e w2 ⟨rfl, bb⟩
  replace bb := nextw (w0 := w1) (by exact sm) bb
  replace B_z0 := mv B_z0 bb
  replace B_z1 := mv B_z1 bb
  replace B_z2 := mv B_z2 bb
  replace L := Lib.hid (PL.below L.out bb)
  replace HB := nx HB bb
  clear bb
  obtain ⟨c0z2, c1z2⟩ := cells2 B_z2
  obtain ⟨c0z1, c1z1, c2z1, c3z1⟩ := cells4 B_z1
  go_wp2_with fail
  refine (H2.out _).mono ?_
  clear c0z2 c1z2 c0z1 c1z1 c2z1 c3z1
  rintro e w3 ⟨rfl, bb⟩
  replace bb := nextw (w0 := w2) (by exact sm) bb
  replace B_z0 := mv B_z0 bb
  replace B_z1 := mv B_z1 bb
  replace B_z2 := mv B_z2 bb
  replace L := Lib.hid (PL.below L.out bb)
  replace HB := nx HB bb
  clear bb
  go_wp2
  go_ret
  exact ⟨(by first | rfl | exact rbt (by omega) | exact rbf (by omega)), nextw HB.out (by exact sm)⟩

set_option maxRecDepth 100000 in
set_option maxHeartbeats 4000000 in
theorem LMeets_w1 (x y x0 y0 x1 y1 a b : Int) (A : Option Addr) (n c : Nat) (l : List P2)   (dd0 : 40 < ((n : Nat) : Int)) (w : World) {lo_L hi_L : Nat} (L : PL w lo_L hi_L A n c l) :
    Calls Try.prog 11 #[.agg #[.int .i64 x, .int .i64 y, .slice A n c], .agg #[.int .i64 x0, .int .i64 y0, .int .i64 x1, .int .i64 y1], .agg #[.int .i64 a, .int .i64 b]] w fun e w' => e = .returned (.bool true) ∧ Below w.heap.size w w' := by
  replace L := Lib.hid L
  have H0 := Lib.hid (fun w => awake_w0 w)
  have H2 := Lib.hid (fun w => awake_w0 w)
  have dd0n : ¬ (((n : Nat) : Int) ≤ 40) := by omega
  have dd0o : decide (((n : Nat) : Int) ≤ 40) = false := decide_eq_false dd0n
  obtain ⟨HB, B_z0, B_z1, B_z2⟩ := box3 w 24 #[.int .i64 x, .int .i64 y, .slice A n c] 31 #[.int .i64 x0, .int .i64 y0, .int .i64 x1, .int .i64 y1] 39 #[.int .i64 a, .int .i64 b]
  replace L := Lib.hid (PL.below L.out HB.out)
  go_enter Try.func11, Try.ntmps11
  go_upto_region 1 with (fail)
  generalize ((w.alloc (.cells #[.int .i64 x, .int .i64 y, .slice A n c] 24)).alloc (.cells #[.int .i64 x0, .int .i64 y0, .int .i64 x1, .int .i64 y1] 31)).alloc (.cells #[.int .i64 a, .int .i64 b] 39) = W0 at *
  go_wp2_with fail
  refine (H0.out _).mono ?_
  rintro e w1 ⟨rfl, bb⟩
  replace bb := nextw (w0 := W0) (by exact sm) bb
  replace B_z0 := mv B_z0 bb
  replace B_z1 := mv B_z1 bb
  replace B_z2 := mv B_z2 bb
  replace L := Lib.hid (PL.below L.out bb)
  replace HB := nx HB bb
  clear bb
  obtain ⟨c0z0, c1z0, c2z0⟩ := cells3 B_z0
  go_wp2_with fail
  refine (few_w0 x y _ _ _ l _ (PL.below L.out (by exact sm))).mono ?_
  clear c0z0 c1z0 c2z0
  rintro e w2 ⟨rfl, bb⟩
  replace bb := nextw (w0 := w1) (by exact sm) bb
  replace B_z0 := mv B_z0 bb
  replace B_z1 := mv B_z1 bb
  replace B_z2 := mv B_z2 bb
  replace L := Lib.hid (PL.below L.out bb)
  replace HB := nx HB bb
  clear bb
  go_wp2_with fail
  refine (H2.out _).mono ?_
  rintro e w3 ⟨rfl, bb⟩
  replace bb := nextw (w0 := w2) (by exact sm) bb
  replace B_z0 := mv B_z0 bb
  replace B_z1 := mv B_z1 bb
  replace B_z2 := mv B_z2 bb
  replace L := Lib.hid (PL.below L.out bb)
  replace HB := nx HB bb
  clear bb
  go_wp2
  go_ret
  exact ⟨(by first | rfl | exact rbt (by omega) | exact rbf (by omega)), nextw HB.out (by exact sm)⟩

set_option maxRecDepth 100000 in
set_option maxHeartbeats 4000000 in
theorem LMeets_w2 (x y x0 y0 x1 y1 a b : Int) (A : Option Addr) (n c : Nat) (l : List P2)   (dd0 : ((n : Nat) : Int) ≤ 40) (dd1 : x0 ≤ a) (dd2 : x1 < a) (w : World) {lo_L hi_L : Nat} (L : PL w lo_L hi_L A n c l) :
    Calls Try.prog 11 #[.agg #[.int .i64 x, .int .i64 y, .slice A n c], .agg #[.int .i64 x0, .int .i64 y0, .int .i64 x1, .int .i64 y1], .agg #[.int .i64 a, .int .i64 b]] w fun e w' => e = .returned (.bool true) ∧ Below w.heap.size w w' := by
  replace L := Lib.hid L
  have H0 := Lib.hid (fun w => awake_w0 w)
  have H2 := Lib.hid (fun w => awake_w0 w)
  obtain ⟨HB, B_z0, B_z1, B_z2⟩ := box3 w 24 #[.int .i64 x, .int .i64 y, .slice A n c] 31 #[.int .i64 x0, .int .i64 y0, .int .i64 x1, .int .i64 y1] 39 #[.int .i64 a, .int .i64 b]
  replace L := Lib.hid (PL.below L.out HB.out)
  go_enter Try.func11, Try.ntmps11
  go_upto_region 1 with (fail)
  generalize ((w.alloc (.cells #[.int .i64 x, .int .i64 y, .slice A n c] 24)).alloc (.cells #[.int .i64 x0, .int .i64 y0, .int .i64 x1, .int .i64 y1] 31)).alloc (.cells #[.int .i64 a, .int .i64 b] 39) = W0 at *
  go_wp2_with fail
  refine (H0.out _).mono ?_
  rintro e w1 ⟨rfl, bb⟩
  replace bb := nextw (w0 := W0) (by exact sm) bb
  replace B_z0 := mv B_z0 bb
  replace B_z1 := mv B_z1 bb
  replace B_z2 := mv B_z2 bb
  replace L := Lib.hid (PL.below L.out bb)
  replace HB := nx HB bb
  clear bb
  obtain ⟨c0z0, c1z0, c2z0⟩ := cells3 B_z0
  go_wp2_with fail
  refine (few_w0 x y _ _ _ l _ (PL.below L.out (by exact sm))).mono ?_
  clear c0z0 c1z0 c2z0
  rintro e w2 ⟨rfl, bb⟩
  replace bb := nextw (w0 := w1) (by exact sm) bb
  replace B_z0 := mv B_z0 bb
  replace B_z1 := mv B_z1 bb
  replace B_z2 := mv B_z2 bb
  replace L := Lib.hid (PL.below L.out bb)
  replace HB := nx HB bb
  clear bb
  obtain ⟨c0z2, c1z2⟩ := cells2 B_z2
  obtain ⟨c0z1, c1z1, c2z1, c3z1⟩ := cells4 B_z1
  go_wp2_with fail
  refine (H2.out _).mono ?_
  clear c0z2 c1z2 c0z1 c1z1 c2z1 c3z1
  rintro e w3 ⟨rfl, bb⟩
  replace bb := nextw (w0 := w2) (by exact sm) bb
  replace B_z0 := mv B_z0 bb
  replace B_z1 := mv B_z1 bb
  replace B_z2 := mv B_z2 bb
  replace L := Lib.hid (PL.below L.out bb)
  replace HB := nx HB bb
  clear bb
  go_wp2
  go_ret
  exact ⟨(by first | rfl | exact rbt (by omega) | exact rbf (by omega)), nextw HB.out (by exact sm)⟩

set_option maxRecDepth 100000 in
set_option maxHeartbeats 4000000 in
theorem LMeets_w3 (x y x0 y0 x1 y1 a b : Int) (A : Option Addr) (n c : Nat) (l : List P2)   (dd0 : ((n : Nat) : Int) ≤ 40) (dd1 : x0 ≤ a) (dd2 : a ≤ x1) (dd3 : b < y0) (w : World) {lo_L hi_L : Nat} (L : PL w lo_L hi_L A n c l) :
    Calls Try.prog 11 #[.agg #[.int .i64 x, .int .i64 y, .slice A n c], .agg #[.int .i64 x0, .int .i64 y0, .int .i64 x1, .int .i64 y1], .agg #[.int .i64 a, .int .i64 b]] w fun e w' => e = .returned (.bool true) ∧ Below w.heap.size w w' := by
  replace L := Lib.hid L
  have H0 := Lib.hid (fun w => awake_w0 w)
  have H2 := Lib.hid (fun w => awake_w0 w)
  obtain ⟨HB, B_z0, B_z1, B_z2⟩ := box3 w 24 #[.int .i64 x, .int .i64 y, .slice A n c] 31 #[.int .i64 x0, .int .i64 y0, .int .i64 x1, .int .i64 y1] 39 #[.int .i64 a, .int .i64 b]
  replace L := Lib.hid (PL.below L.out HB.out)
  go_enter Try.func11, Try.ntmps11
  go_upto_region 1 with (fail)
  generalize ((w.alloc (.cells #[.int .i64 x, .int .i64 y, .slice A n c] 24)).alloc (.cells #[.int .i64 x0, .int .i64 y0, .int .i64 x1, .int .i64 y1] 31)).alloc (.cells #[.int .i64 a, .int .i64 b] 39) = W0 at *
  go_wp2_with fail
  refine (H0.out _).mono ?_
  rintro e w1 ⟨rfl, bb⟩
  replace bb := nextw (w0 := W0) (by exact sm) bb
  replace B_z0 := mv B_z0 bb
  replace B_z1 := mv B_z1 bb
  replace B_z2 := mv B_z2 bb
  replace L := Lib.hid (PL.below L.out bb)
  replace HB := nx HB bb
  clear bb
  obtain ⟨c0z0, c1z0, c2z0⟩ := cells3 B_z0
  go_wp2_with fail
  refine (few_w0 x y _ _ _ l _ (PL.below L.out (by exact sm))).mono ?_
  clear c0z0 c1z0 c2z0
  rintro e w2 ⟨rfl, bb⟩
  replace bb := nextw (w0 := w1) (by exact sm) bb
  replace B_z0 := mv B_z0 bb
  replace B_z1 := mv B_z1 bb
  replace B_z2 := mv B_z2 bb
  replace L := Lib.hid (PL.below L.out bb)
  replace HB := nx HB bb
  clear bb
  obtain ⟨c0z2, c1z2⟩ := cells2 B_z2
  obtain ⟨c0z1, c1z1, c2z1, c3z1⟩ := cells4 B_z1
  go_wp2_with fail
  refine (H2.out _).mono ?_
  clear c0z2 c1z2 c0z1 c1z1 c2z1 c3z1
  rintro e w3 ⟨rfl, bb⟩
  replace bb := nextw (w0 := w2) (by exact sm) bb
  replace B_z0 := mv B_z0 bb
  replace B_z1 := mv B_z1 bb
  replace B_z2 := mv B_z2 bb
  replace L := Lib.hid (PL.below L.out bb)
  replace HB := nx HB bb
  clear bb
  go_wp2
  go_ret
  exact ⟨(by first | rfl | exact rbt (by omega) | exact rbf (by omega)), nextw HB.out (by exact sm)⟩

set_option maxRecDepth 100000 in
set_option maxHeartbeats 4000000 in
theorem LMeets_w4 (x y x0 y0 x1 y1 a b : Int) (A : Option Addr) (n c : Nat) (l : List P2)   (dd0 : ((n : Nat) : Int) ≤ 40) (dd1 : x0 ≤ a) (dd2 : a ≤ x1) (dd3 : y0 ≤ b) (dd4 : y1 < b) (w : World) {lo_L hi_L : Nat} (L : PL w lo_L hi_L A n c l) :
    Calls Try.prog 11 #[.agg #[.int .i64 x, .int .i64 y, .slice A n c], .agg #[.int .i64 x0, .int .i64 y0, .int .i64 x1, .int .i64 y1], .agg #[.int .i64 a, .int .i64 b]] w fun e w' => e = .returned (.bool true) ∧ Below w.heap.size w w' := by
  replace L := Lib.hid L
  have H0 := Lib.hid (fun w => awake_w0 w)
  have H2 := Lib.hid (fun w => awake_w0 w)
  obtain ⟨HB, B_z0, B_z1, B_z2⟩ := box3 w 24 #[.int .i64 x, .int .i64 y, .slice A n c] 31 #[.int .i64 x0, .int .i64 y0, .int .i64 x1, .int .i64 y1] 39 #[.int .i64 a, .int .i64 b]
  replace L := Lib.hid (PL.below L.out HB.out)
  go_enter Try.func11, Try.ntmps11
  go_upto_region 1 with (fail)
  generalize ((w.alloc (.cells #[.int .i64 x, .int .i64 y, .slice A n c] 24)).alloc (.cells #[.int .i64 x0, .int .i64 y0, .int .i64 x1, .int .i64 y1] 31)).alloc (.cells #[.int .i64 a, .int .i64 b] 39) = W0 at *
  go_wp2_with fail
  refine (H0.out _).mono ?_
  rintro e w1 ⟨rfl, bb⟩
  replace bb := nextw (w0 := W0) (by exact sm) bb
  replace B_z0 := mv B_z0 bb
  replace B_z1 := mv B_z1 bb
  replace B_z2 := mv B_z2 bb
  replace L := Lib.hid (PL.below L.out bb)
  replace HB := nx HB bb
  clear bb
  obtain ⟨c0z0, c1z0, c2z0⟩ := cells3 B_z0
  go_wp2_with fail
  refine (few_w0 x y _ _ _ l _ (PL.below L.out (by exact sm))).mono ?_
  clear c0z0 c1z0 c2z0
  rintro e w2 ⟨rfl, bb⟩
  replace bb := nextw (w0 := w1) (by exact sm) bb
  replace B_z0 := mv B_z0 bb
  replace B_z1 := mv B_z1 bb
  replace B_z2 := mv B_z2 bb
  replace L := Lib.hid (PL.below L.out bb)
  replace HB := nx HB bb
  clear bb
  obtain ⟨c0z2, c1z2⟩ := cells2 B_z2
  obtain ⟨c0z1, c1z1, c2z1, c3z1⟩ := cells4 B_z1
  go_wp2_with fail
  refine (H2.out _).mono ?_
  clear c0z2 c1z2 c0z1 c1z1 c2z1 c3z1
  rintro e w3 ⟨rfl, bb⟩
  replace bb := nextw (w0 := w2) (by exact sm) bb
  replace B_z0 := mv B_z0 bb
  replace B_z1 := mv B_z1 bb
  replace B_z2 := mv B_z2 bb
  replace L := Lib.hid (PL.below L.out bb)
  replace HB := nx HB bb
  clear bb
  go_wp2
  go_ret
  exact ⟨(by first | rfl | exact rbt (by omega) | exact rbf (by omega)), nextw HB.out (by exact sm)⟩

set_option maxRecDepth 100000 in
set_option maxHeartbeats 4000000 in
theorem LMeets_w5 (x y x0 y0 x1 y1 a b : Int) (A : Option Addr) (n c : Nat) (l : List P2)   (dd0 : ((n : Nat) : Int) ≤ 40) (dd1 : x0 ≤ a) (dd2 : a ≤ x1) (dd3 : y0 ≤ b) (dd4 : b ≤ y1) (dd5 : Wi a 4194304) (dd6 : Wi b 4194304) (dd7 : HasP x y l (2 * a) (2 * b)) (w : World) {lo_L hi_L : Nat} (L : PL w lo_L hi_L A n c l) :
    Calls Try.prog 11 #[.agg #[.int .i64 x, .int .i64 y, .slice A n c], .agg #[.int .i64 x0, .int .i64 y0, .int .i64 x1, .int .i64 y1], .agg #[.int .i64 a, .int .i64 b]] w fun e w' => e = .returned (.bool (!decide (ApartP x y l x0 y0 x1 y1))) ∧ Below w.heap.size w w' := by
  replace L := Lib.hid L
  have H0 := Lib.hid (fun w => awake_w0 w)
  have H2 := Lib.hid (fun w => Size_is a 4194304 (by omega) w)
  have H3 := Lib.hid (fun w => Size_is b 4194304 (by omega) w)
  have dd5x1 := dd5.1
  have dd5x2 := dd5.2
  have dd6x1 := dd6.1
  have dd6x2 := dd6.2
  obtain ⟨HB, B_z0, B_z1, B_z2⟩ := box3 w 24 #[.int .i64 x, .int .i64 y, .slice A n c] 31 #[.int .i64 x0, .int .i64 y0, .int .i64 x1, .int .i64 y1] 39 #[.int .i64 a, .int .i64 b]
  replace L := Lib.hid (PL.below L.out HB.out)
  go_enter Try.func11, Try.ntmps11
  go_upto_region 1 with (fail)
  generalize ((w.alloc (.cells #[.int .i64 x, .int .i64 y, .slice A n c] 24)).alloc (.cells #[.int .i64 x0, .int .i64 y0, .int .i64 x1, .int .i64 y1] 31)).alloc (.cells #[.int .i64 a, .int .i64 b] 39) = W0 at *
  go_wp2_with fail
  refine (H0.out _).mono ?_
  rintro e w1 ⟨rfl, bb⟩
  replace bb := nextw (w0 := W0) (by exact sm) bb
  replace B_z0 := mv B_z0 bb
  replace B_z1 := mv B_z1 bb
  replace B_z2 := mv B_z2 bb
  replace L := Lib.hid (PL.below L.out bb)
  replace HB := nx HB bb
  clear bb
  obtain ⟨c0z0, c1z0, c2z0⟩ := cells3 B_z0
  go_wp2_with fail
  refine (few_w0 x y _ _ _ l _ (PL.below L.out (by exact sm))).mono ?_
  clear c0z0 c1z0 c2z0
  rintro e w2 ⟨rfl, bb⟩
  replace bb := nextw (w0 := w1) (by exact sm) bb
  replace B_z0 := mv B_z0 bb
  replace B_z1 := mv B_z1 bb
  replace B_z2 := mv B_z2 bb
  replace L := Lib.hid (PL.below L.out bb)
  replace HB := nx HB bb
  clear bb
  obtain ⟨c0z2, c1z2⟩ := cells2 B_z2
  obtain ⟨c0z1, c1z1, c2z1, c3z1⟩ := cells4 B_z1
  go_wp2_with fail
  refine (H2.out _).mono ?_
  clear c0z2 c1z2 c0z1 c1z1 c2z1 c3z1
  rintro e w3 ⟨rfl, bb⟩
  replace bb := nextw (w0 := w2) (by exact sm) bb
  replace B_z0 := mv B_z0 bb
  replace B_z1 := mv B_z1 bb
  replace B_z2 := mv B_z2 bb
  replace L := Lib.hid (PL.below L.out bb)
  replace HB := nx HB bb
  clear bb
  obtain ⟨c0z2, c1z2⟩ := cells2 B_z2
  go_wp2_with fail
  refine (H3.out _).mono ?_
  clear c0z2 c1z2
  rintro e w4 ⟨rfl, bb⟩
  replace bb := nextw (w0 := w3) (by exact sm) bb
  replace B_z0 := mv B_z0 bb
  replace B_z1 := mv B_z1 bb
  replace B_z2 := mv B_z2 bb
  replace L := Lib.hid (PL.below L.out bb)
  replace HB := nx HB bb
  clear bb
  obtain ⟨c0z0, c1z0, c2z0⟩ := cells3 B_z0
  obtain ⟨c0z2, c1z2⟩ := cells2 B_z2
  go_wp2_with fail
  refine (Has_q x y (2 * a) (2 * b) _ _ _ l (by omega) _ (PL.below L.out (by exact sm))).mono ?_
  clear c0z0 c1z0 c2z0 c0z2 c1z2
  rintro e w5 ⟨rfl, bb⟩
  replace bb := nextw (w0 := w4) (by exact sm) bb
  replace B_z0 := mv B_z0 bb
  replace B_z1 := mv B_z1 bb
  replace B_z2 := mv B_z2 bb
  replace L := Lib.hid (PL.below L.out bb)
  replace HB := nx HB bb
  clear bb
  obtain ⟨c0z0, c1z0, c2z0⟩ := cells3 B_z0
  obtain ⟨c0z2, c1z2⟩ := cells2 B_z2
  go_wp2_with fail
  refine (RHas_q x y (2 * a) (2 * b) _ _ _ l (by omega) _ (PL.below L.out (by exact sm))).mono ?_
  clear c0z0 c1z0 c2z0 c0z2 c1z2
  rintro e w6 ⟨rfl, bb⟩
  replace bb := nextw (w0 := w5) (by exact sm) bb
  replace B_z0 := mv B_z0 bb
  replace B_z1 := mv B_z1 bb
  replace B_z2 := mv B_z2 bb
  replace L := Lib.hid (PL.below L.out bb)
  replace HB := nx HB bb
  clear bb
  obtain ⟨c0z0, c1z0, c2z0⟩ := cells3 B_z0
  obtain ⟨c0z1, c1z1, c2z1, c3z1⟩ := cells4 B_z1
  go_wp2_with fail
  refine (Apart_q x y x0 y0 x1 y1 _ _ _ l (by omega) _ (PL.below L.out (by exact sm))).mono ?_
  clear c0z0 c1z0 c2z0 c0z1 c1z1 c2z1 c3z1
  rintro e w7 ⟨rfl, bb⟩
  replace bb := nextw (w0 := w6) (by exact sm) bb
  replace B_z0 := mv B_z0 bb
  replace B_z1 := mv B_z1 bb
  replace B_z2 := mv B_z2 bb
  replace L := Lib.hid (PL.below L.out bb)
  replace HB := nx HB bb
  clear bb
  go_wp2
  go_ret
  exact ⟨(by first | rfl | exact rbt (by omega) | exact rbf (by omega)), nextw HB.out (by exact sm)⟩

set_option maxRecDepth 100000 in
set_option maxHeartbeats 4000000 in
theorem LMeets_w6 (x y x0 y0 x1 y1 a b : Int) (A : Option Addr) (n c : Nat) (l : List P2)   (dd0 : ((n : Nat) : Int) ≤ 40) (dd1 : x0 ≤ a) (dd2 : a ≤ x1) (dd3 : y0 ≤ b) (dd4 : b ≤ y1) (dd5 : ¬ (Wi a 4194304)) (w : World) {lo_L hi_L : Nat} (L : PL w lo_L hi_L A n c l) :
    Calls Try.prog 11 #[.agg #[.int .i64 x, .int .i64 y, .slice A n c], .agg #[.int .i64 x0, .int .i64 y0, .int .i64 x1, .int .i64 y1], .agg #[.int .i64 a, .int .i64 b]] w fun e w' => e = .returned (.bool true) ∧ Below w.heap.size w w' := by
  replace L := Lib.hid L
  have H0 := Lib.hid (fun w => awake_w0 w)
  have H2 := Lib.hid (fun w => Size_is a 4194304 (by omega) w)
  have H3 := Lib.hid (fun w => awake_w0 w)
  obtain ⟨HB, B_z0, B_z1, B_z2⟩ := box3 w 24 #[.int .i64 x, .int .i64 y, .slice A n c] 31 #[.int .i64 x0, .int .i64 y0, .int .i64 x1, .int .i64 y1] 39 #[.int .i64 a, .int .i64 b]
  replace L := Lib.hid (PL.below L.out HB.out)
  go_enter Try.func11, Try.ntmps11
  go_upto_region 1 with (fail)
  generalize ((w.alloc (.cells #[.int .i64 x, .int .i64 y, .slice A n c] 24)).alloc (.cells #[.int .i64 x0, .int .i64 y0, .int .i64 x1, .int .i64 y1] 31)).alloc (.cells #[.int .i64 a, .int .i64 b] 39) = W0 at *
  go_wp2_with fail
  refine (H0.out _).mono ?_
  rintro e w1 ⟨rfl, bb⟩
  replace bb := nextw (w0 := W0) (by exact sm) bb
  replace B_z0 := mv B_z0 bb
  replace B_z1 := mv B_z1 bb
  replace B_z2 := mv B_z2 bb
  replace L := Lib.hid (PL.below L.out bb)
  replace HB := nx HB bb
  clear bb
  obtain ⟨c0z0, c1z0, c2z0⟩ := cells3 B_z0
  go_wp2_with fail
  refine (few_w0 x y _ _ _ l _ (PL.below L.out (by exact sm))).mono ?_
  clear c0z0 c1z0 c2z0
  rintro e w2 ⟨rfl, bb⟩
  replace bb := nextw (w0 := w1) (by exact sm) bb
  replace B_z0 := mv B_z0 bb
  replace B_z1 := mv B_z1 bb
  replace B_z2 := mv B_z2 bb
  replace L := Lib.hid (PL.below L.out bb)
  replace HB := nx HB bb
  clear bb
  obtain ⟨c0z2, c1z2⟩ := cells2 B_z2
  obtain ⟨c0z1, c1z1, c2z1, c3z1⟩ := cells4 B_z1
  go_wp2_with fail
  refine (H2.out _).mono ?_
  clear c0z2 c1z2 c0z1 c1z1 c2z1 c3z1
  rintro e w3 ⟨rfl, bb⟩
  replace bb := nextw (w0 := w2) (by exact sm) bb
  replace B_z0 := mv B_z0 bb
  replace B_z1 := mv B_z1 bb
  replace B_z2 := mv B_z2 bb
  replace L := Lib.hid (PL.below L.out bb)
  replace HB := nx HB bb
  clear bb
  go_wp2_with fail
  refine (H3.out _).mono ?_
  rintro e w4 ⟨rfl, bb⟩
  replace bb := nextw (w0 := w3) (by exact sm) bb
  replace B_z0 := mv B_z0 bb
  replace B_z1 := mv B_z1 bb
  replace B_z2 := mv B_z2 bb
  replace L := Lib.hid (PL.below L.out bb)
  replace HB := nx HB bb
  clear bb
  go_wp2
  go_ret
  exact ⟨(by first | rfl | exact rbt (by omega) | exact rbf (by omega)), nextw HB.out (by exact sm)⟩

set_option maxRecDepth 100000 in
set_option maxHeartbeats 4000000 in
theorem LMeets_w7 (x y x0 y0 x1 y1 a b : Int) (A : Option Addr) (n c : Nat) (l : List P2)   (dd0 : ((n : Nat) : Int) ≤ 40) (dd1 : x0 ≤ a) (dd2 : a ≤ x1) (dd3 : y0 ≤ b) (dd4 : b ≤ y1) (dd5 : Wi a 4194304) (dd6 : ¬ (Wi b 4194304)) (w : World) {lo_L hi_L : Nat} (L : PL w lo_L hi_L A n c l) :
    Calls Try.prog 11 #[.agg #[.int .i64 x, .int .i64 y, .slice A n c], .agg #[.int .i64 x0, .int .i64 y0, .int .i64 x1, .int .i64 y1], .agg #[.int .i64 a, .int .i64 b]] w fun e w' => e = .returned (.bool true) ∧ Below w.heap.size w w' := by
  replace L := Lib.hid L
  have H0 := Lib.hid (fun w => awake_w0 w)
  have H2 := Lib.hid (fun w => Size_is a 4194304 (by omega) w)
  have H3 := Lib.hid (fun w => Size_is b 4194304 (by omega) w)
  have H4 := Lib.hid (fun w => awake_w0 w)
  have dd5x1 := dd5.1
  have dd5x2 := dd5.2
  obtain ⟨HB, B_z0, B_z1, B_z2⟩ := box3 w 24 #[.int .i64 x, .int .i64 y, .slice A n c] 31 #[.int .i64 x0, .int .i64 y0, .int .i64 x1, .int .i64 y1] 39 #[.int .i64 a, .int .i64 b]
  replace L := Lib.hid (PL.below L.out HB.out)
  go_enter Try.func11, Try.ntmps11
  go_upto_region 1 with (fail)
  generalize ((w.alloc (.cells #[.int .i64 x, .int .i64 y, .slice A n c] 24)).alloc (.cells #[.int .i64 x0, .int .i64 y0, .int .i64 x1, .int .i64 y1] 31)).alloc (.cells #[.int .i64 a, .int .i64 b] 39) = W0 at *
  go_wp2_with fail
  refine (H0.out _).mono ?_
  rintro e w1 ⟨rfl, bb⟩
  replace bb := nextw (w0 := W0) (by exact sm) bb
  replace B_z0 := mv B_z0 bb
  replace B_z1 := mv B_z1 bb
  replace B_z2 := mv B_z2 bb
  replace L := Lib.hid (PL.below L.out bb)
  replace HB := nx HB bb
  clear bb
  obtain ⟨c0z0, c1z0, c2z0⟩ := cells3 B_z0
  go_wp2_with fail
  refine (few_w0 x y _ _ _ l _ (PL.below L.out (by exact sm))).mono ?_
  clear c0z0 c1z0 c2z0
  rintro e w2 ⟨rfl, bb⟩
  replace bb := nextw (w0 := w1) (by exact sm) bb
  replace B_z0 := mv B_z0 bb
  replace B_z1 := mv B_z1 bb
  replace B_z2 := mv B_z2 bb
  replace L := Lib.hid (PL.below L.out bb)
  replace HB := nx HB bb
  clear bb
  obtain ⟨c0z2, c1z2⟩ := cells2 B_z2
  obtain ⟨c0z1, c1z1, c2z1, c3z1⟩ := cells4 B_z1
  go_wp2_with fail
  refine (H2.out _).mono ?_
  clear c0z2 c1z2 c0z1 c1z1 c2z1 c3z1
  rintro e w3 ⟨rfl, bb⟩
  replace bb := nextw (w0 := w2) (by exact sm) bb
  replace B_z0 := mv B_z0 bb
  replace B_z1 := mv B_z1 bb
  replace B_z2 := mv B_z2 bb
  replace L := Lib.hid (PL.below L.out bb)
  replace HB := nx HB bb
  clear bb
  obtain ⟨c0z2, c1z2⟩ := cells2 B_z2
  go_wp2_with fail
  refine (H3.out _).mono ?_
  clear c0z2 c1z2
  rintro e w4 ⟨rfl, bb⟩
  replace bb := nextw (w0 := w3) (by exact sm) bb
  replace B_z0 := mv B_z0 bb
  replace B_z1 := mv B_z1 bb
  replace B_z2 := mv B_z2 bb
  replace L := Lib.hid (PL.below L.out bb)
  replace HB := nx HB bb
  clear bb
  go_wp2_with fail
  refine (H4.out _).mono ?_
  rintro e w5 ⟨rfl, bb⟩
  replace bb := nextw (w0 := w4) (by exact sm) bb
  replace B_z0 := mv B_z0 bb
  replace B_z1 := mv B_z1 bb
  replace B_z2 := mv B_z2 bb
  replace L := Lib.hid (PL.below L.out bb)
  replace HB := nx HB bb
  clear bb
  go_wp2
  go_ret
  exact ⟨(by first | rfl | exact rbt (by omega) | exact rbf (by omega)), nextw HB.out (by exact sm)⟩

set_option maxRecDepth 100000 in
set_option maxHeartbeats 4000000 in
theorem LMeets_w8 (x y x0 y0 x1 y1 a b : Int) (A : Option Addr) (n c : Nat) (l : List P2)   (dd0 : ((n : Nat) : Int) ≤ 40) (dd1 : x0 ≤ a) (dd2 : a ≤ x1) (dd3 : y0 ≤ b) (dd4 : b ≤ y1) (dd5 : Wi a 4194304) (dd6 : Wi b 4194304) (dd7 : ¬ (HasP x y l (2 * a) (2 * b))) (w : World) {lo_L hi_L : Nat} (L : PL w lo_L hi_L A n c l) :
    Calls Try.prog 11 #[.agg #[.int .i64 x, .int .i64 y, .slice A n c], .agg #[.int .i64 x0, .int .i64 y0, .int .i64 x1, .int .i64 y1], .agg #[.int .i64 a, .int .i64 b]] w fun e w' => e = .returned (.bool true) ∧ Below w.heap.size w w' := by
  replace L := Lib.hid L
  have H0 := Lib.hid (fun w => awake_w0 w)
  have H2 := Lib.hid (fun w => Size_is a 4194304 (by omega) w)
  have H3 := Lib.hid (fun w => Size_is b 4194304 (by omega) w)
  have dd5x1 := dd5.1
  have dd5x2 := dd5.2
  have dd6x1 := dd6.1
  have dd6x2 := dd6.2
  obtain ⟨HB, B_z0, B_z1, B_z2⟩ := box3 w 24 #[.int .i64 x, .int .i64 y, .slice A n c] 31 #[.int .i64 x0, .int .i64 y0, .int .i64 x1, .int .i64 y1] 39 #[.int .i64 a, .int .i64 b]
  replace L := Lib.hid (PL.below L.out HB.out)
  go_enter Try.func11, Try.ntmps11
  go_upto_region 1 with (fail)
  generalize ((w.alloc (.cells #[.int .i64 x, .int .i64 y, .slice A n c] 24)).alloc (.cells #[.int .i64 x0, .int .i64 y0, .int .i64 x1, .int .i64 y1] 31)).alloc (.cells #[.int .i64 a, .int .i64 b] 39) = W0 at *
  go_wp2_with fail
  refine (H0.out _).mono ?_
  rintro e w1 ⟨rfl, bb⟩
  replace bb := nextw (w0 := W0) (by exact sm) bb
  replace B_z0 := mv B_z0 bb
  replace B_z1 := mv B_z1 bb
  replace B_z2 := mv B_z2 bb
  replace L := Lib.hid (PL.below L.out bb)
  replace HB := nx HB bb
  clear bb
  obtain ⟨c0z0, c1z0, c2z0⟩ := cells3 B_z0
  go_wp2_with fail
  refine (few_w0 x y _ _ _ l _ (PL.below L.out (by exact sm))).mono ?_
  clear c0z0 c1z0 c2z0
  rintro e w2 ⟨rfl, bb⟩
  replace bb := nextw (w0 := w1) (by exact sm) bb
  replace B_z0 := mv B_z0 bb
  replace B_z1 := mv B_z1 bb
  replace B_z2 := mv B_z2 bb
  replace L := Lib.hid (PL.below L.out bb)
  replace HB := nx HB bb
  clear bb
  obtain ⟨c0z2, c1z2⟩ := cells2 B_z2
  obtain ⟨c0z1, c1z1, c2z1, c3z1⟩ := cells4 B_z1
  go_wp2_with fail
  refine (H2.out _).mono ?_
  clear c0z2 c1z2 c0z1 c1z1 c2z1 c3z1
  rintro e w3 ⟨rfl, bb⟩
  replace bb := nextw (w0 := w2) (by exact sm) bb
  replace B_z0 := mv B_z0 bb
  replace B_z1 := mv B_z1 bb
  replace B_z2 := mv B_z2 bb
  replace L := Lib.hid (PL.below L.out bb)
  replace HB := nx HB bb
  clear bb
  obtain ⟨c0z2, c1z2⟩ := cells2 B_z2
  go_wp2_with fail
  refine (H3.out _).mono ?_
  clear c0z2 c1z2
  rintro e w4 ⟨rfl, bb⟩
  replace bb := nextw (w0 := w3) (by exact sm) bb
  replace B_z0 := mv B_z0 bb
  replace B_z1 := mv B_z1 bb
  replace B_z2 := mv B_z2 bb
  replace L := Lib.hid (PL.below L.out bb)
  replace HB := nx HB bb
  clear bb
  obtain ⟨c0z0, c1z0, c2z0⟩ := cells3 B_z0
  obtain ⟨c0z2, c1z2⟩ := cells2 B_z2
  go_wp2_with fail
  refine (Has_q x y (2 * a) (2 * b) _ _ _ l (by omega) _ (PL.below L.out (by exact sm))).mono ?_
  clear c0z0 c1z0 c2z0 c0z2 c1z2
  rintro e w5 ⟨rfl, bb⟩
  replace bb := nextw (w0 := w4) (by exact sm) bb
  replace B_z0 := mv B_z0 bb
  replace B_z1 := mv B_z1 bb
  replace B_z2 := mv B_z2 bb
  replace L := Lib.hid (PL.below L.out bb)
  replace HB := nx HB bb
  clear bb
  go_wp2
  go_ret
  exact ⟨(by first | rfl | exact rbt (by omega) | exact rbf (by omega)), nextw HB.out (by exact sm)⟩

theorem Meets_any (x y x0 y0 x1 y1 a b : Int) (A : Option Addr) (n c : Nat) (l : List P2) (w : World) {lo hi : Nat} (L : PL w lo hi A n c l) :
    Calls Try.prog 11 #[.agg #[.int .i64 x, .int .i64 y, .slice A n c], .agg #[.int .i64 x0, .int .i64 y0, .int .i64 x1, .int .i64 y1], .agg #[.int .i64 a, .int .i64 b]] w fun e w' => e = .returned (.bool true) ∧ Below w.heap.size w w' := by
  by_cases dd0 : ((n : Nat) : Int) ≤ 40
  · skip
    by_cases dd1 : a < x0
    · skip
      exact LMeets_w0 x y x0 y0 x1 y1 a b A n c l  dd0 dd1 w L
    · skip
      replace dd1 : x0 ≤ a := by omega
      by_cases dd2 : x1 < a
      · skip
        exact LMeets_w2 x y x0 y0 x1 y1 a b A n c l  dd0 dd1 dd2 w L
      · skip
        replace dd2 : a ≤ x1 := by omega
        by_cases dd3 : b < y0
        · skip
          exact LMeets_w3 x y x0 y0 x1 y1 a b A n c l  dd0 dd1 dd2 dd3 w L
        · skip
          replace dd3 : y0 ≤ b := by omega
          by_cases dd4 : y1 < b
          · skip
            exact LMeets_w4 x y x0 y0 x1 y1 a b A n c l  dd0 dd1 dd2 dd3 dd4 w L
          · skip
            replace dd4 : b ≤ y1 := by omega
            by_cases dd5 : Wi a 4194304
            · skip
              by_cases dd6 : Wi b 4194304
              · skip
                by_cases dd7 : HasP x y l (2 * a) (2 * b)
                · skip
                  have r := LMeets_w5 x y x0 y0 x1 y1 a b A n c l  dd0 dd1 dd2 dd3 dd4 dd5 dd6 dd7 w L
                  rw [decide_eq_false (not_apart dd7 (by omega) (by omega) (by omega) (by omega)), Bool.not_false] at r
                  exact r
                · skip
                  exact LMeets_w8 x y x0 y0 x1 y1 a b A n c l  dd0 dd1 dd2 dd3 dd4 dd5 dd6 dd7 w L
              · skip
                exact LMeets_w7 x y x0 y0 x1 y1 a b A n c l  dd0 dd1 dd2 dd3 dd4 dd5 dd6 w L
            · skip
              exact LMeets_w6 x y x0 y0 x1 y1 a b A n c l  dd0 dd1 dd2 dd3 dd4 dd5 w L
  · skip
    replace dd0 : 40 < ((n : Nat) : Int) := by omega
    exact LMeets_w1 x y x0 y0 x1 y1 a b A n c l  dd0 w L

set_option maxRecDepth 100000 in
set_option maxHeartbeats 4000000 in
theorem LApart_w0 (x y x0 y0 x1 y1 : Int) (A : Option Addr) (n c : Nat) (l : List P2)   (dd0 : ((n : Nat) : Int) ≤ 40) (dd1 : OkZ x y l) (dd2 : Wi x0 2097152) (dd3 : Wi y0 2097152) (dd4 : ApartP x y l x0 y0 x0 y0) (dd5 : HasP x y l (2 * x0) (2 * y0)) (w : World) {lo_L hi_L : Nat} (L : PL w lo_L hi_L A n c l) :
    Calls Try.prog 10 #[.agg #[.int .i64 x, .int .i64 y, .slice A n c], .agg #[.int .i64 x0, .int .i64 y0, .int .i64 x1, .int .i64 y1]] w fun e w' => e = .returned (.bool false) ∧ Below w.heap.size w w' := by
  replace L := Lib.hid L
  have H0 := Lib.hid (fun w => awake_w0 w)
  have H5 := Lib.hid (fun w => Size_is x0 2097152 (by omega) w)
  have H6 := Lib.hid (fun w => Size_is y0 2097152 (by omega) w)
  have dd1x1 := dd1.1.1
  have dd1x2 := dd1.1.2
  have dd1y1 := dd1.2.1.1
  have dd1y2 := dd1.2.1.2
  have dd2x1 := dd2.1
  have dd2x2 := dd2.2
  have dd3x1 := dd3.1
  have dd3x2 := dd3.2
  obtain ⟨HB, B_z0, B_z1⟩ := box2 w 24 #[.int .i64 x, .int .i64 y, .slice A n c] 31 #[.int .i64 x0, .int .i64 y0, .int .i64 x1, .int .i64 y1]
  replace L := Lib.hid (PL.below L.out HB.out)
  go_enter Try.func10, Try.ntmps10
  go_upto_region 1 with (fail)
  generalize (w.alloc (.cells #[.int .i64 x, .int .i64 y, .slice A n c] 24)).alloc (.cells #[.int .i64 x0, .int .i64 y0, .int .i64 x1, .int .i64 y1] 31) = W0 at *
  go_wp2_with fail
  refine (H0.out _).mono ?_
  rintro e w1 ⟨rfl, bb⟩
  replace bb := nextw (w0 := W0) (by exact sm) bb
  replace B_z0 := mv B_z0 bb
  replace B_z1 := mv B_z1 bb
  replace L := Lib.hid (PL.below L.out bb)
  replace HB := nx HB bb
  clear bb
  obtain ⟨c0z0, c1z0, c2z0⟩ := cells3 B_z0
  go_wp2_with fail
  refine (few_w0 x y _ _ _ l _ (PL.below L.out (by exact sm))).mono ?_
  clear c0z0 c1z0 c2z0
  rintro e w2 ⟨rfl, bb⟩
  replace bb := nextw (w0 := w1) (by exact sm) bb
  replace B_z0 := mv B_z0 bb
  replace B_z1 := mv B_z1 bb
  replace L := Lib.hid (PL.below L.out bb)
  replace HB := nx HB bb
  clear bb
  go_upto_region 3 with (fail)
  obtain ⟨c0z0, c1z0, c2z0⟩ := cells3 B_z0
  obtain ⟨c0z1, c1z1, c2z1, c3z1⟩ := cells4 B_z1
  have tk1x0 : True := trivial
  go_region_held3 (fun w' => w'.cell? ⟨w.heap.size, 0, none⟩ = some (.int .i64 x) ∧ w'.cell? ⟨w.heap.size, 1, none⟩ = some (.int .i64 y) ∧ w'.cell? ⟨w.heap.size, 2, none⟩ = some (.slice A n c) ∧ w'.cell? ⟨w.heap.size + 1, 0, none⟩ = some (.int .i64 x0) ∧ w'.cell? ⟨w.heap.size + 1, 1, none⟩ = some (.int .i64 y0) ∧ w'.cell? ⟨w.heap.size + 1, 2, none⟩ = some (.int .i64 x1) ∧ w'.cell? ⟨w.heap.size + 1, 3, none⟩ = some (.int .i64 y1)) (((try dsimp only); (repeat' apply And.intro) <;> (first | (with_reducible assumption) | ((repeat (first | (with_reducible refine Eq.trans (cell_drew1 _ _) ?_) | (with_reducible refine Eq.trans (cell_far (by omega) _ _ _) ?_) | (with_reducible refine Eq.trans (World.cell?_alloc_lt _ _ _ (by first | (dsimp only; omega) | (simp only [World.size_alloc, World.size_setCell]; omega))) ?_))); with_reducible assumption) | assumption | go_keep)))
    (first
      | (clear tk1x0; go_at_call 40; refine (Apart_q x y x0 y0 x1 y1 _ _ _ l (by omega) _ (PL.below L.out (by exact sm))).mono ?_; rintro e w3 ⟨rfl, bb⟩; replace bb := nextw (w0 := w2) (by exact sm) bb; replace B_z0 := mv B_z0 bb; replace B_z1 := mv B_z1 bb; replace L := Lib.hid (PL.below L.out bb); replace HB := nx HB bb; clear bb c0z0 c1z0 c2z0 c0z1 c1z1 c2z1 c3z1; have c0z0 : w3.cell? ⟨w.heap.size, 0, none⟩ = some (.int .i64 x) := B_z0.out.cell 0 rfl; have c1z0 : w3.cell? ⟨w.heap.size, 1, none⟩ = some (.int .i64 y) := B_z0.out.cell 1 rfl; have c2z0 : w3.cell? ⟨w.heap.size, 2, none⟩ = some (.slice A n c) := B_z0.out.cell 2 rfl; have c0z1 : w3.cell? ⟨w.heap.size + 1, 0, none⟩ = some (.int .i64 x0) := B_z1.out.cell 0 rfl; have c1z1 : w3.cell? ⟨w.heap.size + 1, 1, none⟩ = some (.int .i64 y0) := B_z1.out.cell 1 rfl; have c2z1 : w3.cell? ⟨w.heap.size + 1, 2, none⟩ = some (.int .i64 x1) := B_z1.out.cell 2 rfl; have c3z1 : w3.cell? ⟨w.heap.size + 1, 3, none⟩ = some (.int .i64 y1) := B_z1.out.cell 3 rfl; have tk1x1 : True := trivial)
      | (clear tk1x1; go_at_call 41; refine (RApart_q x y x0 y0 x1 y1 _ _ _ l (by omega) _ (PL.below L.out (by exact sm))).mono ?_; rintro e w4 ⟨rfl, bb⟩; replace bb := nextw (w0 := w3) (by exact sm) bb; replace B_z0 := mv B_z0 bb; replace B_z1 := mv B_z1 bb; replace L := Lib.hid (PL.below L.out bb); replace HB := nx HB bb; clear bb c0z0 c1z0 c2z0 c0z1 c1z1 c2z1 c3z1; have c0z0 : w4.cell? ⟨w.heap.size, 0, none⟩ = some (.int .i64 x) := B_z0.out.cell 0 rfl; have c1z0 : w4.cell? ⟨w.heap.size, 1, none⟩ = some (.int .i64 y) := B_z0.out.cell 1 rfl; have c2z0 : w4.cell? ⟨w.heap.size, 2, none⟩ = some (.slice A n c) := B_z0.out.cell 2 rfl; have c0z1 : w4.cell? ⟨w.heap.size + 1, 0, none⟩ = some (.int .i64 x0) := B_z1.out.cell 0 rfl; have c1z1 : w4.cell? ⟨w.heap.size + 1, 1, none⟩ = some (.int .i64 y0) := B_z1.out.cell 1 rfl; have c2z1 : w4.cell? ⟨w.heap.size + 1, 2, none⟩ = some (.int .i64 x1) := B_z1.out.cell 2 rfl; have c3z1 : w4.cell? ⟨w.heap.size + 1, 3, none⟩ = some (.int .i64 y1) := B_z1.out.cell 3 rfl; have tk1x2 : True := trivial))
  clear c0z0 c1z0 c2z0 c0z1 c1z1 c2z1 c3z1
  obtain ⟨c0z1, c1z1, c2z1, c3z1⟩ := cells4 B_z1
  have lt_z2z0 := B_z0.out.lt
  have lt_z2z1 := B_z1.out.lt
  obtain ⟨bb, B_z2⟩ := box1 w4 31 #[.int .i64 x0, .int .i64 y0, .int .i64 x0, .int .i64 y0]
  replace bb := bb.out
  replace B_z0 := mv B_z0 bb
  replace B_z1 := mv B_z1 bb
  replace L := Lib.hid (PL.below L.out bb)
  replace HB := nx HB bb
  clear bb
  go_upto_region 6 with (fail)
  clear c0z1 c1z1 c2z1 c3z1
  generalize w4.alloc (.cells #[.int .i64 x0, .int .i64 y0, .int .i64 x0, .int .i64 y0] 31) = WN3 at *
  obtain ⟨c0z0, c1z0, c2z0⟩ := cells3 B_z0
  go_wp2_with fail
  refine (RValid_is x y _ _ _ l (by omega) _ (PL.below L.out (by exact sm))).mono ?_
  clear c0z0 c1z0 c2z0
  rintro e w5 ⟨rfl, bb⟩
  replace bb := nextw (w0 := WN3) (by exact sm) bb
  replace B_z0 := mv B_z0 bb
  replace B_z1 := mv B_z1 bb
  replace B_z2 := mv B_z2 bb
  replace L := Lib.hid (PL.below L.out bb)
  replace HB := nx HB bb
  clear bb
  obtain ⟨c0z1, c1z1, c2z1, c3z1⟩ := cells4 B_z1
  go_wp2_with fail
  refine (H5.out _).mono ?_
  clear c0z1 c1z1 c2z1 c3z1
  rintro e w6 ⟨rfl, bb⟩
  replace bb := nextw (w0 := w5) (by exact sm) bb
  replace B_z0 := mv B_z0 bb
  replace B_z1 := mv B_z1 bb
  replace B_z2 := mv B_z2 bb
  replace L := Lib.hid (PL.below L.out bb)
  replace HB := nx HB bb
  clear bb
  obtain ⟨c0z1, c1z1, c2z1, c3z1⟩ := cells4 B_z1
  go_wp2_with fail
  refine (H6.out _).mono ?_
  clear c0z1 c1z1 c2z1 c3z1
  rintro e w7 ⟨rfl, bb⟩
  replace bb := nextw (w0 := w6) (by exact sm) bb
  replace B_z0 := mv B_z0 bb
  replace B_z1 := mv B_z1 bb
  replace B_z2 := mv B_z2 bb
  replace L := Lib.hid (PL.below L.out bb)
  replace HB := nx HB bb
  clear bb
  go_upto_region 8 with (fail)
  have wq8x0 : IntKind.i64.wrap (2 * x0) = 2 * x0 := by rw [IntKind.wrap_i64]; omega
  have wq8x1 : IntKind.i64.wrap (2 * y0) = 2 * y0 := by rw [IntKind.wrap_i64]; omega
  obtain ⟨c0z0, c1z0, c2z0⟩ := cells3 B_z0
  obtain ⟨c0z2, c1z2, c2z2, c3z2⟩ := cells4 B_z2
  obtain ⟨c0z1, c1z1, -, -⟩ := cells4 B_z1
  have tk2x0 : True := trivial
  go_region_held3 (fun w' => w'.cell? ⟨w.heap.size, 0, none⟩ = some (.int .i64 x) ∧ w'.cell? ⟨w.heap.size, 1, none⟩ = some (.int .i64 y) ∧ w'.cell? ⟨w.heap.size, 2, none⟩ = some (.slice A n c) ∧ w'.cell? ⟨w4.heap.size, 0, none⟩ = some (.int .i64 x0) ∧ w'.cell? ⟨w4.heap.size, 1, none⟩ = some (.int .i64 y0) ∧ w'.cell? ⟨w4.heap.size, 2, none⟩ = some (.int .i64 x0) ∧ w'.cell? ⟨w4.heap.size, 3, none⟩ = some (.int .i64 y0) ∧ w'.cell? ⟨w.heap.size + 1, 0, none⟩ = some (.int .i64 x0) ∧ w'.cell? ⟨w.heap.size + 1, 1, none⟩ = some (.int .i64 y0)) (((try dsimp only); (repeat' apply And.intro) <;> (first | (with_reducible assumption) | ((repeat (first | (with_reducible refine Eq.trans (cell_drew1 _ _) ?_) | (with_reducible refine Eq.trans (cell_far (by omega) _ _ _) ?_) | (with_reducible refine Eq.trans (World.cell?_alloc_lt _ _ _ (by first | (dsimp only; omega) | (simp only [World.size_alloc, World.size_setCell]; omega))) ?_))); with_reducible assumption) | assumption | go_keep)))
    (first
      | (clear tk2x0; go_at_call 40; refine (Apart_q x y x0 y0 x0 y0 _ _ _ l (by omega) _ (PL.below L.out (by exact sm))).mono ?_; rintro e w8 ⟨rfl, bb⟩; replace bb := nextw (w0 := w7) (by exact sm) bb; replace B_z0 := mv B_z0 bb; replace B_z1 := mv B_z1 bb; replace B_z2 := mv B_z2 bb; replace L := Lib.hid (PL.below L.out bb); replace HB := nx HB bb; clear bb c0z0 c1z0 c2z0 c0z2 c1z2 c2z2 c3z2 c0z1 c1z1; have c0z0 : w8.cell? ⟨w.heap.size, 0, none⟩ = some (.int .i64 x) := B_z0.out.cell 0 rfl; have c1z0 : w8.cell? ⟨w.heap.size, 1, none⟩ = some (.int .i64 y) := B_z0.out.cell 1 rfl; have c2z0 : w8.cell? ⟨w.heap.size, 2, none⟩ = some (.slice A n c) := B_z0.out.cell 2 rfl; have c0z2 : w8.cell? ⟨w4.heap.size, 0, none⟩ = some (.int .i64 x0) := B_z2.out.cell 0 rfl; have c1z2 : w8.cell? ⟨w4.heap.size, 1, none⟩ = some (.int .i64 y0) := B_z2.out.cell 1 rfl; have c2z2 : w8.cell? ⟨w4.heap.size, 2, none⟩ = some (.int .i64 x0) := B_z2.out.cell 2 rfl; have c3z2 : w8.cell? ⟨w4.heap.size, 3, none⟩ = some (.int .i64 y0) := B_z2.out.cell 3 rfl; have c0z1 : w8.cell? ⟨w.heap.size + 1, 0, none⟩ = some (.int .i64 x0) := B_z1.out.cell 0 rfl; have c1z1 : w8.cell? ⟨w.heap.size + 1, 1, none⟩ = some (.int .i64 y0) := B_z1.out.cell 1 rfl; have tk2x1 : True := trivial)
      | (clear tk2x1; go_at_call 33; refine (Has_q x y (2 * x0) (2 * y0) _ _ _ l (by omega) _ (PL.below L.out (by exact sm))).mono ?_; rintro e w9 ⟨rfl, bb⟩; replace bb := nextw (w0 := w8) (by exact sm) bb; replace B_z0 := mv B_z0 bb; replace B_z1 := mv B_z1 bb; replace B_z2 := mv B_z2 bb; replace L := Lib.hid (PL.below L.out bb); replace HB := nx HB bb; clear bb c0z0 c1z0 c2z0 c0z2 c1z2 c2z2 c3z2 c0z1 c1z1; have c0z0 : w9.cell? ⟨w.heap.size, 0, none⟩ = some (.int .i64 x) := B_z0.out.cell 0 rfl; have c1z0 : w9.cell? ⟨w.heap.size, 1, none⟩ = some (.int .i64 y) := B_z0.out.cell 1 rfl; have c2z0 : w9.cell? ⟨w.heap.size, 2, none⟩ = some (.slice A n c) := B_z0.out.cell 2 rfl; have c0z2 : w9.cell? ⟨w4.heap.size, 0, none⟩ = some (.int .i64 x0) := B_z2.out.cell 0 rfl; have c1z2 : w9.cell? ⟨w4.heap.size, 1, none⟩ = some (.int .i64 y0) := B_z2.out.cell 1 rfl; have c2z2 : w9.cell? ⟨w4.heap.size, 2, none⟩ = some (.int .i64 x0) := B_z2.out.cell 2 rfl; have c3z2 : w9.cell? ⟨w4.heap.size, 3, none⟩ = some (.int .i64 y0) := B_z2.out.cell 3 rfl; have c0z1 : w9.cell? ⟨w.heap.size + 1, 0, none⟩ = some (.int .i64 x0) := B_z1.out.cell 0 rfl; have c1z1 : w9.cell? ⟨w.heap.size + 1, 1, none⟩ = some (.int .i64 y0) := B_z1.out.cell 1 rfl; have tk2x2 : True := trivial))
  clear c0z0 c1z0 c2z0 c0z2 c1z2 c2z2 c3z2 c0z1 c1z1
  go_wp2
  go_ret
  exact ⟨(by first | rfl | exact rbt (by omega) | exact rbf (by omega)), nextw HB.out (by exact sm)⟩

set_option maxRecDepth 100000 in
set_option maxHeartbeats 4000000 in
theorem LApart_w1 (x y x0 y0 x1 y1 : Int) (A : Option Addr) (n c : Nat) (l : List P2)   (dd0 : 40 < ((n : Nat) : Int)) (w : World) {lo_L hi_L : Nat} (L : PL w lo_L hi_L A n c l) :
    Calls Try.prog 10 #[.agg #[.int .i64 x, .int .i64 y, .slice A n c], .agg #[.int .i64 x0, .int .i64 y0, .int .i64 x1, .int .i64 y1]] w fun e w' => e = .returned (.bool true) ∧ Below w.heap.size w w' := by
  replace L := Lib.hid L
  have H0 := Lib.hid (fun w => awake_w0 w)
  have H2 := Lib.hid (fun w => awake_w0 w)
  have dd0n : ¬ (((n : Nat) : Int) ≤ 40) := by omega
  have dd0o : decide (((n : Nat) : Int) ≤ 40) = false := decide_eq_false dd0n
  obtain ⟨HB, B_z0, B_z1⟩ := box2 w 24 #[.int .i64 x, .int .i64 y, .slice A n c] 31 #[.int .i64 x0, .int .i64 y0, .int .i64 x1, .int .i64 y1]
  replace L := Lib.hid (PL.below L.out HB.out)
  go_enter Try.func10, Try.ntmps10
  go_upto_region 1 with (fail)
  generalize (w.alloc (.cells #[.int .i64 x, .int .i64 y, .slice A n c] 24)).alloc (.cells #[.int .i64 x0, .int .i64 y0, .int .i64 x1, .int .i64 y1] 31) = W0 at *
  go_wp2_with fail
  refine (H0.out _).mono ?_
  rintro e w1 ⟨rfl, bb⟩
  replace bb := nextw (w0 := W0) (by exact sm) bb
  replace B_z0 := mv B_z0 bb
  replace B_z1 := mv B_z1 bb
  replace L := Lib.hid (PL.below L.out bb)
  replace HB := nx HB bb
  clear bb
  obtain ⟨c0z0, c1z0, c2z0⟩ := cells3 B_z0
  go_wp2_with fail
  refine (few_w0 x y _ _ _ l _ (PL.below L.out (by exact sm))).mono ?_
  clear c0z0 c1z0 c2z0
  rintro e w2 ⟨rfl, bb⟩
  replace bb := nextw (w0 := w1) (by exact sm) bb
  replace B_z0 := mv B_z0 bb
  replace B_z1 := mv B_z1 bb
  replace L := Lib.hid (PL.below L.out bb)
  replace HB := nx HB bb
  clear bb
  go_wp2_with fail
  refine (H2.out _).mono ?_
  rintro e w3 ⟨rfl, bb⟩
  replace bb := nextw (w0 := w2) (by exact sm) bb
  replace B_z0 := mv B_z0 bb
  replace B_z1 := mv B_z1 bb
  replace L := Lib.hid (PL.below L.out bb)
  replace HB := nx HB bb
  clear bb
  go_wp2
  go_ret
  exact ⟨(by first | rfl | exact rbt (by omega) | exact rbf (by omega)), nextw HB.out (by exact sm)⟩

set_option maxRecDepth 100000 in
set_option maxHeartbeats 4000000 in
theorem LApart_w2 (x y x0 y0 x1 y1 : Int) (A : Option Addr) (n c : Nat) (l : List P2)   (dd0 : ((n : Nat) : Int) ≤ 40) (dd1 : ¬ (OkZ x y l)) (w : World) {lo_L hi_L : Nat} (L : PL w lo_L hi_L A n c l) :
    Calls Try.prog 10 #[.agg #[.int .i64 x, .int .i64 y, .slice A n c], .agg #[.int .i64 x0, .int .i64 y0, .int .i64 x1, .int .i64 y1]] w fun e w' => e = .returned (.bool true) ∧ Below w.heap.size w w' := by
  replace L := Lib.hid L
  have H0 := Lib.hid (fun w => awake_w0 w)
  obtain ⟨HB, B_z0, B_z1⟩ := box2 w 24 #[.int .i64 x, .int .i64 y, .slice A n c] 31 #[.int .i64 x0, .int .i64 y0, .int .i64 x1, .int .i64 y1]
  replace L := Lib.hid (PL.below L.out HB.out)
  go_enter Try.func10, Try.ntmps10
  go_upto_region 1 with (fail)
  generalize (w.alloc (.cells #[.int .i64 x, .int .i64 y, .slice A n c] 24)).alloc (.cells #[.int .i64 x0, .int .i64 y0, .int .i64 x1, .int .i64 y1] 31) = W0 at *
  go_wp2_with fail
  refine (H0.out _).mono ?_
  rintro e w1 ⟨rfl, bb⟩
  replace bb := nextw (w0 := W0) (by exact sm) bb
  replace B_z0 := mv B_z0 bb
  replace B_z1 := mv B_z1 bb
  replace L := Lib.hid (PL.below L.out bb)
  replace HB := nx HB bb
  clear bb
  obtain ⟨c0z0, c1z0, c2z0⟩ := cells3 B_z0
  go_wp2_with fail
  refine (few_w0 x y _ _ _ l _ (PL.below L.out (by exact sm))).mono ?_
  clear c0z0 c1z0 c2z0
  rintro e w2 ⟨rfl, bb⟩
  replace bb := nextw (w0 := w1) (by exact sm) bb
  replace B_z0 := mv B_z0 bb
  replace B_z1 := mv B_z1 bb
  replace L := Lib.hid (PL.below L.out bb)
  replace HB := nx HB bb
  clear bb
  go_upto_region 3 with (fail)
  obtain ⟨c0z0, c1z0, c2z0⟩ := cells3 B_z0
  obtain ⟨c0z1, c1z1, c2z1, c3z1⟩ := cells4 B_z1
  have tk1x0 : True := trivial
  go_region_held3 (fun w' => w'.cell? ⟨w.heap.size, 0, none⟩ = some (.int .i64 x) ∧ w'.cell? ⟨w.heap.size, 1, none⟩ = some (.int .i64 y) ∧ w'.cell? ⟨w.heap.size, 2, none⟩ = some (.slice A n c) ∧ w'.cell? ⟨w.heap.size + 1, 0, none⟩ = some (.int .i64 x0) ∧ w'.cell? ⟨w.heap.size + 1, 1, none⟩ = some (.int .i64 y0) ∧ w'.cell? ⟨w.heap.size + 1, 2, none⟩ = some (.int .i64 x1) ∧ w'.cell? ⟨w.heap.size + 1, 3, none⟩ = some (.int .i64 y1)) (((try dsimp only); (repeat' apply And.intro) <;> (first | (with_reducible assumption) | ((repeat (first | (with_reducible refine Eq.trans (cell_drew1 _ _) ?_) | (with_reducible refine Eq.trans (cell_far (by omega) _ _ _) ?_) | (with_reducible refine Eq.trans (World.cell?_alloc_lt _ _ _ (by first | (dsimp only; omega) | (simp only [World.size_alloc, World.size_setCell]; omega))) ?_))); with_reducible assumption) | assumption | go_keep)))
    (first
      | (clear tk1x0; go_at_call 40; refine (Apart_q x y x0 y0 x1 y1 _ _ _ l (by omega) _ (PL.below L.out (by exact sm))).mono ?_; rintro e w3 ⟨rfl, bb⟩; replace bb := nextw (w0 := w2) (by exact sm) bb; replace B_z0 := mv B_z0 bb; replace B_z1 := mv B_z1 bb; replace L := Lib.hid (PL.below L.out bb); replace HB := nx HB bb; clear bb c0z0 c1z0 c2z0 c0z1 c1z1 c2z1 c3z1; have c0z0 : w3.cell? ⟨w.heap.size, 0, none⟩ = some (.int .i64 x) := B_z0.out.cell 0 rfl; have c1z0 : w3.cell? ⟨w.heap.size, 1, none⟩ = some (.int .i64 y) := B_z0.out.cell 1 rfl; have c2z0 : w3.cell? ⟨w.heap.size, 2, none⟩ = some (.slice A n c) := B_z0.out.cell 2 rfl; have c0z1 : w3.cell? ⟨w.heap.size + 1, 0, none⟩ = some (.int .i64 x0) := B_z1.out.cell 0 rfl; have c1z1 : w3.cell? ⟨w.heap.size + 1, 1, none⟩ = some (.int .i64 y0) := B_z1.out.cell 1 rfl; have c2z1 : w3.cell? ⟨w.heap.size + 1, 2, none⟩ = some (.int .i64 x1) := B_z1.out.cell 2 rfl; have c3z1 : w3.cell? ⟨w.heap.size + 1, 3, none⟩ = some (.int .i64 y1) := B_z1.out.cell 3 rfl; have tk1x1 : True := trivial)
      | (clear tk1x1; go_at_call 41; refine (RApart_q x y x0 y0 x1 y1 _ _ _ l (by omega) _ (PL.below L.out (by exact sm))).mono ?_; rintro e w4 ⟨rfl, bb⟩; replace bb := nextw (w0 := w3) (by exact sm) bb; replace B_z0 := mv B_z0 bb; replace B_z1 := mv B_z1 bb; replace L := Lib.hid (PL.below L.out bb); replace HB := nx HB bb; clear bb c0z0 c1z0 c2z0 c0z1 c1z1 c2z1 c3z1; have c0z0 : w4.cell? ⟨w.heap.size, 0, none⟩ = some (.int .i64 x) := B_z0.out.cell 0 rfl; have c1z0 : w4.cell? ⟨w.heap.size, 1, none⟩ = some (.int .i64 y) := B_z0.out.cell 1 rfl; have c2z0 : w4.cell? ⟨w.heap.size, 2, none⟩ = some (.slice A n c) := B_z0.out.cell 2 rfl; have c0z1 : w4.cell? ⟨w.heap.size + 1, 0, none⟩ = some (.int .i64 x0) := B_z1.out.cell 0 rfl; have c1z1 : w4.cell? ⟨w.heap.size + 1, 1, none⟩ = some (.int .i64 y0) := B_z1.out.cell 1 rfl; have c2z1 : w4.cell? ⟨w.heap.size + 1, 2, none⟩ = some (.int .i64 x1) := B_z1.out.cell 2 rfl; have c3z1 : w4.cell? ⟨w.heap.size + 1, 3, none⟩ = some (.int .i64 y1) := B_z1.out.cell 3 rfl; have tk1x2 : True := trivial))
  clear c0z0 c1z0 c2z0 c0z1 c1z1 c2z1 c3z1
  obtain ⟨c0z1, c1z1, c2z1, c3z1⟩ := cells4 B_z1
  have lt_z2z0 := B_z0.out.lt
  have lt_z2z1 := B_z1.out.lt
  obtain ⟨bb, B_z2⟩ := box1 w4 31 #[.int .i64 x0, .int .i64 y0, .int .i64 x0, .int .i64 y0]
  replace bb := bb.out
  replace B_z0 := mv B_z0 bb
  replace B_z1 := mv B_z1 bb
  replace L := Lib.hid (PL.below L.out bb)
  replace HB := nx HB bb
  clear bb
  go_upto_region 6 with (fail)
  clear c0z1 c1z1 c2z1 c3z1
  generalize w4.alloc (.cells #[.int .i64 x0, .int .i64 y0, .int .i64 x0, .int .i64 y0] 31) = WN3 at *
  obtain ⟨c0z0, c1z0, c2z0⟩ := cells3 B_z0
  go_wp2_with fail
  refine (RValid_is x y _ _ _ l (by omega) _ (PL.below L.out (by exact sm))).mono ?_
  clear c0z0 c1z0 c2z0
  rintro e w5 ⟨rfl, bb⟩
  replace bb := nextw (w0 := WN3) (by exact sm) bb
  replace B_z0 := mv B_z0 bb
  replace B_z1 := mv B_z1 bb
  replace B_z2 := mv B_z2 bb
  replace L := Lib.hid (PL.below L.out bb)
  replace HB := nx HB bb
  clear bb
  go_wp2
  go_ret
  exact ⟨(by first | rfl | exact rbt (by omega) | exact rbf (by omega)), nextw HB.out (by exact sm)⟩

set_option maxRecDepth 100000 in
set_option maxHeartbeats 4000000 in
theorem LApart_w3 (x y x0 y0 x1 y1 : Int) (A : Option Addr) (n c : Nat) (l : List P2)   (dd0 : ((n : Nat) : Int) ≤ 40) (dd1 : OkZ x y l) (dd2 : ¬ (Wi x0 2097152)) (w : World) {lo_L hi_L : Nat} (L : PL w lo_L hi_L A n c l) :
    Calls Try.prog 10 #[.agg #[.int .i64 x, .int .i64 y, .slice A n c], .agg #[.int .i64 x0, .int .i64 y0, .int .i64 x1, .int .i64 y1]] w fun e w' => e = .returned (.bool true) ∧ Below w.heap.size w w' := by
  replace L := Lib.hid L
  have H0 := Lib.hid (fun w => awake_w0 w)
  have H5 := Lib.hid (fun w => Size_is x0 2097152 (by omega) w)
  have dd1x1 := dd1.1.1
  have dd1x2 := dd1.1.2
  have dd1y1 := dd1.2.1.1
  have dd1y2 := dd1.2.1.2
  obtain ⟨HB, B_z0, B_z1⟩ := box2 w 24 #[.int .i64 x, .int .i64 y, .slice A n c] 31 #[.int .i64 x0, .int .i64 y0, .int .i64 x1, .int .i64 y1]
  replace L := Lib.hid (PL.below L.out HB.out)
  go_enter Try.func10, Try.ntmps10
  go_upto_region 1 with (fail)
  generalize (w.alloc (.cells #[.int .i64 x, .int .i64 y, .slice A n c] 24)).alloc (.cells #[.int .i64 x0, .int .i64 y0, .int .i64 x1, .int .i64 y1] 31) = W0 at *
  go_wp2_with fail
  refine (H0.out _).mono ?_
  rintro e w1 ⟨rfl, bb⟩
  replace bb := nextw (w0 := W0) (by exact sm) bb
  replace B_z0 := mv B_z0 bb
  replace B_z1 := mv B_z1 bb
  replace L := Lib.hid (PL.below L.out bb)
  replace HB := nx HB bb
  clear bb
  obtain ⟨c0z0, c1z0, c2z0⟩ := cells3 B_z0
  go_wp2_with fail
  refine (few_w0 x y _ _ _ l _ (PL.below L.out (by exact sm))).mono ?_
  clear c0z0 c1z0 c2z0
  rintro e w2 ⟨rfl, bb⟩
  replace bb := nextw (w0 := w1) (by exact sm) bb
  replace B_z0 := mv B_z0 bb
  replace B_z1 := mv B_z1 bb
  replace L := Lib.hid (PL.below L.out bb)
  replace HB := nx HB bb
  clear bb
  go_upto_region 3 with (fail)
  obtain ⟨c0z0, c1z0, c2z0⟩ := cells3 B_z0
  obtain ⟨c0z1, c1z1, c2z1, c3z1⟩ := cells4 B_z1
  have tk1x0 : True := trivial
  go_region_held3 (fun w' => w'.cell? ⟨w.heap.size, 0, none⟩ = some (.int .i64 x) ∧ w'.cell? ⟨w.heap.size, 1, none⟩ = some (.int .i64 y) ∧ w'.cell? ⟨w.heap.size, 2, none⟩ = some (.slice A n c) ∧ w'.cell? ⟨w.heap.size + 1, 0, none⟩ = some (.int .i64 x0) ∧ w'.cell? ⟨w.heap.size + 1, 1, none⟩ = some (.int .i64 y0) ∧ w'.cell? ⟨w.heap.size + 1, 2, none⟩ = some (.int .i64 x1) ∧ w'.cell? ⟨w.heap.size + 1, 3, none⟩ = some (.int .i64 y1)) (((try dsimp only); (repeat' apply And.intro) <;> (first | (with_reducible assumption) | ((repeat (first | (with_reducible refine Eq.trans (cell_drew1 _ _) ?_) | (with_reducible refine Eq.trans (cell_far (by omega) _ _ _) ?_) | (with_reducible refine Eq.trans (World.cell?_alloc_lt _ _ _ (by first | (dsimp only; omega) | (simp only [World.size_alloc, World.size_setCell]; omega))) ?_))); with_reducible assumption) | assumption | go_keep)))
    (first
      | (clear tk1x0; go_at_call 40; refine (Apart_q x y x0 y0 x1 y1 _ _ _ l (by omega) _ (PL.below L.out (by exact sm))).mono ?_; rintro e w3 ⟨rfl, bb⟩; replace bb := nextw (w0 := w2) (by exact sm) bb; replace B_z0 := mv B_z0 bb; replace B_z1 := mv B_z1 bb; replace L := Lib.hid (PL.below L.out bb); replace HB := nx HB bb; clear bb c0z0 c1z0 c2z0 c0z1 c1z1 c2z1 c3z1; have c0z0 : w3.cell? ⟨w.heap.size, 0, none⟩ = some (.int .i64 x) := B_z0.out.cell 0 rfl; have c1z0 : w3.cell? ⟨w.heap.size, 1, none⟩ = some (.int .i64 y) := B_z0.out.cell 1 rfl; have c2z0 : w3.cell? ⟨w.heap.size, 2, none⟩ = some (.slice A n c) := B_z0.out.cell 2 rfl; have c0z1 : w3.cell? ⟨w.heap.size + 1, 0, none⟩ = some (.int .i64 x0) := B_z1.out.cell 0 rfl; have c1z1 : w3.cell? ⟨w.heap.size + 1, 1, none⟩ = some (.int .i64 y0) := B_z1.out.cell 1 rfl; have c2z1 : w3.cell? ⟨w.heap.size + 1, 2, none⟩ = some (.int .i64 x1) := B_z1.out.cell 2 rfl; have c3z1 : w3.cell? ⟨w.heap.size + 1, 3, none⟩ = some (.int .i64 y1) := B_z1.out.cell 3 rfl; have tk1x1 : True := trivial)
      | (clear tk1x1; go_at_call 41; refine (RApart_q x y x0 y0 x1 y1 _ _ _ l (by omega) _ (PL.below L.out (by exact sm))).mono ?_; rintro e w4 ⟨rfl, bb⟩; replace bb := nextw (w0 := w3) (by exact sm) bb; replace B_z0 := mv B_z0 bb; replace B_z1 := mv B_z1 bb; replace L := Lib.hid (PL.below L.out bb); replace HB := nx HB bb; clear bb c0z0 c1z0 c2z0 c0z1 c1z1 c2z1 c3z1; have c0z0 : w4.cell? ⟨w.heap.size, 0, none⟩ = some (.int .i64 x) := B_z0.out.cell 0 rfl; have c1z0 : w4.cell? ⟨w.heap.size, 1, none⟩ = some (.int .i64 y) := B_z0.out.cell 1 rfl; have c2z0 : w4.cell? ⟨w.heap.size, 2, none⟩ = some (.slice A n c) := B_z0.out.cell 2 rfl; have c0z1 : w4.cell? ⟨w.heap.size + 1, 0, none⟩ = some (.int .i64 x0) := B_z1.out.cell 0 rfl; have c1z1 : w4.cell? ⟨w.heap.size + 1, 1, none⟩ = some (.int .i64 y0) := B_z1.out.cell 1 rfl; have c2z1 : w4.cell? ⟨w.heap.size + 1, 2, none⟩ = some (.int .i64 x1) := B_z1.out.cell 2 rfl; have c3z1 : w4.cell? ⟨w.heap.size + 1, 3, none⟩ = some (.int .i64 y1) := B_z1.out.cell 3 rfl; have tk1x2 : True := trivial))
  clear c0z0 c1z0 c2z0 c0z1 c1z1 c2z1 c3z1
  obtain ⟨c0z1, c1z1, c2z1, c3z1⟩ := cells4 B_z1
  have lt_z2z0 := B_z0.out.lt
  have lt_z2z1 := B_z1.out.lt
  obtain ⟨bb, B_z2⟩ := box1 w4 31 #[.int .i64 x0, .int .i64 y0, .int .i64 x0, .int .i64 y0]
  replace bb := bb.out
  replace B_z0 := mv B_z0 bb
  replace B_z1 := mv B_z1 bb
  replace L := Lib.hid (PL.below L.out bb)
  replace HB := nx HB bb
  clear bb
  go_upto_region 6 with (fail)
  clear c0z1 c1z1 c2z1 c3z1
  generalize w4.alloc (.cells #[.int .i64 x0, .int .i64 y0, .int .i64 x0, .int .i64 y0] 31) = WN3 at *
  obtain ⟨c0z0, c1z0, c2z0⟩ := cells3 B_z0
  go_wp2_with fail
  refine (RValid_is x y _ _ _ l (by omega) _ (PL.below L.out (by exact sm))).mono ?_
  clear c0z0 c1z0 c2z0
  rintro e w5 ⟨rfl, bb⟩
  replace bb := nextw (w0 := WN3) (by exact sm) bb
  replace B_z0 := mv B_z0 bb
  replace B_z1 := mv B_z1 bb
  replace B_z2 := mv B_z2 bb
  replace L := Lib.hid (PL.below L.out bb)
  replace HB := nx HB bb
  clear bb
  obtain ⟨c0z1, c1z1, c2z1, c3z1⟩ := cells4 B_z1
  go_wp2_with fail
  refine (H5.out _).mono ?_
  clear c0z1 c1z1 c2z1 c3z1
  rintro e w6 ⟨rfl, bb⟩
  replace bb := nextw (w0 := w5) (by exact sm) bb
  replace B_z0 := mv B_z0 bb
  replace B_z1 := mv B_z1 bb
  replace B_z2 := mv B_z2 bb
  replace L := Lib.hid (PL.below L.out bb)
  replace HB := nx HB bb
  clear bb
  go_wp2
  go_ret
  exact ⟨(by first | rfl | exact rbt (by omega) | exact rbf (by omega)), nextw HB.out (by exact sm)⟩

set_option maxRecDepth 100000 in
set_option maxHeartbeats 4000000 in
theorem LApart_w4 (x y x0 y0 x1 y1 : Int) (A : Option Addr) (n c : Nat) (l : List P2)   (dd0 : ((n : Nat) : Int) ≤ 40) (dd1 : OkZ x y l) (dd2 : Wi x0 2097152) (dd3 : ¬ (Wi y0 2097152)) (w : World) {lo_L hi_L : Nat} (L : PL w lo_L hi_L A n c l) :
    Calls Try.prog 10 #[.agg #[.int .i64 x, .int .i64 y, .slice A n c], .agg #[.int .i64 x0, .int .i64 y0, .int .i64 x1, .int .i64 y1]] w fun e w' => e = .returned (.bool true) ∧ Below w.heap.size w w' := by
  replace L := Lib.hid L
  have H0 := Lib.hid (fun w => awake_w0 w)
  have H5 := Lib.hid (fun w => Size_is x0 2097152 (by omega) w)
  have H6 := Lib.hid (fun w => Size_is y0 2097152 (by omega) w)
  have dd1x1 := dd1.1.1
  have dd1x2 := dd1.1.2
  have dd1y1 := dd1.2.1.1
  have dd1y2 := dd1.2.1.2
  have dd2x1 := dd2.1
  have dd2x2 := dd2.2
  obtain ⟨HB, B_z0, B_z1⟩ := box2 w 24 #[.int .i64 x, .int .i64 y, .slice A n c] 31 #[.int .i64 x0, .int .i64 y0, .int .i64 x1, .int .i64 y1]
  replace L := Lib.hid (PL.below L.out HB.out)
  go_enter Try.func10, Try.ntmps10
  go_upto_region 1 with (fail)
  generalize (w.alloc (.cells #[.int .i64 x, .int .i64 y, .slice A n c] 24)).alloc (.cells #[.int .i64 x0, .int .i64 y0, .int .i64 x1, .int .i64 y1] 31) = W0 at *
  go_wp2_with fail
  refine (H0.out _).mono ?_
  rintro e w1 ⟨rfl, bb⟩
  replace bb := nextw (w0 := W0) (by exact sm) bb
  replace B_z0 := mv B_z0 bb
  replace B_z1 := mv B_z1 bb
  replace L := Lib.hid (PL.below L.out bb)
  replace HB := nx HB bb
  clear bb
  obtain ⟨c0z0, c1z0, c2z0⟩ := cells3 B_z0
  go_wp2_with fail
  refine (few_w0 x y _ _ _ l _ (PL.below L.out (by exact sm))).mono ?_
  clear c0z0 c1z0 c2z0
  rintro e w2 ⟨rfl, bb⟩
  replace bb := nextw (w0 := w1) (by exact sm) bb
  replace B_z0 := mv B_z0 bb
  replace B_z1 := mv B_z1 bb
  replace L := Lib.hid (PL.below L.out bb)
  replace HB := nx HB bb
  clear bb
  go_upto_region 3 with (fail)
  obtain ⟨c0z0, c1z0, c2z0⟩ := cells3 B_z0
  obtain ⟨c0z1, c1z1, c2z1, c3z1⟩ := cells4 B_z1
  have tk1x0 : True := trivial
  go_region_held3 (fun w' => w'.cell? ⟨w.heap.size, 0, none⟩ = some (.int .i64 x) ∧ w'.cell? ⟨w.heap.size, 1, none⟩ = some (.int .i64 y) ∧ w'.cell? ⟨w.heap.size, 2, none⟩ = some (.slice A n c) ∧ w'.cell? ⟨w.heap.size + 1, 0, none⟩ = some (.int .i64 x0) ∧ w'.cell? ⟨w.heap.size + 1, 1, none⟩ = some (.int .i64 y0) ∧ w'.cell? ⟨w.heap.size + 1, 2, none⟩ = some (.int .i64 x1) ∧ w'.cell? ⟨w.heap.size + 1, 3, none⟩ = some (.int .i64 y1)) (((try dsimp only); (repeat' apply And.intro) <;> (first | (with_reducible assumption) | ((repeat (first | (with_reducible refine Eq.trans (cell_drew1 _ _) ?_) | (with_reducible refine Eq.trans (cell_far (by omega) _ _ _) ?_) | (with_reducible refine Eq.trans (World.cell?_alloc_lt _ _ _ (by first | (dsimp only; omega) | (simp only [World.size_alloc, World.size_setCell]; omega))) ?_))); with_reducible assumption) | assumption | go_keep)))
    (first
      | (clear tk1x0; go_at_call 40; refine (Apart_q x y x0 y0 x1 y1 _ _ _ l (by omega) _ (PL.below L.out (by exact sm))).mono ?_; rintro e w3 ⟨rfl, bb⟩; replace bb := nextw (w0 := w2) (by exact sm) bb; replace B_z0 := mv B_z0 bb; replace B_z1 := mv B_z1 bb; replace L := Lib.hid (PL.below L.out bb); replace HB := nx HB bb; clear bb c0z0 c1z0 c2z0 c0z1 c1z1 c2z1 c3z1; have c0z0 : w3.cell? ⟨w.heap.size, 0, none⟩ = some (.int .i64 x) := B_z0.out.cell 0 rfl; have c1z0 : w3.cell? ⟨w.heap.size, 1, none⟩ = some (.int .i64 y) := B_z0.out.cell 1 rfl; have c2z0 : w3.cell? ⟨w.heap.size, 2, none⟩ = some (.slice A n c) := B_z0.out.cell 2 rfl; have c0z1 : w3.cell? ⟨w.heap.size + 1, 0, none⟩ = some (.int .i64 x0) := B_z1.out.cell 0 rfl; have c1z1 : w3.cell? ⟨w.heap.size + 1, 1, none⟩ = some (.int .i64 y0) := B_z1.out.cell 1 rfl; have c2z1 : w3.cell? ⟨w.heap.size + 1, 2, none⟩ = some (.int .i64 x1) := B_z1.out.cell 2 rfl; have c3z1 : w3.cell? ⟨w.heap.size + 1, 3, none⟩ = some (.int .i64 y1) := B_z1.out.cell 3 rfl; have tk1x1 : True := trivial)
      | (clear tk1x1; go_at_call 41; refine (RApart_q x y x0 y0 x1 y1 _ _ _ l (by omega) _ (PL.below L.out (by exact sm))).mono ?_; rintro e w4 ⟨rfl, bb⟩; replace bb := nextw (w0 := w3) (by exact sm) bb; replace B_z0 := mv B_z0 bb; replace B_z1 := mv B_z1 bb; replace L := Lib.hid (PL.below L.out bb); replace HB := nx HB bb; clear bb c0z0 c1z0 c2z0 c0z1 c1z1 c2z1 c3z1; have c0z0 : w4.cell? ⟨w.heap.size, 0, none⟩ = some (.int .i64 x) := B_z0.out.cell 0 rfl; have c1z0 : w4.cell? ⟨w.heap.size, 1, none⟩ = some (.int .i64 y) := B_z0.out.cell 1 rfl; have c2z0 : w4.cell? ⟨w.heap.size, 2, none⟩ = some (.slice A n c) := B_z0.out.cell 2 rfl; have c0z1 : w4.cell? ⟨w.heap.size + 1, 0, none⟩ = some (.int .i64 x0) := B_z1.out.cell 0 rfl; have c1z1 : w4.cell? ⟨w.heap.size + 1, 1, none⟩ = some (.int .i64 y0) := B_z1.out.cell 1 rfl; have c2z1 : w4.cell? ⟨w.heap.size + 1, 2, none⟩ = some (.int .i64 x1) := B_z1.out.cell 2 rfl; have c3z1 : w4.cell? ⟨w.heap.size + 1, 3, none⟩ = some (.int .i64 y1) := B_z1.out.cell 3 rfl; have tk1x2 : True := trivial))
  clear c0z0 c1z0 c2z0 c0z1 c1z1 c2z1 c3z1
  obtain ⟨c0z1, c1z1, c2z1, c3z1⟩ := cells4 B_z1
  have lt_z2z0 := B_z0.out.lt
  have lt_z2z1 := B_z1.out.lt
  obtain ⟨bb, B_z2⟩ := box1 w4 31 #[.int .i64 x0, .int .i64 y0, .int .i64 x0, .int .i64 y0]
  replace bb := bb.out
  replace B_z0 := mv B_z0 bb
  replace B_z1 := mv B_z1 bb
  replace L := Lib.hid (PL.below L.out bb)
  replace HB := nx HB bb
  clear bb
  go_upto_region 6 with (fail)
  clear c0z1 c1z1 c2z1 c3z1
  generalize w4.alloc (.cells #[.int .i64 x0, .int .i64 y0, .int .i64 x0, .int .i64 y0] 31) = WN3 at *
  obtain ⟨c0z0, c1z0, c2z0⟩ := cells3 B_z0
  go_wp2_with fail
  refine (RValid_is x y _ _ _ l (by omega) _ (PL.below L.out (by exact sm))).mono ?_
  clear c0z0 c1z0 c2z0
  rintro e w5 ⟨rfl, bb⟩
  replace bb := nextw (w0 := WN3) (by exact sm) bb
  replace B_z0 := mv B_z0 bb
  replace B_z1 := mv B_z1 bb
  replace B_z2 := mv B_z2 bb
  replace L := Lib.hid (PL.below L.out bb)
  replace HB := nx HB bb
  clear bb
  obtain ⟨c0z1, c1z1, c2z1, c3z1⟩ := cells4 B_z1
  go_wp2_with fail
  refine (H5.out _).mono ?_
  clear c0z1 c1z1 c2z1 c3z1
  rintro e w6 ⟨rfl, bb⟩
  replace bb := nextw (w0 := w5) (by exact sm) bb
  replace B_z0 := mv B_z0 bb
  replace B_z1 := mv B_z1 bb
  replace B_z2 := mv B_z2 bb
  replace L := Lib.hid (PL.below L.out bb)
  replace HB := nx HB bb
  clear bb
  obtain ⟨c0z1, c1z1, c2z1, c3z1⟩ := cells4 B_z1
  go_wp2_with fail
  refine (H6.out _).mono ?_
  clear c0z1 c1z1 c2z1 c3z1
  rintro e w7 ⟨rfl, bb⟩
  replace bb := nextw (w0 := w6) (by exact sm) bb
  replace B_z0 := mv B_z0 bb
  replace B_z1 := mv B_z1 bb
  replace B_z2 := mv B_z2 bb
  replace L := Lib.hid (PL.below L.out bb)
  replace HB := nx HB bb
  clear bb
  go_wp2
  go_ret
  exact ⟨(by first | rfl | exact rbt (by omega) | exact rbf (by omega)), nextw HB.out (by exact sm)⟩

set_option maxRecDepth 100000 in
set_option maxHeartbeats 4000000 in
theorem LApart_w5 (x y x0 y0 x1 y1 : Int) (A : Option Addr) (n c : Nat) (l : List P2)   (dd0 : ((n : Nat) : Int) ≤ 40) (dd1 : OkZ x y l) (dd2 : Wi x0 2097152) (dd3 : Wi y0 2097152) (dd4 : ¬ (ApartP x y l x0 y0 x0 y0)) (dd5 : HasP x y l (2 * x0) (2 * y0)) (w : World) {lo_L hi_L : Nat} (L : PL w lo_L hi_L A n c l) :
    Calls Try.prog 10 #[.agg #[.int .i64 x, .int .i64 y, .slice A n c], .agg #[.int .i64 x0, .int .i64 y0, .int .i64 x1, .int .i64 y1]] w fun e w' => e = .returned (.bool true) ∧ Below w.heap.size w w' := by
  replace L := Lib.hid L
  have H0 := Lib.hid (fun w => awake_w0 w)
  have H5 := Lib.hid (fun w => Size_is x0 2097152 (by omega) w)
  have H6 := Lib.hid (fun w => Size_is y0 2097152 (by omega) w)
  have dd1x1 := dd1.1.1
  have dd1x2 := dd1.1.2
  have dd1y1 := dd1.2.1.1
  have dd1y2 := dd1.2.1.2
  have dd2x1 := dd2.1
  have dd2x2 := dd2.2
  have dd3x1 := dd3.1
  have dd3x2 := dd3.2
  obtain ⟨HB, B_z0, B_z1⟩ := box2 w 24 #[.int .i64 x, .int .i64 y, .slice A n c] 31 #[.int .i64 x0, .int .i64 y0, .int .i64 x1, .int .i64 y1]
  replace L := Lib.hid (PL.below L.out HB.out)
  go_enter Try.func10, Try.ntmps10
  go_upto_region 1 with (fail)
  generalize (w.alloc (.cells #[.int .i64 x, .int .i64 y, .slice A n c] 24)).alloc (.cells #[.int .i64 x0, .int .i64 y0, .int .i64 x1, .int .i64 y1] 31) = W0 at *
  go_wp2_with fail
  refine (H0.out _).mono ?_
  rintro e w1 ⟨rfl, bb⟩
  replace bb := nextw (w0 := W0) (by exact sm) bb
  replace B_z0 := mv B_z0 bb
  replace B_z1 := mv B_z1 bb
  replace L := Lib.hid (PL.below L.out bb)
  replace HB := nx HB bb
  clear bb
  obtain ⟨c0z0, c1z0, c2z0⟩ := cells3 B_z0
  go_wp2_with fail
  refine (few_w0 x y _ _ _ l _ (PL.below L.out (by exact sm))).mono ?_
  clear c0z0 c1z0 c2z0
  rintro e w2 ⟨rfl, bb⟩
  replace bb := nextw (w0 := w1) (by exact sm) bb
  replace B_z0 := mv B_z0 bb
  replace B_z1 := mv B_z1 bb
  replace L := Lib.hid (PL.below L.out bb)
  replace HB := nx HB bb
  clear bb
  go_upto_region 3 with (fail)
  obtain ⟨c0z0, c1z0, c2z0⟩ := cells3 B_z0
  obtain ⟨c0z1, c1z1, c2z1, c3z1⟩ := cells4 B_z1
  have tk1x0 : True := trivial
  go_region_held3 (fun w' => w'.cell? ⟨w.heap.size, 0, none⟩ = some (.int .i64 x) ∧ w'.cell? ⟨w.heap.size, 1, none⟩ = some (.int .i64 y) ∧ w'.cell? ⟨w.heap.size, 2, none⟩ = some (.slice A n c) ∧ w'.cell? ⟨w.heap.size + 1, 0, none⟩ = some (.int .i64 x0) ∧ w'.cell? ⟨w.heap.size + 1, 1, none⟩ = some (.int .i64 y0) ∧ w'.cell? ⟨w.heap.size + 1, 2, none⟩ = some (.int .i64 x1) ∧ w'.cell? ⟨w.heap.size + 1, 3, none⟩ = some (.int .i64 y1)) (((try dsimp only); (repeat' apply And.intro) <;> (first | (with_reducible assumption) | ((repeat (first | (with_reducible refine Eq.trans (cell_drew1 _ _) ?_) | (with_reducible refine Eq.trans (cell_far (by omega) _ _ _) ?_) | (with_reducible refine Eq.trans (World.cell?_alloc_lt _ _ _ (by first | (dsimp only; omega) | (simp only [World.size_alloc, World.size_setCell]; omega))) ?_))); with_reducible assumption) | assumption | go_keep)))
    (first
      | (clear tk1x0; go_at_call 40; refine (Apart_q x y x0 y0 x1 y1 _ _ _ l (by omega) _ (PL.below L.out (by exact sm))).mono ?_; rintro e w3 ⟨rfl, bb⟩; replace bb := nextw (w0 := w2) (by exact sm) bb; replace B_z0 := mv B_z0 bb; replace B_z1 := mv B_z1 bb; replace L := Lib.hid (PL.below L.out bb); replace HB := nx HB bb; clear bb c0z0 c1z0 c2z0 c0z1 c1z1 c2z1 c3z1; have c0z0 : w3.cell? ⟨w.heap.size, 0, none⟩ = some (.int .i64 x) := B_z0.out.cell 0 rfl; have c1z0 : w3.cell? ⟨w.heap.size, 1, none⟩ = some (.int .i64 y) := B_z0.out.cell 1 rfl; have c2z0 : w3.cell? ⟨w.heap.size, 2, none⟩ = some (.slice A n c) := B_z0.out.cell 2 rfl; have c0z1 : w3.cell? ⟨w.heap.size + 1, 0, none⟩ = some (.int .i64 x0) := B_z1.out.cell 0 rfl; have c1z1 : w3.cell? ⟨w.heap.size + 1, 1, none⟩ = some (.int .i64 y0) := B_z1.out.cell 1 rfl; have c2z1 : w3.cell? ⟨w.heap.size + 1, 2, none⟩ = some (.int .i64 x1) := B_z1.out.cell 2 rfl; have c3z1 : w3.cell? ⟨w.heap.size + 1, 3, none⟩ = some (.int .i64 y1) := B_z1.out.cell 3 rfl; have tk1x1 : True := trivial)
      | (clear tk1x1; go_at_call 41; refine (RApart_q x y x0 y0 x1 y1 _ _ _ l (by omega) _ (PL.below L.out (by exact sm))).mono ?_; rintro e w4 ⟨rfl, bb⟩; replace bb := nextw (w0 := w3) (by exact sm) bb; replace B_z0 := mv B_z0 bb; replace B_z1 := mv B_z1 bb; replace L := Lib.hid (PL.below L.out bb); replace HB := nx HB bb; clear bb c0z0 c1z0 c2z0 c0z1 c1z1 c2z1 c3z1; have c0z0 : w4.cell? ⟨w.heap.size, 0, none⟩ = some (.int .i64 x) := B_z0.out.cell 0 rfl; have c1z0 : w4.cell? ⟨w.heap.size, 1, none⟩ = some (.int .i64 y) := B_z0.out.cell 1 rfl; have c2z0 : w4.cell? ⟨w.heap.size, 2, none⟩ = some (.slice A n c) := B_z0.out.cell 2 rfl; have c0z1 : w4.cell? ⟨w.heap.size + 1, 0, none⟩ = some (.int .i64 x0) := B_z1.out.cell 0 rfl; have c1z1 : w4.cell? ⟨w.heap.size + 1, 1, none⟩ = some (.int .i64 y0) := B_z1.out.cell 1 rfl; have c2z1 : w4.cell? ⟨w.heap.size + 1, 2, none⟩ = some (.int .i64 x1) := B_z1.out.cell 2 rfl; have c3z1 : w4.cell? ⟨w.heap.size + 1, 3, none⟩ = some (.int .i64 y1) := B_z1.out.cell 3 rfl; have tk1x2 : True := trivial))
  clear c0z0 c1z0 c2z0 c0z1 c1z1 c2z1 c3z1
  obtain ⟨c0z1, c1z1, c2z1, c3z1⟩ := cells4 B_z1
  have lt_z2z0 := B_z0.out.lt
  have lt_z2z1 := B_z1.out.lt
  obtain ⟨bb, B_z2⟩ := box1 w4 31 #[.int .i64 x0, .int .i64 y0, .int .i64 x0, .int .i64 y0]
  replace bb := bb.out
  replace B_z0 := mv B_z0 bb
  replace B_z1 := mv B_z1 bb
  replace L := Lib.hid (PL.below L.out bb)
  replace HB := nx HB bb
  clear bb
  go_upto_region 6 with (fail)
  clear c0z1 c1z1 c2z1 c3z1
  generalize w4.alloc (.cells #[.int .i64 x0, .int .i64 y0, .int .i64 x0, .int .i64 y0] 31) = WN3 at *
  obtain ⟨c0z0, c1z0, c2z0⟩ := cells3 B_z0
  go_wp2_with fail
  refine (RValid_is x y _ _ _ l (by omega) _ (PL.below L.out (by exact sm))).mono ?_
  clear c0z0 c1z0 c2z0
  rintro e w5 ⟨rfl, bb⟩
  replace bb := nextw (w0 := WN3) (by exact sm) bb
  replace B_z0 := mv B_z0 bb
  replace B_z1 := mv B_z1 bb
  replace B_z2 := mv B_z2 bb
  replace L := Lib.hid (PL.below L.out bb)
  replace HB := nx HB bb
  clear bb
  obtain ⟨c0z1, c1z1, c2z1, c3z1⟩ := cells4 B_z1
  go_wp2_with fail
  refine (H5.out _).mono ?_
  clear c0z1 c1z1 c2z1 c3z1
  rintro e w6 ⟨rfl, bb⟩
  replace bb := nextw (w0 := w5) (by exact sm) bb
  replace B_z0 := mv B_z0 bb
  replace B_z1 := mv B_z1 bb
  replace B_z2 := mv B_z2 bb
  replace L := Lib.hid (PL.below L.out bb)
  replace HB := nx HB bb
  clear bb
  obtain ⟨c0z1, c1z1, c2z1, c3z1⟩ := cells4 B_z1
  go_wp2_with fail
  refine (H6.out _).mono ?_
  clear c0z1 c1z1 c2z1 c3z1
  rintro e w7 ⟨rfl, bb⟩
  replace bb := nextw (w0 := w6) (by exact sm) bb
  replace B_z0 := mv B_z0 bb
  replace B_z1 := mv B_z1 bb
  replace B_z2 := mv B_z2 bb
  replace L := Lib.hid (PL.below L.out bb)
  replace HB := nx HB bb
  clear bb
  go_upto_region 8 with (fail)
  have wq8x0 : IntKind.i64.wrap (2 * x0) = 2 * x0 := by rw [IntKind.wrap_i64]; omega
  have wq8x1 : IntKind.i64.wrap (2 * y0) = 2 * y0 := by rw [IntKind.wrap_i64]; omega
  obtain ⟨c0z0, c1z0, c2z0⟩ := cells3 B_z0
  obtain ⟨c0z2, c1z2, c2z2, c3z2⟩ := cells4 B_z2
  obtain ⟨c0z1, c1z1, -, -⟩ := cells4 B_z1
  have tk2x0 : True := trivial
  go_region_held3 (fun w' => w'.cell? ⟨w.heap.size, 0, none⟩ = some (.int .i64 x) ∧ w'.cell? ⟨w.heap.size, 1, none⟩ = some (.int .i64 y) ∧ w'.cell? ⟨w.heap.size, 2, none⟩ = some (.slice A n c) ∧ w'.cell? ⟨w4.heap.size, 0, none⟩ = some (.int .i64 x0) ∧ w'.cell? ⟨w4.heap.size, 1, none⟩ = some (.int .i64 y0) ∧ w'.cell? ⟨w4.heap.size, 2, none⟩ = some (.int .i64 x0) ∧ w'.cell? ⟨w4.heap.size, 3, none⟩ = some (.int .i64 y0) ∧ w'.cell? ⟨w.heap.size + 1, 0, none⟩ = some (.int .i64 x0) ∧ w'.cell? ⟨w.heap.size + 1, 1, none⟩ = some (.int .i64 y0)) (((try dsimp only); (repeat' apply And.intro) <;> (first | (with_reducible assumption) | ((repeat (first | (with_reducible refine Eq.trans (cell_drew1 _ _) ?_) | (with_reducible refine Eq.trans (cell_far (by omega) _ _ _) ?_) | (with_reducible refine Eq.trans (World.cell?_alloc_lt _ _ _ (by first | (dsimp only; omega) | (simp only [World.size_alloc, World.size_setCell]; omega))) ?_))); with_reducible assumption) | assumption | go_keep)))
    (first
      | (clear tk2x0; go_at_call 40; refine (Apart_q x y x0 y0 x0 y0 _ _ _ l (by omega) _ (PL.below L.out (by exact sm))).mono ?_; rintro e w8 ⟨rfl, bb⟩; replace bb := nextw (w0 := w7) (by exact sm) bb; replace B_z0 := mv B_z0 bb; replace B_z1 := mv B_z1 bb; replace B_z2 := mv B_z2 bb; replace L := Lib.hid (PL.below L.out bb); replace HB := nx HB bb; clear bb c0z0 c1z0 c2z0 c0z2 c1z2 c2z2 c3z2 c0z1 c1z1; have c0z0 : w8.cell? ⟨w.heap.size, 0, none⟩ = some (.int .i64 x) := B_z0.out.cell 0 rfl; have c1z0 : w8.cell? ⟨w.heap.size, 1, none⟩ = some (.int .i64 y) := B_z0.out.cell 1 rfl; have c2z0 : w8.cell? ⟨w.heap.size, 2, none⟩ = some (.slice A n c) := B_z0.out.cell 2 rfl; have c0z2 : w8.cell? ⟨w4.heap.size, 0, none⟩ = some (.int .i64 x0) := B_z2.out.cell 0 rfl; have c1z2 : w8.cell? ⟨w4.heap.size, 1, none⟩ = some (.int .i64 y0) := B_z2.out.cell 1 rfl; have c2z2 : w8.cell? ⟨w4.heap.size, 2, none⟩ = some (.int .i64 x0) := B_z2.out.cell 2 rfl; have c3z2 : w8.cell? ⟨w4.heap.size, 3, none⟩ = some (.int .i64 y0) := B_z2.out.cell 3 rfl; have c0z1 : w8.cell? ⟨w.heap.size + 1, 0, none⟩ = some (.int .i64 x0) := B_z1.out.cell 0 rfl; have c1z1 : w8.cell? ⟨w.heap.size + 1, 1, none⟩ = some (.int .i64 y0) := B_z1.out.cell 1 rfl; have tk2x1 : True := trivial)
      | (clear tk2x1; go_at_call 33; refine (Has_q x y (2 * x0) (2 * y0) _ _ _ l (by omega) _ (PL.below L.out (by exact sm))).mono ?_; rintro e w9 ⟨rfl, bb⟩; replace bb := nextw (w0 := w8) (by exact sm) bb; replace B_z0 := mv B_z0 bb; replace B_z1 := mv B_z1 bb; replace B_z2 := mv B_z2 bb; replace L := Lib.hid (PL.below L.out bb); replace HB := nx HB bb; clear bb c0z0 c1z0 c2z0 c0z2 c1z2 c2z2 c3z2 c0z1 c1z1; have c0z0 : w9.cell? ⟨w.heap.size, 0, none⟩ = some (.int .i64 x) := B_z0.out.cell 0 rfl; have c1z0 : w9.cell? ⟨w.heap.size, 1, none⟩ = some (.int .i64 y) := B_z0.out.cell 1 rfl; have c2z0 : w9.cell? ⟨w.heap.size, 2, none⟩ = some (.slice A n c) := B_z0.out.cell 2 rfl; have c0z2 : w9.cell? ⟨w4.heap.size, 0, none⟩ = some (.int .i64 x0) := B_z2.out.cell 0 rfl; have c1z2 : w9.cell? ⟨w4.heap.size, 1, none⟩ = some (.int .i64 y0) := B_z2.out.cell 1 rfl; have c2z2 : w9.cell? ⟨w4.heap.size, 2, none⟩ = some (.int .i64 x0) := B_z2.out.cell 2 rfl; have c3z2 : w9.cell? ⟨w4.heap.size, 3, none⟩ = some (.int .i64 y0) := B_z2.out.cell 3 rfl; have c0z1 : w9.cell? ⟨w.heap.size + 1, 0, none⟩ = some (.int .i64 x0) := B_z1.out.cell 0 rfl; have c1z1 : w9.cell? ⟨w.heap.size + 1, 1, none⟩ = some (.int .i64 y0) := B_z1.out.cell 1 rfl; have tk2x2 : True := trivial))
  clear c0z0 c1z0 c2z0 c0z2 c1z2 c2z2 c3z2 c0z1 c1z1
  go_wp2
  go_ret
  exact ⟨(by first | rfl | exact rbt (by omega) | exact rbf (by omega)), nextw HB.out (by exact sm)⟩

set_option maxRecDepth 100000 in
set_option maxHeartbeats 4000000 in
theorem LApart_w6 (x y x0 y0 x1 y1 : Int) (A : Option Addr) (n c : Nat) (l : List P2)   (dd0 : ((n : Nat) : Int) ≤ 40) (dd1 : OkZ x y l) (dd2 : Wi x0 2097152) (dd3 : Wi y0 2097152) (dd4 : ¬ (ApartP x y l x0 y0 x0 y0)) (dd5 : ¬ (HasP x y l (2 * x0) (2 * y0))) (w : World) {lo_L hi_L : Nat} (L : PL w lo_L hi_L A n c l) :
    Calls Try.prog 10 #[.agg #[.int .i64 x, .int .i64 y, .slice A n c], .agg #[.int .i64 x0, .int .i64 y0, .int .i64 x1, .int .i64 y1]] w fun e w' => e = .returned (.bool false) ∧ Below w.heap.size w w' := by
  replace L := Lib.hid L
  have H0 := Lib.hid (fun w => awake_w0 w)
  have H5 := Lib.hid (fun w => Size_is x0 2097152 (by omega) w)
  have H6 := Lib.hid (fun w => Size_is y0 2097152 (by omega) w)
  have dd1x1 := dd1.1.1
  have dd1x2 := dd1.1.2
  have dd1y1 := dd1.2.1.1
  have dd1y2 := dd1.2.1.2
  have dd2x1 := dd2.1
  have dd2x2 := dd2.2
  have dd3x1 := dd3.1
  have dd3x2 := dd3.2
  obtain ⟨HB, B_z0, B_z1⟩ := box2 w 24 #[.int .i64 x, .int .i64 y, .slice A n c] 31 #[.int .i64 x0, .int .i64 y0, .int .i64 x1, .int .i64 y1]
  replace L := Lib.hid (PL.below L.out HB.out)
  go_enter Try.func10, Try.ntmps10
  go_upto_region 1 with (fail)
  generalize (w.alloc (.cells #[.int .i64 x, .int .i64 y, .slice A n c] 24)).alloc (.cells #[.int .i64 x0, .int .i64 y0, .int .i64 x1, .int .i64 y1] 31) = W0 at *
  go_wp2_with fail
  refine (H0.out _).mono ?_
  rintro e w1 ⟨rfl, bb⟩
  replace bb := nextw (w0 := W0) (by exact sm) bb
  replace B_z0 := mv B_z0 bb
  replace B_z1 := mv B_z1 bb
  replace L := Lib.hid (PL.below L.out bb)
  replace HB := nx HB bb
  clear bb
  obtain ⟨c0z0, c1z0, c2z0⟩ := cells3 B_z0
  go_wp2_with fail
  refine (few_w0 x y _ _ _ l _ (PL.below L.out (by exact sm))).mono ?_
  clear c0z0 c1z0 c2z0
  rintro e w2 ⟨rfl, bb⟩
  replace bb := nextw (w0 := w1) (by exact sm) bb
  replace B_z0 := mv B_z0 bb
  replace B_z1 := mv B_z1 bb
  replace L := Lib.hid (PL.below L.out bb)
  replace HB := nx HB bb
  clear bb
  go_upto_region 3 with (fail)
  obtain ⟨c0z0, c1z0, c2z0⟩ := cells3 B_z0
  obtain ⟨c0z1, c1z1, c2z1, c3z1⟩ := cells4 B_z1
  have tk1x0 : True := trivial
  go_region_held3 (fun w' => w'.cell? ⟨w.heap.size, 0, none⟩ = some (.int .i64 x) ∧ w'.cell? ⟨w.heap.size, 1, none⟩ = some (.int .i64 y) ∧ w'.cell? ⟨w.heap.size, 2, none⟩ = some (.slice A n c) ∧ w'.cell? ⟨w.heap.size + 1, 0, none⟩ = some (.int .i64 x0) ∧ w'.cell? ⟨w.heap.size + 1, 1, none⟩ = some (.int .i64 y0) ∧ w'.cell? ⟨w.heap.size + 1, 2, none⟩ = some (.int .i64 x1) ∧ w'.cell? ⟨w.heap.size + 1, 3, none⟩ = some (.int .i64 y1)) (((try dsimp only); (repeat' apply And.intro) <;> (first | (with_reducible assumption) | ((repeat (first | (with_reducible refine Eq.trans (cell_drew1 _ _) ?_) | (with_reducible refine Eq.trans (cell_far (by omega) _ _ _) ?_) | (with_reducible refine Eq.trans (World.cell?_alloc_lt _ _ _ (by first | (dsimp only; omega) | (simp only [World.size_alloc, World.size_setCell]; omega))) ?_))); with_reducible assumption) | assumption | go_keep)))
    (first
      | (clear tk1x0; go_at_call 40; refine (Apart_q x y x0 y0 x1 y1 _ _ _ l (by omega) _ (PL.below L.out (by exact sm))).mono ?_; rintro e w3 ⟨rfl, bb⟩; replace bb := nextw (w0 := w2) (by exact sm) bb; replace B_z0 := mv B_z0 bb; replace B_z1 := mv B_z1 bb; replace L := Lib.hid (PL.below L.out bb); replace HB := nx HB bb; clear bb c0z0 c1z0 c2z0 c0z1 c1z1 c2z1 c3z1; have c0z0 : w3.cell? ⟨w.heap.size, 0, none⟩ = some (.int .i64 x) := B_z0.out.cell 0 rfl; have c1z0 : w3.cell? ⟨w.heap.size, 1, none⟩ = some (.int .i64 y) := B_z0.out.cell 1 rfl; have c2z0 : w3.cell? ⟨w.heap.size, 2, none⟩ = some (.slice A n c) := B_z0.out.cell 2 rfl; have c0z1 : w3.cell? ⟨w.heap.size + 1, 0, none⟩ = some (.int .i64 x0) := B_z1.out.cell 0 rfl; have c1z1 : w3.cell? ⟨w.heap.size + 1, 1, none⟩ = some (.int .i64 y0) := B_z1.out.cell 1 rfl; have c2z1 : w3.cell? ⟨w.heap.size + 1, 2, none⟩ = some (.int .i64 x1) := B_z1.out.cell 2 rfl; have c3z1 : w3.cell? ⟨w.heap.size + 1, 3, none⟩ = some (.int .i64 y1) := B_z1.out.cell 3 rfl; have tk1x1 : True := trivial)
      | (clear tk1x1; go_at_call 41; refine (RApart_q x y x0 y0 x1 y1 _ _ _ l (by omega) _ (PL.below L.out (by exact sm))).mono ?_; rintro e w4 ⟨rfl, bb⟩; replace bb := nextw (w0 := w3) (by exact sm) bb; replace B_z0 := mv B_z0 bb; replace B_z1 := mv B_z1 bb; replace L := Lib.hid (PL.below L.out bb); replace HB := nx HB bb; clear bb c0z0 c1z0 c2z0 c0z1 c1z1 c2z1 c3z1; have c0z0 : w4.cell? ⟨w.heap.size, 0, none⟩ = some (.int .i64 x) := B_z0.out.cell 0 rfl; have c1z0 : w4.cell? ⟨w.heap.size, 1, none⟩ = some (.int .i64 y) := B_z0.out.cell 1 rfl; have c2z0 : w4.cell? ⟨w.heap.size, 2, none⟩ = some (.slice A n c) := B_z0.out.cell 2 rfl; have c0z1 : w4.cell? ⟨w.heap.size + 1, 0, none⟩ = some (.int .i64 x0) := B_z1.out.cell 0 rfl; have c1z1 : w4.cell? ⟨w.heap.size + 1, 1, none⟩ = some (.int .i64 y0) := B_z1.out.cell 1 rfl; have c2z1 : w4.cell? ⟨w.heap.size + 1, 2, none⟩ = some (.int .i64 x1) := B_z1.out.cell 2 rfl; have c3z1 : w4.cell? ⟨w.heap.size + 1, 3, none⟩ = some (.int .i64 y1) := B_z1.out.cell 3 rfl; have tk1x2 : True := trivial))
  clear c0z0 c1z0 c2z0 c0z1 c1z1 c2z1 c3z1
  obtain ⟨c0z1, c1z1, c2z1, c3z1⟩ := cells4 B_z1
  have lt_z2z0 := B_z0.out.lt
  have lt_z2z1 := B_z1.out.lt
  obtain ⟨bb, B_z2⟩ := box1 w4 31 #[.int .i64 x0, .int .i64 y0, .int .i64 x0, .int .i64 y0]
  replace bb := bb.out
  replace B_z0 := mv B_z0 bb
  replace B_z1 := mv B_z1 bb
  replace L := Lib.hid (PL.below L.out bb)
  replace HB := nx HB bb
  clear bb
  go_upto_region 6 with (fail)
  clear c0z1 c1z1 c2z1 c3z1
  generalize w4.alloc (.cells #[.int .i64 x0, .int .i64 y0, .int .i64 x0, .int .i64 y0] 31) = WN3 at *
  obtain ⟨c0z0, c1z0, c2z0⟩ := cells3 B_z0
  go_wp2_with fail
  refine (RValid_is x y _ _ _ l (by omega) _ (PL.below L.out (by exact sm))).mono ?_
  clear c0z0 c1z0 c2z0
  rintro e w5 ⟨rfl, bb⟩
  replace bb := nextw (w0 := WN3) (by exact sm) bb
  replace B_z0 := mv B_z0 bb
  replace B_z1 := mv B_z1 bb
  replace B_z2 := mv B_z2 bb
  replace L := Lib.hid (PL.below L.out bb)
  replace HB := nx HB bb
  clear bb
  obtain ⟨c0z1, c1z1, c2z1, c3z1⟩ := cells4 B_z1
  go_wp2_with fail
  refine (H5.out _).mono ?_
  clear c0z1 c1z1 c2z1 c3z1
  rintro e w6 ⟨rfl, bb⟩
  replace bb := nextw (w0 := w5) (by exact sm) bb
  replace B_z0 := mv B_z0 bb
  replace B_z1 := mv B_z1 bb
  replace B_z2 := mv B_z2 bb
  replace L := Lib.hid (PL.below L.out bb)
  replace HB := nx HB bb
  clear bb
  obtain ⟨c0z1, c1z1, c2z1, c3z1⟩ := cells4 B_z1
  go_wp2_with fail
  refine (H6.out _).mono ?_
  clear c0z1 c1z1 c2z1 c3z1
  rintro e w7 ⟨rfl, bb⟩
  replace bb := nextw (w0 := w6) (by exact sm) bb
  replace B_z0 := mv B_z0 bb
  replace B_z1 := mv B_z1 bb
  replace B_z2 := mv B_z2 bb
  replace L := Lib.hid (PL.below L.out bb)
  replace HB := nx HB bb
  clear bb
  go_upto_region 8 with (fail)
  have wq8x0 : IntKind.i64.wrap (2 * x0) = 2 * x0 := by rw [IntKind.wrap_i64]; omega
  have wq8x1 : IntKind.i64.wrap (2 * y0) = 2 * y0 := by rw [IntKind.wrap_i64]; omega
  obtain ⟨c0z0, c1z0, c2z0⟩ := cells3 B_z0
  obtain ⟨c0z2, c1z2, c2z2, c3z2⟩ := cells4 B_z2
  obtain ⟨c0z1, c1z1, -, -⟩ := cells4 B_z1
  have tk2x0 : True := trivial
  go_region_held3 (fun w' => w'.cell? ⟨w.heap.size, 0, none⟩ = some (.int .i64 x) ∧ w'.cell? ⟨w.heap.size, 1, none⟩ = some (.int .i64 y) ∧ w'.cell? ⟨w.heap.size, 2, none⟩ = some (.slice A n c) ∧ w'.cell? ⟨w4.heap.size, 0, none⟩ = some (.int .i64 x0) ∧ w'.cell? ⟨w4.heap.size, 1, none⟩ = some (.int .i64 y0) ∧ w'.cell? ⟨w4.heap.size, 2, none⟩ = some (.int .i64 x0) ∧ w'.cell? ⟨w4.heap.size, 3, none⟩ = some (.int .i64 y0) ∧ w'.cell? ⟨w.heap.size + 1, 0, none⟩ = some (.int .i64 x0) ∧ w'.cell? ⟨w.heap.size + 1, 1, none⟩ = some (.int .i64 y0)) (((try dsimp only); (repeat' apply And.intro) <;> (first | (with_reducible assumption) | ((repeat (first | (with_reducible refine Eq.trans (cell_drew1 _ _) ?_) | (with_reducible refine Eq.trans (cell_far (by omega) _ _ _) ?_) | (with_reducible refine Eq.trans (World.cell?_alloc_lt _ _ _ (by first | (dsimp only; omega) | (simp only [World.size_alloc, World.size_setCell]; omega))) ?_))); with_reducible assumption) | assumption | go_keep)))
    (first
      | (clear tk2x0; go_at_call 40; refine (Apart_q x y x0 y0 x0 y0 _ _ _ l (by omega) _ (PL.below L.out (by exact sm))).mono ?_; rintro e w8 ⟨rfl, bb⟩; replace bb := nextw (w0 := w7) (by exact sm) bb; replace B_z0 := mv B_z0 bb; replace B_z1 := mv B_z1 bb; replace B_z2 := mv B_z2 bb; replace L := Lib.hid (PL.below L.out bb); replace HB := nx HB bb; clear bb c0z0 c1z0 c2z0 c0z2 c1z2 c2z2 c3z2 c0z1 c1z1; have c0z0 : w8.cell? ⟨w.heap.size, 0, none⟩ = some (.int .i64 x) := B_z0.out.cell 0 rfl; have c1z0 : w8.cell? ⟨w.heap.size, 1, none⟩ = some (.int .i64 y) := B_z0.out.cell 1 rfl; have c2z0 : w8.cell? ⟨w.heap.size, 2, none⟩ = some (.slice A n c) := B_z0.out.cell 2 rfl; have c0z2 : w8.cell? ⟨w4.heap.size, 0, none⟩ = some (.int .i64 x0) := B_z2.out.cell 0 rfl; have c1z2 : w8.cell? ⟨w4.heap.size, 1, none⟩ = some (.int .i64 y0) := B_z2.out.cell 1 rfl; have c2z2 : w8.cell? ⟨w4.heap.size, 2, none⟩ = some (.int .i64 x0) := B_z2.out.cell 2 rfl; have c3z2 : w8.cell? ⟨w4.heap.size, 3, none⟩ = some (.int .i64 y0) := B_z2.out.cell 3 rfl; have c0z1 : w8.cell? ⟨w.heap.size + 1, 0, none⟩ = some (.int .i64 x0) := B_z1.out.cell 0 rfl; have c1z1 : w8.cell? ⟨w.heap.size + 1, 1, none⟩ = some (.int .i64 y0) := B_z1.out.cell 1 rfl; have tk2x1 : True := trivial)
      | (clear tk2x1; go_at_call 33; refine (Has_q x y (2 * x0) (2 * y0) _ _ _ l (by omega) _ (PL.below L.out (by exact sm))).mono ?_; rintro e w9 ⟨rfl, bb⟩; replace bb := nextw (w0 := w8) (by exact sm) bb; replace B_z0 := mv B_z0 bb; replace B_z1 := mv B_z1 bb; replace B_z2 := mv B_z2 bb; replace L := Lib.hid (PL.below L.out bb); replace HB := nx HB bb; clear bb c0z0 c1z0 c2z0 c0z2 c1z2 c2z2 c3z2 c0z1 c1z1; have c0z0 : w9.cell? ⟨w.heap.size, 0, none⟩ = some (.int .i64 x) := B_z0.out.cell 0 rfl; have c1z0 : w9.cell? ⟨w.heap.size, 1, none⟩ = some (.int .i64 y) := B_z0.out.cell 1 rfl; have c2z0 : w9.cell? ⟨w.heap.size, 2, none⟩ = some (.slice A n c) := B_z0.out.cell 2 rfl; have c0z2 : w9.cell? ⟨w4.heap.size, 0, none⟩ = some (.int .i64 x0) := B_z2.out.cell 0 rfl; have c1z2 : w9.cell? ⟨w4.heap.size, 1, none⟩ = some (.int .i64 y0) := B_z2.out.cell 1 rfl; have c2z2 : w9.cell? ⟨w4.heap.size, 2, none⟩ = some (.int .i64 x0) := B_z2.out.cell 2 rfl; have c3z2 : w9.cell? ⟨w4.heap.size, 3, none⟩ = some (.int .i64 y0) := B_z2.out.cell 3 rfl; have c0z1 : w9.cell? ⟨w.heap.size + 1, 0, none⟩ = some (.int .i64 x0) := B_z1.out.cell 0 rfl; have c1z1 : w9.cell? ⟨w.heap.size + 1, 1, none⟩ = some (.int .i64 y0) := B_z1.out.cell 1 rfl; have tk2x2 : True := trivial))
  clear c0z0 c1z0 c2z0 c0z2 c1z2 c2z2 c3z2 c0z1 c1z1
  go_wp2
  go_ret
  exact ⟨(by first | rfl | exact rbt (by omega) | exact rbf (by omega)), nextw HB.out (by exact sm)⟩

set_option maxRecDepth 100000 in
set_option maxHeartbeats 4000000 in
theorem LApart_w7 (x y x0 y0 x1 y1 : Int) (A : Option Addr) (n c : Nat) (l : List P2)   (dd0 : ((n : Nat) : Int) ≤ 40) (dd1 : OkZ x y l) (dd2 : Wi x0 2097152) (dd3 : Wi y0 2097152) (dd4 : ApartP x y l x0 y0 x0 y0) (dd5 : ¬ (HasP x y l (2 * x0) (2 * y0))) (w : World) {lo_L hi_L : Nat} (L : PL w lo_L hi_L A n c l) :
    Calls Try.prog 10 #[.agg #[.int .i64 x, .int .i64 y, .slice A n c], .agg #[.int .i64 x0, .int .i64 y0, .int .i64 x1, .int .i64 y1]] w fun e w' => e = .returned (.bool true) ∧ Below w.heap.size w w' := by
  replace L := Lib.hid L
  have H0 := Lib.hid (fun w => awake_w0 w)
  have H5 := Lib.hid (fun w => Size_is x0 2097152 (by omega) w)
  have H6 := Lib.hid (fun w => Size_is y0 2097152 (by omega) w)
  have dd1x1 := dd1.1.1
  have dd1x2 := dd1.1.2
  have dd1y1 := dd1.2.1.1
  have dd1y2 := dd1.2.1.2
  have dd2x1 := dd2.1
  have dd2x2 := dd2.2
  have dd3x1 := dd3.1
  have dd3x2 := dd3.2
  obtain ⟨HB, B_z0, B_z1⟩ := box2 w 24 #[.int .i64 x, .int .i64 y, .slice A n c] 31 #[.int .i64 x0, .int .i64 y0, .int .i64 x1, .int .i64 y1]
  replace L := Lib.hid (PL.below L.out HB.out)
  go_enter Try.func10, Try.ntmps10
  go_upto_region 1 with (fail)
  generalize (w.alloc (.cells #[.int .i64 x, .int .i64 y, .slice A n c] 24)).alloc (.cells #[.int .i64 x0, .int .i64 y0, .int .i64 x1, .int .i64 y1] 31) = W0 at *
  go_wp2_with fail
  refine (H0.out _).mono ?_
  rintro e w1 ⟨rfl, bb⟩
  replace bb := nextw (w0 := W0) (by exact sm) bb
  replace B_z0 := mv B_z0 bb
  replace B_z1 := mv B_z1 bb
  replace L := Lib.hid (PL.below L.out bb)
  replace HB := nx HB bb
  clear bb
  obtain ⟨c0z0, c1z0, c2z0⟩ := cells3 B_z0
  go_wp2_with fail
  refine (few_w0 x y _ _ _ l _ (PL.below L.out (by exact sm))).mono ?_
  clear c0z0 c1z0 c2z0
  rintro e w2 ⟨rfl, bb⟩
  replace bb := nextw (w0 := w1) (by exact sm) bb
  replace B_z0 := mv B_z0 bb
  replace B_z1 := mv B_z1 bb
  replace L := Lib.hid (PL.below L.out bb)
  replace HB := nx HB bb
  clear bb
  go_upto_region 3 with (fail)
  obtain ⟨c0z0, c1z0, c2z0⟩ := cells3 B_z0
  obtain ⟨c0z1, c1z1, c2z1, c3z1⟩ := cells4 B_z1
  have tk1x0 : True := trivial
  go_region_held3 (fun w' => w'.cell? ⟨w.heap.size, 0, none⟩ = some (.int .i64 x) ∧ w'.cell? ⟨w.heap.size, 1, none⟩ = some (.int .i64 y) ∧ w'.cell? ⟨w.heap.size, 2, none⟩ = some (.slice A n c) ∧ w'.cell? ⟨w.heap.size + 1, 0, none⟩ = some (.int .i64 x0) ∧ w'.cell? ⟨w.heap.size + 1, 1, none⟩ = some (.int .i64 y0) ∧ w'.cell? ⟨w.heap.size + 1, 2, none⟩ = some (.int .i64 x1) ∧ w'.cell? ⟨w.heap.size + 1, 3, none⟩ = some (.int .i64 y1)) (((try dsimp only); (repeat' apply And.intro) <;> (first | (with_reducible assumption) | ((repeat (first | (with_reducible refine Eq.trans (cell_drew1 _ _) ?_) | (with_reducible refine Eq.trans (cell_far (by omega) _ _ _) ?_) | (with_reducible refine Eq.trans (World.cell?_alloc_lt _ _ _ (by first | (dsimp only; omega) | (simp only [World.size_alloc, World.size_setCell]; omega))) ?_))); with_reducible assumption) | assumption | go_keep)))
    (first
      | (clear tk1x0; go_at_call 40; refine (Apart_q x y x0 y0 x1 y1 _ _ _ l (by omega) _ (PL.below L.out (by exact sm))).mono ?_; rintro e w3 ⟨rfl, bb⟩; replace bb := nextw (w0 := w2) (by exact sm) bb; replace B_z0 := mv B_z0 bb; replace B_z1 := mv B_z1 bb; replace L := Lib.hid (PL.below L.out bb); replace HB := nx HB bb; clear bb c0z0 c1z0 c2z0 c0z1 c1z1 c2z1 c3z1; have c0z0 : w3.cell? ⟨w.heap.size, 0, none⟩ = some (.int .i64 x) := B_z0.out.cell 0 rfl; have c1z0 : w3.cell? ⟨w.heap.size, 1, none⟩ = some (.int .i64 y) := B_z0.out.cell 1 rfl; have c2z0 : w3.cell? ⟨w.heap.size, 2, none⟩ = some (.slice A n c) := B_z0.out.cell 2 rfl; have c0z1 : w3.cell? ⟨w.heap.size + 1, 0, none⟩ = some (.int .i64 x0) := B_z1.out.cell 0 rfl; have c1z1 : w3.cell? ⟨w.heap.size + 1, 1, none⟩ = some (.int .i64 y0) := B_z1.out.cell 1 rfl; have c2z1 : w3.cell? ⟨w.heap.size + 1, 2, none⟩ = some (.int .i64 x1) := B_z1.out.cell 2 rfl; have c3z1 : w3.cell? ⟨w.heap.size + 1, 3, none⟩ = some (.int .i64 y1) := B_z1.out.cell 3 rfl; have tk1x1 : True := trivial)
      | (clear tk1x1; go_at_call 41; refine (RApart_q x y x0 y0 x1 y1 _ _ _ l (by omega) _ (PL.below L.out (by exact sm))).mono ?_; rintro e w4 ⟨rfl, bb⟩; replace bb := nextw (w0 := w3) (by exact sm) bb; replace B_z0 := mv B_z0 bb; replace B_z1 := mv B_z1 bb; replace L := Lib.hid (PL.below L.out bb); replace HB := nx HB bb; clear bb c0z0 c1z0 c2z0 c0z1 c1z1 c2z1 c3z1; have c0z0 : w4.cell? ⟨w.heap.size, 0, none⟩ = some (.int .i64 x) := B_z0.out.cell 0 rfl; have c1z0 : w4.cell? ⟨w.heap.size, 1, none⟩ = some (.int .i64 y) := B_z0.out.cell 1 rfl; have c2z0 : w4.cell? ⟨w.heap.size, 2, none⟩ = some (.slice A n c) := B_z0.out.cell 2 rfl; have c0z1 : w4.cell? ⟨w.heap.size + 1, 0, none⟩ = some (.int .i64 x0) := B_z1.out.cell 0 rfl; have c1z1 : w4.cell? ⟨w.heap.size + 1, 1, none⟩ = some (.int .i64 y0) := B_z1.out.cell 1 rfl; have c2z1 : w4.cell? ⟨w.heap.size + 1, 2, none⟩ = some (.int .i64 x1) := B_z1.out.cell 2 rfl; have c3z1 : w4.cell? ⟨w.heap.size + 1, 3, none⟩ = some (.int .i64 y1) := B_z1.out.cell 3 rfl; have tk1x2 : True := trivial))
  clear c0z0 c1z0 c2z0 c0z1 c1z1 c2z1 c3z1
  obtain ⟨c0z1, c1z1, c2z1, c3z1⟩ := cells4 B_z1
  have lt_z2z0 := B_z0.out.lt
  have lt_z2z1 := B_z1.out.lt
  obtain ⟨bb, B_z2⟩ := box1 w4 31 #[.int .i64 x0, .int .i64 y0, .int .i64 x0, .int .i64 y0]
  replace bb := bb.out
  replace B_z0 := mv B_z0 bb
  replace B_z1 := mv B_z1 bb
  replace L := Lib.hid (PL.below L.out bb)
  replace HB := nx HB bb
  clear bb
  go_upto_region 6 with (fail)
  clear c0z1 c1z1 c2z1 c3z1
  generalize w4.alloc (.cells #[.int .i64 x0, .int .i64 y0, .int .i64 x0, .int .i64 y0] 31) = WN3 at *
  obtain ⟨c0z0, c1z0, c2z0⟩ := cells3 B_z0
  go_wp2_with fail
  refine (RValid_is x y _ _ _ l (by omega) _ (PL.below L.out (by exact sm))).mono ?_
  clear c0z0 c1z0 c2z0
  rintro e w5 ⟨rfl, bb⟩
  replace bb := nextw (w0 := WN3) (by exact sm) bb
  replace B_z0 := mv B_z0 bb
  replace B_z1 := mv B_z1 bb
  replace B_z2 := mv B_z2 bb
  replace L := Lib.hid (PL.below L.out bb)
  replace HB := nx HB bb
  clear bb
  obtain ⟨c0z1, c1z1, c2z1, c3z1⟩ := cells4 B_z1
  go_wp2_with fail
  refine (H5.out _).mono ?_
  clear c0z1 c1z1 c2z1 c3z1
  rintro e w6 ⟨rfl, bb⟩
  replace bb := nextw (w0 := w5) (by exact sm) bb
  replace B_z0 := mv B_z0 bb
  replace B_z1 := mv B_z1 bb
  replace B_z2 := mv B_z2 bb
  replace L := Lib.hid (PL.below L.out bb)
  replace HB := nx HB bb
  clear bb
  obtain ⟨c0z1, c1z1, c2z1, c3z1⟩ := cells4 B_z1
  go_wp2_with fail
  refine (H6.out _).mono ?_
  clear c0z1 c1z1 c2z1 c3z1
  rintro e w7 ⟨rfl, bb⟩
  replace bb := nextw (w0 := w6) (by exact sm) bb
  replace B_z0 := mv B_z0 bb
  replace B_z1 := mv B_z1 bb
  replace B_z2 := mv B_z2 bb
  replace L := Lib.hid (PL.below L.out bb)
  replace HB := nx HB bb
  clear bb
  go_upto_region 8 with (fail)
  have wq8x0 : IntKind.i64.wrap (2 * x0) = 2 * x0 := by rw [IntKind.wrap_i64]; omega
  have wq8x1 : IntKind.i64.wrap (2 * y0) = 2 * y0 := by rw [IntKind.wrap_i64]; omega
  obtain ⟨c0z0, c1z0, c2z0⟩ := cells3 B_z0
  obtain ⟨c0z2, c1z2, c2z2, c3z2⟩ := cells4 B_z2
  obtain ⟨c0z1, c1z1, -, -⟩ := cells4 B_z1
  have tk2x0 : True := trivial
  go_region_held3 (fun w' => w'.cell? ⟨w.heap.size, 0, none⟩ = some (.int .i64 x) ∧ w'.cell? ⟨w.heap.size, 1, none⟩ = some (.int .i64 y) ∧ w'.cell? ⟨w.heap.size, 2, none⟩ = some (.slice A n c) ∧ w'.cell? ⟨w4.heap.size, 0, none⟩ = some (.int .i64 x0) ∧ w'.cell? ⟨w4.heap.size, 1, none⟩ = some (.int .i64 y0) ∧ w'.cell? ⟨w4.heap.size, 2, none⟩ = some (.int .i64 x0) ∧ w'.cell? ⟨w4.heap.size, 3, none⟩ = some (.int .i64 y0) ∧ w'.cell? ⟨w.heap.size + 1, 0, none⟩ = some (.int .i64 x0) ∧ w'.cell? ⟨w.heap.size + 1, 1, none⟩ = some (.int .i64 y0)) (((try dsimp only); (repeat' apply And.intro) <;> (first | (with_reducible assumption) | ((repeat (first | (with_reducible refine Eq.trans (cell_drew1 _ _) ?_) | (with_reducible refine Eq.trans (cell_far (by omega) _ _ _) ?_) | (with_reducible refine Eq.trans (World.cell?_alloc_lt _ _ _ (by first | (dsimp only; omega) | (simp only [World.size_alloc, World.size_setCell]; omega))) ?_))); with_reducible assumption) | assumption | go_keep)))
    (first
      | (clear tk2x0; go_at_call 40; refine (Apart_q x y x0 y0 x0 y0 _ _ _ l (by omega) _ (PL.below L.out (by exact sm))).mono ?_; rintro e w8 ⟨rfl, bb⟩; replace bb := nextw (w0 := w7) (by exact sm) bb; replace B_z0 := mv B_z0 bb; replace B_z1 := mv B_z1 bb; replace B_z2 := mv B_z2 bb; replace L := Lib.hid (PL.below L.out bb); replace HB := nx HB bb; clear bb c0z0 c1z0 c2z0 c0z2 c1z2 c2z2 c3z2 c0z1 c1z1; have c0z0 : w8.cell? ⟨w.heap.size, 0, none⟩ = some (.int .i64 x) := B_z0.out.cell 0 rfl; have c1z0 : w8.cell? ⟨w.heap.size, 1, none⟩ = some (.int .i64 y) := B_z0.out.cell 1 rfl; have c2z0 : w8.cell? ⟨w.heap.size, 2, none⟩ = some (.slice A n c) := B_z0.out.cell 2 rfl; have c0z2 : w8.cell? ⟨w4.heap.size, 0, none⟩ = some (.int .i64 x0) := B_z2.out.cell 0 rfl; have c1z2 : w8.cell? ⟨w4.heap.size, 1, none⟩ = some (.int .i64 y0) := B_z2.out.cell 1 rfl; have c2z2 : w8.cell? ⟨w4.heap.size, 2, none⟩ = some (.int .i64 x0) := B_z2.out.cell 2 rfl; have c3z2 : w8.cell? ⟨w4.heap.size, 3, none⟩ = some (.int .i64 y0) := B_z2.out.cell 3 rfl; have c0z1 : w8.cell? ⟨w.heap.size + 1, 0, none⟩ = some (.int .i64 x0) := B_z1.out.cell 0 rfl; have c1z1 : w8.cell? ⟨w.heap.size + 1, 1, none⟩ = some (.int .i64 y0) := B_z1.out.cell 1 rfl; have tk2x1 : True := trivial)
      | (clear tk2x1; go_at_call 33; refine (Has_q x y (2 * x0) (2 * y0) _ _ _ l (by omega) _ (PL.below L.out (by exact sm))).mono ?_; rintro e w9 ⟨rfl, bb⟩; replace bb := nextw (w0 := w8) (by exact sm) bb; replace B_z0 := mv B_z0 bb; replace B_z1 := mv B_z1 bb; replace B_z2 := mv B_z2 bb; replace L := Lib.hid (PL.below L.out bb); replace HB := nx HB bb; clear bb c0z0 c1z0 c2z0 c0z2 c1z2 c2z2 c3z2 c0z1 c1z1; have c0z0 : w9.cell? ⟨w.heap.size, 0, none⟩ = some (.int .i64 x) := B_z0.out.cell 0 rfl; have c1z0 : w9.cell? ⟨w.heap.size, 1, none⟩ = some (.int .i64 y) := B_z0.out.cell 1 rfl; have c2z0 : w9.cell? ⟨w.heap.size, 2, none⟩ = some (.slice A n c) := B_z0.out.cell 2 rfl; have c0z2 : w9.cell? ⟨w4.heap.size, 0, none⟩ = some (.int .i64 x0) := B_z2.out.cell 0 rfl; have c1z2 : w9.cell? ⟨w4.heap.size, 1, none⟩ = some (.int .i64 y0) := B_z2.out.cell 1 rfl; have c2z2 : w9.cell? ⟨w4.heap.size, 2, none⟩ = some (.int .i64 x0) := B_z2.out.cell 2 rfl; have c3z2 : w9.cell? ⟨w4.heap.size, 3, none⟩ = some (.int .i64 y0) := B_z2.out.cell 3 rfl; have c0z1 : w9.cell? ⟨w.heap.size + 1, 0, none⟩ = some (.int .i64 x0) := B_z1.out.cell 0 rfl; have c1z1 : w9.cell? ⟨w.heap.size + 1, 1, none⟩ = some (.int .i64 y0) := B_z1.out.cell 1 rfl; have tk2x2 : True := trivial))
  clear c0z0 c1z0 c2z0 c0z2 c1z2 c2z2 c3z2 c0z1 c1z1
  go_wp2
  go_ret
  exact ⟨(by first | rfl | exact rbt (by omega) | exact rbf (by omega)), nextw HB.out (by exact sm)⟩

theorem Apart_any (x y x0 y0 x1 y1 : Int) (A : Option Addr) (n c : Nat) (l : List P2) (w : World) {lo hi : Nat} (L : PL w lo hi A n c l) :
    Calls Try.prog 10 #[.agg #[.int .i64 x, .int .i64 y, .slice A n c], .agg #[.int .i64 x0, .int .i64 y0, .int .i64 x1, .int .i64 y1]] w fun e w' => e = .returned (.bool true) ∧ Below w.heap.size w w' := by
  by_cases dd0 : ((n : Nat) : Int) ≤ 40
  · skip
    by_cases dd1 : OkZ x y l
    · skip
      by_cases dd2 : Wi x0 2097152
      · skip
        by_cases dd3 : Wi y0 2097152
        · skip
          by_cases dd4 : ApartP x y l x0 y0 x0 y0
          · skip
            by_cases dd5 : HasP x y l (2 * x0) (2 * y0)
            · exact absurd dd5 ((apart_pt dd1 dd2 dd3).1 dd4)
            · skip
              exact LApart_w7 x y x0 y0 x1 y1 A n c l  dd0 dd1 dd2 dd3 dd4 dd5 w L
          · skip
            by_cases dd5 : HasP x y l (2 * x0) (2 * y0)
            · skip
              exact LApart_w5 x y x0 y0 x1 y1 A n c l  dd0 dd1 dd2 dd3 dd4 dd5 w L
            · exact absurd ((apart_pt dd1 dd2 dd3).2 dd5) dd4
        · skip
          exact LApart_w4 x y x0 y0 x1 y1 A n c l  dd0 dd1 dd2 dd3 w L
      · skip
        exact LApart_w3 x y x0 y0 x1 y1 A n c l  dd0 dd1 dd2 w L
    · skip
      exact LApart_w2 x y x0 y0 x1 y1 A n c l  dd0 dd1 w L
  · skip
    replace dd0 : 40 < ((n : Nat) : Int) := by omega
    exact LApart_w1 x y x0 y0 x1 y1 A n c l  dd0 w L
end Go.Proofs.Ytpjbkadhmjlpfaa
