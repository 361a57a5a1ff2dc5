/- zonogon.Has, Support, Bounds. -/
import Derived.Test.YtpjbkadhmjlpfaaZ5
set_option linter.unusedVariables false
set_option linter.unusedSimpArgs false
namespace Go.Proofs.Ytpjbkadhmjlpfaa
open Go Go.RowKit Hd

/-- The support of a zonogon. -/
def supV (x y : Int) (l : List P2) (nx ny : Int) : Int := dt nx ny x y + spr l nx ny
theorem pm_n {x y : Int} {l : List P2} {nx ny : Int} (h : OkZ x y l) (hx : Wi nx 65536) (hy : Wi ny 65536) : Pm l nx ny := pm_of hx hy h.2.2.2 (by decide)
theorem okz_len {x y : Int} {l : List P2} (h : OkZ x y l) : l.length ≤ 16 := h.2.2.1
theorem spr_bz {x y : Int} {l : List P2} {nx ny : Int} (h : OkZ x y l) (hp : Pm l nx ny) : 0 ≤ spr l nx ny ∧ spr l nx ny ≤ 36028797018963968 := by
  have a := spr_bd hp
  have b := okz_len h
  omega
theorem dt_bd {nx ny x y : Int} (hx : Wi nx 65536) (hy : Wi ny 65536) (h1 : Wi x 8388608) (h2 : Wi y 8388608) : (Sm (nx * x) ∧ Sm (ny * y)) ∧ -1099511627776 ≤ dt nx ny x y ∧ dt nx ny x y ≤ 1099511627776 := by
  have a := wi_mul hx h1
  have b := wi_mul hy h2
  obtain ⟨a1, a2⟩ := a
  obtain ⟨b1, b2⟩ := b
  unfold dt
  exact ⟨⟨⟨by omega, by omega⟩, by omega, by omega⟩, by omega, by omega⟩

set_option maxRecDepth 100000 in
set_option maxHeartbeats 4000000 in
theorem middle_w0 (x y : Int) (A : Option Addr) (n c : Nat) (l : List P2)    (w : World) {lo_L hi_L : Nat} (L : PL w lo_L hi_L A n c l) :
    Calls Try.prog 55 #[.agg #[.int .i64 x, .int .i64 y, .slice A n c]] w fun e w' => e = .returned (.agg #[.int .i64 x, .int .i64 y]) ∧ Below w.heap.size w w' := by
  replace L := Lib.hid L
  obtain ⟨HB, B_z0, B_z1⟩ := box2 w 24 #[.int .i64 x, .int .i64 y, .slice A n c] 39 #[.int .i64 0, .int .i64 0]
  replace L := Lib.hid (PL.below L.out HB.out)
  go_enter Try.func55, Try.ntmps55
  go_upto_region 1 with (fail)
  generalize (w.alloc (.cells #[.int .i64 x, .int .i64 y, .slice A n c] 24)).alloc (.cells #[.int .i64 0, .int .i64 0] 39) = W0 at *
  obtain ⟨c0z0, c1z0, c2z0⟩ := cells3 B_z0
  obtain ⟨s0, s1⟩ := cells2 (stor2 B_z1 (.int .i64 x) (.int .i64 y))
  have HF := stb2 HB (y := w.heap.size + 1) (by omega) 0 (.int .i64 x) 1 (.int .i64 y)
  obtain ⟨c0z1, c1z1⟩ := cells2 B_z1
  obtain ⟨f0z1, f1z1⟩ := froz2 B_z1
  go_wp2_with fail
  exact bodyPost_ret (v := .agg #[.int .i64 x, .int .i64 y]) (by simp [results, Try.results55, go_sem, s0, s1]) rfl ⟨rfl, nextw HF.out (by exact sm)⟩

def middleV (x y : Int) (A : Option Addr) (n c : Nat) (l : List P2) : Value := .agg #[.int .i64 x, .int .i64 y]
theorem middle_any (x y : Int) (A : Option Addr) (n c : Nat) (l : List P2)  (w : World) {lo_L hi_L : Nat} (L : PL w lo_L hi_L A n c l) :
    Calls Try.prog 55 #[.agg #[.int .i64 x, .int .i64 y, .slice A n c]] w fun e w' => e = .returned (middleV x y A n c l) ∧ Below w.heap.size w w' := by
  unfold middleV
  exact middle_w0 x y A n c l     w L

theorem middle_is (x y : Int) (A : Option Addr) (n c : Nat) (l : List P2) (w : World) {lo hi : Nat} (L : PL w lo hi A n c l) : Calls Try.prog 55 #[.agg #[.int .i64 x, .int .i64 y, .slice A n c]] w fun e w' => e = .returned (.agg #[.int .i64 x, .int .i64 y]) ∧ Below w.heap.size w w' := middle_any x y A n c l w L

set_option maxRecDepth 100000 in
set_option maxHeartbeats 4000000 in
theorem Has_w0 (x y p q : Int) (A : Option Addr) (n c : Nat) (l : List P2)  (hn : n ≤ 1000) (dd0 : OkZ x y l) (dd1 : Wi p 16777216) (dd2 : Wi q 16777216) (w : World) {lo_L hi_L : Nat} (L : PL w lo_L hi_L A n c l) :
    Calls Try.prog 33 #[.agg #[.int .i64 x, .int .i64 y, .slice A n c], .int .i64 p, .int .i64 q] w fun e w' => e = .returned (.bool (decide (Rc l (p - x) (q - y)))) ∧ Below w.heap.size w w' := by
  replace L := Lib.hid L
  have H1 := Lib.hid (fun w => within_is p 16777216 (by omega) w)
  have H2 := Lib.hid (fun w => within_is q 16777216 (by omega) w)
  have dd0x1 := dd0.1.1
  have dd0x2 := dd0.1.2
  have dd0y1 := dd0.2.1.1
  have dd0y2 := dd0.2.1.2
  have dd1x1 := dd1.1
  have dd1x2 := dd1.2
  have dd2x1 := dd2.1
  have dd2x2 := dd2.2
  obtain ⟨HB, B_z0⟩ := box1 w 24 #[.int .i64 x, .int .i64 y, .slice A n c]
  replace L := Lib.hid (PL.below L.out HB.out)
  go_enter Try.func33, Try.ntmps33
  go_upto_region 1 with (fail)
  generalize w.alloc (.cells #[.int .i64 x, .int .i64 y, .slice A n c] 24) = W0 at *
  obtain ⟨c0z0, c1z0, c2z0⟩ := cells3 B_z0
  go_wp2_with fail
  refine (Valid_yes dd0 (by omega) _ (PL.below L.out (by exact sm))).mono ?_
  clear c0z0 c1z0 c2z0
  rintro e w1 ⟨rfl, bb⟩
  replace bb := nextw (w0 := W0) (by exact sm) bb
  replace B_z0 := mv B_z0 bb
  replace L := Lib.hid (PL.below L.out bb)
  replace HB := nx HB bb
  clear bb
  go_wp2_with fail
  refine (H1.out _).mono ?_
  rintro e w2 ⟨rfl, bb⟩
  replace bb := nextw (w0 := w1) (by exact sm) bb
  replace B_z0 := mv B_z0 bb
  replace L := Lib.hid (PL.below L.out bb)
  replace HB := nx HB bb
  clear bb
  go_wp2_with fail
  refine (H2.out _).mono ?_
  rintro e w3 ⟨rfl, bb⟩
  replace bb := nextw (w0 := w2) (by exact sm) bb
  replace B_z0 := mv B_z0 bb
  replace L := Lib.hid (PL.below L.out bb)
  replace HB := nx HB bb
  clear bb
  obtain ⟨c0z0, c1z0, c2z0⟩ := cells3 B_z0
  go_wp2_with fail
  refine (reaches_is (p - x) (q - y) _ _ _ l (by omega) ⟨⟨by omega, by omega⟩, by omega, by omega⟩ (okz_sd dd0) _ (PL.below L.out (by exact sm))).mono ?_
  clear c0z0 c1z0 c2z0
  rintro e w4 ⟨rfl, bb⟩
  replace bb := nextw (w0 := w3) (by exact sm) bb
  replace B_z0 := mv B_z0 bb
  replace L := Lib.hid (PL.below L.out bb)
  replace HB := nx HB bb
  clear bb
  go_wp2
  go_ret
  exact ⟨(by first | rfl | exact rbt (by omega) | exact rbf (by omega)), nextw HB.out (by exact sm)⟩

set_option maxRecDepth 100000 in
set_option maxHeartbeats 4000000 in
theorem Has_w1 (x y p q : Int) (A : Option Addr) (n c : Nat) (l : List P2)  (hn : n ≤ 1000) (dd0 : ¬ (OkZ x y l)) (w : World) {lo_L hi_L : Nat} (L : PL w lo_L hi_L A n c l) :
    Calls Try.prog 33 #[.agg #[.int .i64 x, .int .i64 y, .slice A n c], .int .i64 p, .int .i64 q] w fun e w' => e = .returned (.bool false) ∧ Below w.heap.size w w' := by
  replace L := Lib.hid L
  obtain ⟨HB, B_z0⟩ := box1 w 24 #[.int .i64 x, .int .i64 y, .slice A n c]
  replace L := Lib.hid (PL.below L.out HB.out)
  go_enter Try.func33, Try.ntmps33
  go_upto_region 1 with (fail)
  generalize w.alloc (.cells #[.int .i64 x, .int .i64 y, .slice A n c] 24) = W0 at *
  obtain ⟨c0z0, c1z0, c2z0⟩ := cells3 B_z0
  go_wp2_with fail
  refine (Valid_no dd0 (by omega) _ (PL.below L.out (by exact sm))).mono ?_
  clear c0z0 c1z0 c2z0
  rintro e w1 ⟨rfl, bb⟩
  replace bb := nextw (w0 := W0) (by exact sm) bb
  replace B_z0 := mv B_z0 bb
  replace L := Lib.hid (PL.below L.out bb)
  replace HB := nx HB bb
  clear bb
  go_wp2
  go_ret
  exact ⟨(by first | rfl | exact rbt (by omega) | exact rbf (by omega)), nextw HB.out (by exact sm)⟩

set_option maxRecDepth 100000 in
set_option maxHeartbeats 4000000 in
theorem Has_w2 (x y p q : Int) (A : Option Addr) (n c : Nat) (l : List P2)  (hn : n ≤ 1000) (dd0 : OkZ x y l) (dd1 : ¬ (Wi p 16777216)) (w : World) {lo_L hi_L : Nat} (L : PL w lo_L hi_L A n c l) :
    Calls Try.prog 33 #[.agg #[.int .i64 x, .int .i64 y, .slice A n c], .int .i64 p, .int .i64 q] w fun e w' => e = .returned (.bool false) ∧ Below w.heap.size w w' := by
  replace L := Lib.hid L
  have H1 := Lib.hid (fun w => within_is p 16777216 (by omega) w)
  have dd0x1 := dd0.1.1
  have dd0x2 := dd0.1.2
  have dd0y1 := dd0.2.1.1
  have dd0y2 := dd0.2.1.2
  obtain ⟨HB, B_z0⟩ := box1 w 24 #[.int .i64 x, .int .i64 y, .slice A n c]
  replace L := Lib.hid (PL.below L.out HB.out)
  go_enter Try.func33, Try.ntmps33
  go_upto_region 1 with (fail)
  generalize w.alloc (.cells #[.int .i64 x, .int .i64 y, .slice A n c] 24) = W0 at *
  obtain ⟨c0z0, c1z0, c2z0⟩ := cells3 B_z0
  go_wp2_with fail
  refine (Valid_yes dd0 (by omega) _ (PL.below L.out (by exact sm))).mono ?_
  clear c0z0 c1z0 c2z0
  rintro e w1 ⟨rfl, bb⟩
  replace bb := nextw (w0 := W0) (by exact sm) bb
  replace B_z0 := mv B_z0 bb
  replace L := Lib.hid (PL.below L.out bb)
  replace HB := nx HB bb
  clear bb
  go_wp2_with fail
  refine (H1.out _).mono ?_
  rintro e w2 ⟨rfl, bb⟩
  replace bb := nextw (w0 := w1) (by exact sm) bb
  replace B_z0 := mv B_z0 bb
  replace L := Lib.hid (PL.below L.out bb)
  replace HB := nx HB bb
  clear bb
  go_wp2
  go_ret
  exact ⟨(by first | rfl | exact rbt (by omega) | exact rbf (by omega)), nextw HB.out (by exact sm)⟩

set_option maxRecDepth 100000 in
set_option maxHeartbeats 4000000 in
theorem Has_w3 (x y p q : Int) (A : Option Addr) (n c : Nat) (l : List P2)  (hn : n ≤ 1000) (dd0 : OkZ x y l) (dd1 : Wi p 16777216) (dd2 : ¬ (Wi q 16777216)) (w : World) {lo_L hi_L : Nat} (L : PL w lo_L hi_L A n c l) :
    Calls Try.prog 33 #[.agg #[.int .i64 x, .int .i64 y, .slice A n c], .int .i64 p, .int .i64 q] w fun e w' => e = .returned (.bool false) ∧ Below w.heap.size w w' := by
  replace L := Lib.hid L
  have H1 := Lib.hid (fun w => within_is p 16777216 (by omega) w)
  have H2 := Lib.hid (fun w => within_is q 16777216 (by omega) w)
  have dd0x1 := dd0.1.1
  have dd0x2 := dd0.1.2
  have dd0y1 := dd0.2.1.1
  have dd0y2 := dd0.2.1.2
  have dd1x1 := dd1.1
  have dd1x2 := dd1.2
  obtain ⟨HB, B_z0⟩ := box1 w 24 #[.int .i64 x, .int .i64 y, .slice A n c]
  replace L := Lib.hid (PL.below L.out HB.out)
  go_enter Try.func33, Try.ntmps33
  go_upto_region 1 with (fail)
  generalize w.alloc (.cells #[.int .i64 x, .int .i64 y, .slice A n c] 24) = W0 at *
  obtain ⟨c0z0, c1z0, c2z0⟩ := cells3 B_z0
  go_wp2_with fail
  refine (Valid_yes dd0 (by omega) _ (PL.below L.out (by exact sm))).mono ?_
  clear c0z0 c1z0 c2z0
  rintro e w1 ⟨rfl, bb⟩
  replace bb := nextw (w0 := W0) (by exact sm) bb
  replace B_z0 := mv B_z0 bb
  replace L := Lib.hid (PL.below L.out bb)
  replace HB := nx HB bb
  clear bb
  go_wp2_with fail
  refine (H1.out _).mono ?_
  rintro e w2 ⟨rfl, bb⟩
  replace bb := nextw (w0 := w1) (by exact sm) bb
  replace B_z0 := mv B_z0 bb
  replace L := Lib.hid (PL.below L.out bb)
  replace HB := nx HB bb
  clear bb
  go_wp2_with fail
  refine (H2.out _).mono ?_
  rintro e w3 ⟨rfl, bb⟩
  replace bb := nextw (w0 := w2) (by exact sm) bb
  replace B_z0 := mv B_z0 bb
  replace L := Lib.hid (PL.below L.out bb)
  replace HB := nx HB bb
  clear bb
  go_wp2
  go_ret
  exact ⟨(by first | rfl | exact rbt (by omega) | exact rbf (by omega)), nextw HB.out (by exact sm)⟩

def HasV (x y p q : Int) (A : Option Addr) (n c : Nat) (l : List P2) : Value := if OkZ x y l then if Wi p 16777216 then if Wi q 16777216 then .bool (decide (Rc l (p - x) (q - y))) else .bool false else .bool false else .bool false
theorem Has_any (x y p q : Int) (A : Option Addr) (n c : Nat) (l : List P2) (hn : n ≤ 1000) (w : World) {lo_L hi_L : Nat} (L : PL w lo_L hi_L A n c l) :
    Calls Try.prog 33 #[.agg #[.int .i64 x, .int .i64 y, .slice A n c], .int .i64 p, .int .i64 q] w fun e w' => e = .returned (HasV x y p q A n c l) ∧ Below w.heap.size w w' := by
  unfold HasV
  by_cases dd0 : OkZ x y l
  · rw [if_pos dd0]
    by_cases dd1 : Wi p 16777216
    · rw [if_pos dd1]
      by_cases dd2 : Wi q 16777216
      · rw [if_pos dd2]
        exact Has_w0 x y p q A n c l   hn dd0 dd1 dd2 w L
      · rw [if_neg dd2]
        exact Has_w3 x y p q A n c l   hn dd0 dd1 dd2 w L
    · rw [if_neg dd1]
      exact Has_w2 x y p q A n c l   hn dd0 dd1 w L
  · rw [if_neg dd0]
    exact Has_w1 x y p q A n c l   hn dd0 w L

set_option maxRecDepth 100000 in
set_option maxHeartbeats 4000000 in
theorem Support_w0 (x y a b : Int) (A : Option Addr) (n c : Nat) (l : List P2)  (hn : n ≤ 1000) (dd0 : OkZ x y l) (dd1 : Wi a 65536 ∧ Wi b 65536) (w : World) {lo_L hi_L : Nat} (L : PL w lo_L hi_L A n c l) :
    Calls Try.prog 34 #[.agg #[.int .i64 x, .int .i64 y, .slice A n c], .agg #[.int .i64 a, .int .i64 b]] w fun e w' => e = .returned (.int .i64 ((dt a b x y) + (spr l a b))) ∧ Below w.heap.size w w' := by
  replace L := Lib.hid L
  have H1 := Lib.hid (fun w => pointWithin_is a b 65536 (by omega) w)
  have dd0x1 := dd0.1.1
  have dd0x2 := dd0.1.2
  have dd0y1 := dd0.2.1.1
  have dd0y2 := dd0.2.1.2
  have dd1x1 := dd1.1.1
  have dd1x2 := dd1.1.2
  have dd1y1 := dd1.2.1
  have dd1y2 := dd1.2.2
  have hdt := dt_bd dd1.1 dd1.2 dd0.1 dd0.2.1
  have hpm := Lib.hid (pm_n dd0 dd1.1 dd1.2)
  have hsb := spr_bz dd0 hpm.out
  have hd3 := hdt.2
  obtain ⟨HB, B_z0, B_z1⟩ := box2 w 24 #[.int .i64 x, .int .i64 y, .slice A n c] 39 #[.int .i64 a, .int .i64 b]
  replace L := Lib.hid (PL.below L.out HB.out)
  go_enter Try.func34, Try.ntmps34
  go_upto_region 1 with (fail)
  generalize (w.alloc (.cells #[.int .i64 x, .int .i64 y, .slice A n c] 24)).alloc (.cells #[.int .i64 a, .int .i64 b] 39) = W0 at *
  obtain ⟨c0z0, c1z0, c2z0⟩ := cells3 B_z0
  go_wp2_with fail
  refine (Valid_yes dd0 (by omega) _ (PL.below L.out (by exact sm))).mono ?_
  clear c0z0 c1z0 c2z0
  rintro e w1 ⟨rfl, bb⟩
  replace bb := nextw (w0 := W0) (by exact sm) bb
  replace B_z0 := mv B_z0 bb
  replace B_z1 := mv B_z1 bb
  replace L := Lib.hid (PL.below L.out bb)
  replace HB := nx HB bb
  clear bb
  obtain ⟨c0z1, c1z1⟩ := cells2 B_z1
  go_wp2_with fail
  refine (H1.out _).mono ?_
  clear c0z1 c1z1
  rintro e w2 ⟨rfl, bb⟩
  replace bb := nextw (w0 := w1) (by exact sm) bb
  replace B_z0 := mv B_z0 bb
  replace B_z1 := mv B_z1 bb
  replace L := Lib.hid (PL.below L.out bb)
  replace HB := nx HB bb
  clear bb
  go_upto_region 3 with (fail)
  have wq3x0 : IntKind.i64.wrap ((dt a b x y) + (spr l a b)) = (dt a b x y) + (spr l a b) := by rw [IntKind.wrap_i64]; omega
  obtain ⟨c0z1, c1z1⟩ := cells2 B_z1
  obtain ⟨c0z0, c1z0, c2z0⟩ := cells3 B_z0
  have tk1x0 : True := trivial
  go_region_held3 (fun w' => w'.cell? ⟨w.heap.size + 1, 0, none⟩ = some (.int .i64 a) ∧ w'.cell? ⟨w.heap.size + 1, 1, none⟩ = some (.int .i64 b) ∧ w'.cell? ⟨w.heap.size, 0, none⟩ = some (.int .i64 x) ∧ w'.cell? ⟨w.heap.size, 1, none⟩ = some (.int .i64 y) ∧ w'.cell? ⟨w.heap.size, 2, none⟩ = some (.slice A n c)) (((try dsimp only); (repeat' apply And.intro) <;> (first | (with_reducible assumption) | ((repeat (first | (with_reducible refine Eq.trans (cell_drew1 _ _) ?_) | (with_reducible refine Eq.trans (cell_far (by omega) _ _ _) ?_) | (with_reducible refine Eq.trans (World.cell?_alloc_lt _ _ _ (by first | (dsimp only; omega) | (simp only [World.size_alloc, World.size_setCell]; omega))) ?_))); with_reducible assumption) | assumption | go_keep)))
    (first
      | (clear tk1x0; go_at_call 55; refine (middle_is x y _ _ _ l _ (PL.below L.out (by exact sm))).mono ?_; rintro e w3 ⟨rfl, bb⟩; replace bb := nextw (w0 := w2) (by exact sm) bb; replace B_z0 := mv B_z0 bb; replace B_z1 := mv B_z1 bb; replace L := Lib.hid (PL.below L.out bb); replace HB := nx HB bb; clear bb c0z1 c1z1 c0z0 c1z0 c2z0; have c0z1 : w3.cell? ⟨w.heap.size + 1, 0, none⟩ = some (.int .i64 a) := B_z1.out.cell 0 rfl; have c1z1 : w3.cell? ⟨w.heap.size + 1, 1, none⟩ = some (.int .i64 b) := B_z1.out.cell 1 rfl; have c0z0 : w3.cell? ⟨w.heap.size, 0, none⟩ = some (.int .i64 x) := B_z0.out.cell 0 rfl; have c1z0 : w3.cell? ⟨w.heap.size, 1, none⟩ = some (.int .i64 y) := B_z0.out.cell 1 rfl; have c2z0 : w3.cell? ⟨w.heap.size, 2, none⟩ = some (.slice A n c) := B_z0.out.cell 2 rfl; have tk1x1 : True := trivial)
      | (clear tk1x1; go_at_call 64; refine (dot_is a b x y hdt.1.1 hdt.1.2 _).mono ?_; rintro e w4 ⟨rfl, bb⟩; replace bb := nextw (w0 := w3) (by exact sm) bb; replace B_z0 := mv B_z0 bb; replace B_z1 := mv B_z1 bb; replace L := Lib.hid (PL.below L.out bb); replace HB := nx HB bb; clear bb c0z1 c1z1 c0z0 c1z0 c2z0; have c0z1 : w4.cell? ⟨w.heap.size + 1, 0, none⟩ = some (.int .i64 a) := B_z1.out.cell 0 rfl; have c1z1 : w4.cell? ⟨w.heap.size + 1, 1, none⟩ = some (.int .i64 b) := B_z1.out.cell 1 rfl; have c0z0 : w4.cell? ⟨w.heap.size, 0, none⟩ = some (.int .i64 x) := B_z0.out.cell 0 rfl; have c1z0 : w4.cell? ⟨w.heap.size, 1, none⟩ = some (.int .i64 y) := B_z0.out.cell 1 rfl; have c2z0 : w4.cell? ⟨w.heap.size, 2, none⟩ = some (.slice A n c) := B_z0.out.cell 2 rfl; have tk1x2 : True := trivial)
      | (clear tk1x2; go_at_call 46; refine (spread_is _ _ _ l a b (by omega) hpm.out _ (PL.below L.out (by exact sm))).mono ?_; rintro e w5 ⟨rfl, bb⟩; replace bb := nextw (w0 := w4) (by exact sm) bb; replace B_z0 := mv B_z0 bb; replace B_z1 := mv B_z1 bb; replace L := Lib.hid (PL.below L.out bb); replace HB := nx HB bb; clear bb c0z1 c1z1 c0z0 c1z0 c2z0; have c0z1 : w5.cell? ⟨w.heap.size + 1, 0, none⟩ = some (.int .i64 a) := B_z1.out.cell 0 rfl; have c1z1 : w5.cell? ⟨w.heap.size + 1, 1, none⟩ = some (.int .i64 b) := B_z1.out.cell 1 rfl; have c0z0 : w5.cell? ⟨w.heap.size, 0, none⟩ = some (.int .i64 x) := B_z0.out.cell 0 rfl; have c1z0 : w5.cell? ⟨w.heap.size, 1, none⟩ = some (.int .i64 y) := B_z0.out.cell 1 rfl; have c2z0 : w5.cell? ⟨w.heap.size, 2, none⟩ = some (.slice A n c) := B_z0.out.cell 2 rfl; have tk1x3 : True := trivial))
  clear c0z1 c1z1 c0z0 c1z0 c2z0
  go_wp2
  go_ret
  exact ⟨(by first | rfl | exact rbt (by omega) | exact rbf (by omega)), nextw HB.out (by exact sm)⟩

set_option maxRecDepth 100000 in
set_option maxHeartbeats 4000000 in
theorem Support_w1 (x y a b : Int) (A : Option Addr) (n c : Nat) (l : List P2)  (hn : n ≤ 1000) (dd0 : ¬ (OkZ x y l)) (w : World) {lo_L hi_L : Nat} (L : PL w lo_L hi_L A n c l) :
    Calls Try.prog 34 #[.agg #[.int .i64 x, .int .i64 y, .slice A n c], .agg #[.int .i64 a, .int .i64 b]] w fun e w' => e = .returned (.int .i64 0) ∧ Below w.heap.size w w' := by
  replace L := Lib.hid L
  obtain ⟨HB, B_z0, B_z1⟩ := box2 w 24 #[.int .i64 x, .int .i64 y, .slice A n c] 39 #[.int .i64 a, .int .i64 b]
  replace L := Lib.hid (PL.below L.out HB.out)
  go_enter Try.func34, Try.ntmps34
  go_upto_region 1 with (fail)
  generalize (w.alloc (.cells #[.int .i64 x, .int .i64 y, .slice A n c] 24)).alloc (.cells #[.int .i64 a, .int .i64 b] 39) = W0 at *
  obtain ⟨c0z0, c1z0, c2z0⟩ := cells3 B_z0
  go_wp2_with fail
  refine (Valid_no dd0 (by omega) _ (PL.below L.out (by exact sm))).mono ?_
  clear c0z0 c1z0 c2z0
  rintro e w1 ⟨rfl, bb⟩
  replace bb := nextw (w0 := W0) (by exact sm) bb
  replace B_z0 := mv B_z0 bb
  replace B_z1 := mv B_z1 bb
  replace L := Lib.hid (PL.below L.out bb)
  replace HB := nx HB bb
  clear bb
  go_wp2
  go_ret
  exact ⟨(by first | rfl | exact rbt (by omega) | exact rbf (by omega)), nextw HB.out (by exact sm)⟩

set_option maxRecDepth 100000 in
set_option maxHeartbeats 4000000 in
theorem Support_w2 (x y a b : Int) (A : Option Addr) (n c : Nat) (l : List P2)  (hn : n ≤ 1000) (dd0 : OkZ x y l) (dd1 : ¬ (Wi a 65536 ∧ Wi b 65536)) (w : World) {lo_L hi_L : Nat} (L : PL w lo_L hi_L A n c l) :
    Calls Try.prog 34 #[.agg #[.int .i64 x, .int .i64 y, .slice A n c], .agg #[.int .i64 a, .int .i64 b]] w fun e w' => e = .returned (.int .i64 0) ∧ Below w.heap.size w w' := by
  replace L := Lib.hid L
  have H1 := Lib.hid (fun w => pointWithin_is a b 65536 (by omega) w)
  have dd0x1 := dd0.1.1
  have dd0x2 := dd0.1.2
  have dd0y1 := dd0.2.1.1
  have dd0y2 := dd0.2.1.2
  obtain ⟨HB, B_z0, B_z1⟩ := box2 w 24 #[.int .i64 x, .int .i64 y, .slice A n c] 39 #[.int .i64 a, .int .i64 b]
  replace L := Lib.hid (PL.below L.out HB.out)
  go_enter Try.func34, Try.ntmps34
  go_upto_region 1 with (fail)
  generalize (w.alloc (.cells #[.int .i64 x, .int .i64 y, .slice A n c] 24)).alloc (.cells #[.int .i64 a, .int .i64 b] 39) = W0 at *
  obtain ⟨c0z0, c1z0, c2z0⟩ := cells3 B_z0
  go_wp2_with fail
  refine (Valid_yes dd0 (by omega) _ (PL.below L.out (by exact sm))).mono ?_
  clear c0z0 c1z0 c2z0
  rintro e w1 ⟨rfl, bb⟩
  replace bb := nextw (w0 := W0) (by exact sm) bb
  replace B_z0 := mv B_z0 bb
  replace B_z1 := mv B_z1 bb
  replace L := Lib.hid (PL.below L.out bb)
  replace HB := nx HB bb
  clear bb
  obtain ⟨c0z1, c1z1⟩ := cells2 B_z1
  go_wp2_with fail
  refine (H1.out _).mono ?_
  clear c0z1 c1z1
  rintro e w2 ⟨rfl, bb⟩
  replace bb := nextw (w0 := w1) (by exact sm) bb
  replace B_z0 := mv B_z0 bb
  replace B_z1 := mv B_z1 bb
  replace L := Lib.hid (PL.below L.out bb)
  replace HB := nx HB bb
  clear bb
  go_wp2
  go_ret
  exact ⟨(by first | rfl | exact rbt (by omega) | exact rbf (by omega)), nextw HB.out (by exact sm)⟩

def SupportV (x y a b : Int) (A : Option Addr) (n c : Nat) (l : List P2) : Value := if OkZ x y l then if Wi a 65536 ∧ Wi b 65536 then .int .i64 ((dt a b x y) + (spr l a b)) else .int .i64 0 else .int .i64 0
theorem Support_any (x y a b : Int) (A : Option Addr) (n c : Nat) (l : List P2) (hn : n ≤ 1000) (w : World) {lo_L hi_L : Nat} (L : PL w lo_L hi_L A n c l) :
    Calls Try.prog 34 #[.agg #[.int .i64 x, .int .i64 y, .slice A n c], .agg #[.int .i64 a, .int .i64 b]] w fun e w' => e = .returned (SupportV x y a b A n c l) ∧ Below w.heap.size w w' := by
  unfold SupportV
  by_cases dd0 : OkZ x y l
  · rw [if_pos dd0]
    by_cases dd1 : Wi a 65536 ∧ Wi b 65536
    · rw [if_pos dd1]
      exact Support_w0 x y a b A n c l   hn dd0 dd1 w L
    · rw [if_neg dd1]
      exact Support_w2 x y a b A n c l   hn dd0 dd1 w L
  · rw [if_neg dd0]
    exact Support_w1 x y a b A n c l   hn dd0 w L

set_option maxRecDepth 100000 in
set_option maxHeartbeats 4000000 in
theorem Bounds_w0 (x y : Int) (A : Option Addr) (n c : Nat) (l : List P2)  (hn : n ≤ 1000) (dd0 : OkZ x y l) (w : World) {lo_L hi_L : Nat} (L : PL w lo_L hi_L A n c l) :
    Calls Try.prog 17 #[.agg #[.int .i64 x, .int .i64 y, .slice A n c]] w fun e w' => e = .returned (.tuple #[.agg #[.int .i64 (x - (spr l 1 0)), .int .i64 (y - (spr l 0 1)), .int .i64 (x + (spr l 1 0)), .int .i64 (y + (spr l 0 1))], .int .i64 0]) ∧ Below w.heap.size w w' := by
  replace L := Lib.hid L
  have dd0x1 := dd0.1.1
  have dd0x2 := dd0.1.2
  have dd0y1 := dd0.2.1.1
  have dd0y2 := dd0.2.1.2
  have H10 := Lib.hid (pm_n (nx := 1) (ny := 0) dd0 (by decide) (by decide))
  have H01 := Lib.hid (pm_n (nx := 0) (ny := 1) dd0 (by decide) (by decide))
  have hs1 := spr_bz dd0 H10.out
  have hs2 := spr_bz dd0 H01.out
  obtain ⟨HB, B_z0, B_z1⟩ := box2 w 24 #[.int .i64 x, .int .i64 y, .slice A n c] 31 #[.int .i64 0, .int .i64 0, .int .i64 0, .int .i64 0]
  replace L := Lib.hid (PL.below L.out HB.out)
  go_enter Try.func17, Try.ntmps17
  go_upto_region 1 with (fail)
  generalize (w.alloc (.cells #[.int .i64 x, .int .i64 y, .slice A n c] 24)).alloc (.cells #[.int .i64 0, .int .i64 0, .int .i64 0, .int .i64 0] 31) = W0 at *
  obtain ⟨c0z0, c1z0, c2z0⟩ := cells3 B_z0
  go_wp2_with fail
  refine (Valid_yes dd0 (by omega) _ (PL.below L.out (by exact sm))).mono ?_
  clear c0z0 c1z0 c2z0
  rintro e w1 ⟨rfl, bb⟩
  replace bb := nextw (w0 := W0) (by exact sm) bb
  replace B_z0 := mv B_z0 bb
  replace B_z1 := mv B_z1 bb
  replace L := Lib.hid (PL.below L.out bb)
  replace HB := nx HB bb
  clear bb
  go_upto_region 3 with (fail)
  obtain ⟨-, -, c2z0⟩ := cells3 B_z0
  have tk1x0 : True := trivial
  go_region_held3 (fun w' => w'.cell? ⟨w.heap.size, 2, none⟩ = some (.slice A n c)) (((try dsimp only); (repeat' apply And.intro) <;> (first | (with_reducible assumption) | ((repeat (first | (with_reducible refine Eq.trans (cell_drew1 _ _) ?_) | (with_reducible refine Eq.trans (cell_far (by omega) _ _ _) ?_) | (with_reducible refine Eq.trans (World.cell?_alloc_lt _ _ _ (by first | (dsimp only; omega) | (simp only [World.size_alloc, World.size_setCell]; omega))) ?_))); with_reducible assumption) | assumption | go_keep)))
    (first
      | (clear tk1x0; go_at_call 46; refine (spread_is _ _ _ l 1 0 (by omega) H10.out _ (PL.below L.out (by exact sm))).mono ?_; rintro e w2 ⟨rfl, bb⟩; replace bb := nextw (w0 := w1) (by exact sm) bb; replace B_z0 := mv B_z0 bb; replace B_z1 := mv B_z1 bb; replace L := Lib.hid (PL.below L.out bb); replace HB := nx HB bb; clear bb c2z0; have c2z0 : w2.cell? ⟨w.heap.size, 2, none⟩ = some (.slice A n c) := B_z0.out.cell 2 rfl; have tk1x1 : True := trivial)
      | (clear tk1x1; go_at_call 46; refine (spread_is _ _ _ l 0 1 (by omega) H01.out _ (PL.below L.out (by exact sm))).mono ?_; rintro e w3 ⟨rfl, bb⟩; replace bb := nextw (w0 := w2) (by exact sm) bb; replace B_z0 := mv B_z0 bb; replace B_z1 := mv B_z1 bb; replace L := Lib.hid (PL.below L.out bb); replace HB := nx HB bb; clear bb c2z0; have c2z0 : w3.cell? ⟨w.heap.size, 2, none⟩ = some (.slice A n c) := B_z0.out.cell 2 rfl; have tk1x2 : True := trivial))
  clear c2z0
  obtain ⟨c0z0, c1z0, c2z0⟩ := cells3 B_z0
  obtain ⟨s0, s1, s2, s3⟩ := cells4 (stor4 B_z1 (.int .i64 (x - (spr l 1 0))) (.int .i64 (y - (spr l 0 1))) (.int .i64 (x + (spr l 1 0))) (.int .i64 (y + (spr l 0 1))))
  have HF := stb4 HB (y := w.heap.size + 1) (by omega) 0 (.int .i64 (x - (spr l 1 0))) 1 (.int .i64 (y - (spr l 0 1))) 2 (.int .i64 (x + (spr l 1 0))) 3 (.int .i64 (y + (spr l 0 1)))
  obtain ⟨c0z1, c1z1, c2z1, c3z1⟩ := cells4 B_z1
  obtain ⟨f0z1, f1z1, f2z1, f3z1⟩ := froz4 B_z1
  go_wp2_with fail
  exact bodyPost_ret (v := .tuple #[.agg #[.int .i64 (x - (spr l 1 0)), .int .i64 (y - (spr l 0 1)), .int .i64 (x + (spr l 1 0)), .int .i64 (y + (spr l 0 1))], .int .i64 0]) (by simp [results, Try.results17, go_sem, s0, s1, s2, s3]) rfl ⟨rfl, nextw HF.out (by exact sm)⟩

set_option maxRecDepth 100000 in
set_option maxHeartbeats 4000000 in
theorem Bounds_w1 (x y : Int) (A : Option Addr) (n c : Nat) (l : List P2)  (hn : n ≤ 1000) (dd0 : ¬ (OkZ x y l)) (w : World) {lo_L hi_L : Nat} (L : PL w lo_L hi_L A n c l) :
    Calls Try.prog 17 #[.agg #[.int .i64 x, .int .i64 y, .slice A n c]] w fun e w' => e = .returned (.tuple #[.agg #[.int .i64 0, .int .i64 0, .int .i64 0, .int .i64 0], .int .i64 1]) ∧ Below w.heap.size w w' := by
  replace L := Lib.hid L
  obtain ⟨HB, B_z0, B_z1⟩ := box2 w 24 #[.int .i64 x, .int .i64 y, .slice A n c] 31 #[.int .i64 0, .int .i64 0, .int .i64 0, .int .i64 0]
  replace L := Lib.hid (PL.below L.out HB.out)
  go_enter Try.func17, Try.ntmps17
  go_upto_region 1 with (fail)
  generalize (w.alloc (.cells #[.int .i64 x, .int .i64 y, .slice A n c] 24)).alloc (.cells #[.int .i64 0, .int .i64 0, .int .i64 0, .int .i64 0] 31) = W0 at *
  obtain ⟨c0z0, c1z0, c2z0⟩ := cells3 B_z0
  go_wp2_with fail
  refine (Valid_no dd0 (by omega) _ (PL.below L.out (by exact sm))).mono ?_
  clear c0z0 c1z0 c2z0
  rintro e w1 ⟨rfl, bb⟩
  replace bb := nextw (w0 := W0) (by exact sm) bb
  replace B_z0 := mv B_z0 bb
  replace B_z1 := mv B_z1 bb
  replace L := Lib.hid (PL.below L.out bb)
  replace HB := nx HB bb
  clear bb
  obtain ⟨s0, s1, s2, s3⟩ := cells4 (stor4 B_z1 (.int .i64 0) (.int .i64 0) (.int .i64 0) (.int .i64 0))
  have HF := stb4 HB (y := w.heap.size + 1) (by omega) 0 (.int .i64 0) 1 (.int .i64 0) 2 (.int .i64 0) 3 (.int .i64 0)
  obtain ⟨c0z1, c1z1, c2z1, c3z1⟩ := cells4 B_z1
  obtain ⟨f0z1, f1z1, f2z1, f3z1⟩ := froz4 B_z1
  go_wp2_with fail
  exact bodyPost_ret (v := .tuple #[.agg #[.int .i64 0, .int .i64 0, .int .i64 0, .int .i64 0], .int .i64 1]) (by simp [results, Try.results17, go_sem, s0, s1, s2, s3]) rfl ⟨rfl, nextw HF.out (by exact sm)⟩

def BoundsV (x y : Int) (A : Option Addr) (n c : Nat) (l : List P2) : Value := if OkZ x y l then .tuple #[.agg #[.int .i64 (x - (spr l 1 0)), .int .i64 (y - (spr l 0 1)), .int .i64 (x + (spr l 1 0)), .int .i64 (y + (spr l 0 1))], .int .i64 0] else .tuple #[.agg #[.int .i64 0, .int .i64 0, .int .i64 0, .int .i64 0], .int .i64 1]
theorem Bounds_any (x y : Int) (A : Option Addr) (n c : Nat) (l : List P2) (hn : n ≤ 1000) (w : World) {lo_L hi_L : Nat} (L : PL w lo_L hi_L A n c l) :
    Calls Try.prog 17 #[.agg #[.int .i64 x, .int .i64 y, .slice A n c]] w fun e w' => e = .returned (BoundsV x y A n c l) ∧ Below w.heap.size w w' := by
  unfold BoundsV
  by_cases dd0 : OkZ x y l
  · rw [if_pos dd0]
    exact Bounds_w0 x y A n c l   hn dd0 w L
  · rw [if_neg dd0]
    exact Bounds_w1 x y A n c l   hn dd0 w L
end Go.Proofs.Ytpjbkadhmjlpfaa
