/- the laws Points, Directions. -/
import Derived.Test.YtpjbkadhmjlpfaaZ41
set_option linter.unusedVariables false
set_option linter.unusedSimpArgs false
namespace Go.Proofs.Ytpjbkadhmjlpfaa
open Go Go.RowKit Hd

set_option maxRecDepth 100000 in
set_option maxHeartbeats 4000000 in
theorem LPoints_w0 (x y p q : Int) (A : Option Addr) (n c : Nat) (l : List P2)   (dd0 : ((n : Nat) : Int) ≤ 40) (w : World) {lo_L hi_L : Nat} (L : PL w lo_L hi_L A n c l) :
    Calls Try.prog 7 #[.agg #[.int .i64 x, .int .i64 y, .slice A n c], .int .i64 p, .int .i64 q] w fun e w' => e = .returned (.bool true) ∧ Below w.heap.size w w' := by
  replace L := Lib.hid L
  have H0 := Lib.hid (fun w => awake_w0 w)
  obtain ⟨HB, B_z0⟩ := box1 w 24 #[.int .i64 x, .int .i64 y, .slice A n c]
  replace L := Lib.hid (PL.below L.out HB.out)
  go_enter Try.func7, Try.ntmps7
  go_upto_region 1 with (fail)
  generalize w.alloc (.cells #[.int .i64 x, .int .i64 y, .slice A n c] 24) = W0 at *
  go_wp2_with fail
  refine (H0.out _).mono ?_
  rintro e w1 ⟨rfl, bb⟩
  replace bb := nextw (w0 := W0) (by exact sm) bb
  replace B_z0 := mv B_z0 bb
  replace L := Lib.hid (PL.below L.out bb)
  replace HB := nx HB bb
  clear bb
  obtain ⟨c0z0, c1z0, c2z0⟩ := cells3 B_z0
  go_wp2_with fail
  refine (few_w0 x y _ _ _ l _ (PL.below L.out (by exact sm))).mono ?_
  clear c0z0 c1z0 c2z0
  rintro e w2 ⟨rfl, bb⟩
  replace bb := nextw (w0 := w1) (by exact sm) bb
  replace B_z0 := mv B_z0 bb
  replace L := Lib.hid (PL.below L.out bb)
  replace HB := nx HB bb
  clear bb
  go_upto_region 3 with (fail)
  obtain ⟨c0z0, c1z0, c2z0⟩ := cells3 B_z0
  have tk1x0 : True := trivial
  go_region_held3 (fun w' => w'.cell? ⟨w.heap.size, 0, none⟩ = some (.int .i64 x) ∧ w'.cell? ⟨w.heap.size, 1, none⟩ = some (.int .i64 y) ∧ w'.cell? ⟨w.heap.size, 2, none⟩ = some (.slice A n c)) (((try dsimp only); (repeat' apply And.intro) <;> (first | (with_reducible assumption) | ((repeat (first | (with_reducible refine Eq.trans (cell_drew1 _ _) ?_) | (with_reducible refine Eq.trans (cell_far (by omega) _ _ _) ?_) | (with_reducible refine Eq.trans (World.cell?_alloc_lt _ _ _ (by first | (dsimp only; omega) | (simp only [World.size_alloc, World.size_setCell]; omega))) ?_))); with_reducible assumption) | assumption | go_keep)))
    (first
      | (clear tk1x0; go_at_call 33; refine (Has_q x y p q _ _ _ l (by omega) _ (PL.below L.out (by exact sm))).mono ?_; rintro e w3 ⟨rfl, bb⟩; replace bb := nextw (w0 := w2) (by exact sm) bb; replace B_z0 := mv B_z0 bb; replace L := Lib.hid (PL.below L.out bb); replace HB := nx HB bb; clear bb c0z0 c1z0 c2z0; have c0z0 : w3.cell? ⟨w.heap.size, 0, none⟩ = some (.int .i64 x) := B_z0.out.cell 0 rfl; have c1z0 : w3.cell? ⟨w.heap.size, 1, none⟩ = some (.int .i64 y) := B_z0.out.cell 1 rfl; have c2z0 : w3.cell? ⟨w.heap.size, 2, none⟩ = some (.slice A n c) := B_z0.out.cell 2 rfl; have tk1x1 : True := trivial)
      | (clear tk1x1; go_at_call 36; refine (RHas_q x y p q _ _ _ l (by omega) _ (PL.below L.out (by exact sm))).mono ?_; rintro e w4 ⟨rfl, bb⟩; replace bb := nextw (w0 := w3) (by exact sm) bb; replace B_z0 := mv B_z0 bb; replace L := Lib.hid (PL.below L.out bb); replace HB := nx HB bb; clear bb c0z0 c1z0 c2z0; have c0z0 : w4.cell? ⟨w.heap.size, 0, none⟩ = some (.int .i64 x) := B_z0.out.cell 0 rfl; have c1z0 : w4.cell? ⟨w.heap.size, 1, none⟩ = some (.int .i64 y) := B_z0.out.cell 1 rfl; have c2z0 : w4.cell? ⟨w.heap.size, 2, none⟩ = some (.slice A n c) := B_z0.out.cell 2 rfl; have tk1x2 : True := trivial))
  clear c0z0 c1z0 c2z0
  go_wp2
  go_ret
  exact ⟨(by first | rfl | exact rbt (by omega) | exact rbf (by omega)), nextw HB.out (by exact sm)⟩

set_option maxRecDepth 100000 in
set_option maxHeartbeats 4000000 in
theorem LPoints_w1 (x y p q : Int) (A : Option Addr) (n c : Nat) (l : List P2)   (dd0 : 40 < ((n : Nat) : Int)) (w : World) {lo_L hi_L : Nat} (L : PL w lo_L hi_L A n c l) :
    Calls Try.prog 7 #[.agg #[.int .i64 x, .int .i64 y, .slice A n c], .int .i64 p, .int .i64 q] w fun e w' => e = .returned (.bool true) ∧ Below w.heap.size w w' := by
  replace L := Lib.hid L
  have H0 := Lib.hid (fun w => awake_w0 w)
  have H2 := Lib.hid (fun w => awake_w0 w)
  have dd0n : ¬ (((n : Nat) : Int) ≤ 40) := by omega
  have dd0o : decide (((n : Nat) : Int) ≤ 40) = false := decide_eq_false dd0n
  obtain ⟨HB, B_z0⟩ := box1 w 24 #[.int .i64 x, .int .i64 y, .slice A n c]
  replace L := Lib.hid (PL.below L.out HB.out)
  go_enter Try.func7, Try.ntmps7
  go_upto_region 1 with (fail)
  generalize w.alloc (.cells #[.int .i64 x, .int .i64 y, .slice A n c] 24) = W0 at *
  go_wp2_with fail
  refine (H0.out _).mono ?_
  rintro e w1 ⟨rfl, bb⟩
  replace bb := nextw (w0 := W0) (by exact sm) bb
  replace B_z0 := mv B_z0 bb
  replace L := Lib.hid (PL.below L.out bb)
  replace HB := nx HB bb
  clear bb
  obtain ⟨c0z0, c1z0, c2z0⟩ := cells3 B_z0
  go_wp2_with fail
  refine (few_w0 x y _ _ _ l _ (PL.below L.out (by exact sm))).mono ?_
  clear c0z0 c1z0 c2z0
  rintro e w2 ⟨rfl, bb⟩
  replace bb := nextw (w0 := w1) (by exact sm) bb
  replace B_z0 := mv B_z0 bb
  replace L := Lib.hid (PL.below L.out bb)
  replace HB := nx HB bb
  clear bb
  go_wp2_with fail
  refine (H2.out _).mono ?_
  rintro e w3 ⟨rfl, bb⟩
  replace bb := nextw (w0 := w2) (by exact sm) bb
  replace B_z0 := mv B_z0 bb
  replace L := Lib.hid (PL.below L.out bb)
  replace HB := nx HB bb
  clear bb
  go_wp2
  go_ret
  exact ⟨(by first | rfl | exact rbt (by omega) | exact rbf (by omega)), nextw HB.out (by exact sm)⟩

theorem sup_bd (x y : Int) (l : List P2) (a b : Int) : Wi (supX x y l a b) 1125899906842624 := by
  unfold supX
  split
  · rename_i h
    obtain ⟨hz, ha, hb⟩ := h
    have h1 := (dt_bd ha hb hz.1 hz.2.1).2
    have h2 : 0 ≤ spr l a b ∧ spr l a b ≤ 16 * 8589934592 := by
      have hl := hz.2.2.1
      have hv := hz.2.2.2
      have key : ∀ m : List P2, (∀ p ∈ m, Vp p) → 0 ≤ spr m a b ∧ spr m a b ≤ m.length * 8589934592 := by
        intro m hm
        induction m with
        | nil => simp [spr]
        | cons p t ih =>
          obtain ⟨i1, i2⟩ := ih (fun q hq => hm q (List.mem_cons_of_mem _ hq))
          obtain ⟨k1, k2⟩ := wi_mul ha (hm p List.mem_cons_self).1
          obtain ⟨k3, k4⟩ := wi_mul hb (hm p List.mem_cons_self).2
          have e : spr (p :: t) a b = mg (dt a b p.1 p.2) + spr t a b := rfl
          have e2 := mg_nonneg (dt a b p.1 p.2)
          have e3 : mg (dt a b p.1 p.2) ≤ 8589934592 := by unfold mg dt; split <;> omega
          rw [e, List.length_cons]
          exact ⟨by omega, by omega⟩
      obtain ⟨k1, k2⟩ := key l hv
      exact ⟨k1, by omega⟩
    exact ⟨by omega, by omega⟩
  · exact ⟨by omega, by omega⟩
theorem sup_le {x y : Int} {l : List P2} {a b s t : Int} (h : HasP x y l a b) (hz : OkZ x y l) (hs : Wi s 65536) (ht : Wi t 65536) : s * a + t * b ≤ supX x y l s t := by
  have h1 := (Rc_iff l (a - x, b - y)).1 h.2.2.2 (s, t)
  unfold supX
  rw [if_pos ⟨hz, hs, ht⟩]
  unfold nd dt at h1
  unfold dt
  dsimp only at h1
  rw [Int.mul_sub, Int.mul_sub] at h1
  rcases mg_cs (s * a - s * x + (t * b - t * y)) with ⟨e, _⟩ | ⟨e, _⟩ <;> omega

set_option maxRecDepth 100000 in
set_option maxHeartbeats 4000000 in
theorem LDir_w0 (x y a b s t : Int) (A : Option Addr) (n c : Nat) (l : List P2)  (S : Int) (hS : supX x y l s t = S) (hle : HasP x y l a b → OkZ x y l → Wi s 65536 → Wi t 65536 → ((s * a) + (t * b)) ≤ S) (dd0 : ((n : Nat) : Int) ≤ 40) (dd1 : OkZ x y l) (dd2 : Wi s 65536) (dd3 : Wi t 65536) (dd4 : HasP x y l a b) (w : World) {lo_L hi_L : Nat} (L : PL w lo_L hi_L A n c l) :
    Calls Try.prog 8 #[.agg #[.int .i64 x, .int .i64 y, .slice A n c], .agg #[.int .i64 a, .int .i64 b], .agg #[.int .i64 s, .int .i64 t]] w fun e w' => e = .returned (.bool (decide (((s * a) + (t * b)) ≤ S))) ∧ Below w.heap.size w w' := by
  replace L := Lib.hid L
  have H0 := Lib.hid (fun w => awake_w0 w)
  have H3 := Lib.hid (fun w => Size_is s 65536 (by omega) w)
  have H4 := Lib.hid (fun w => Size_is t 65536 (by omega) w)
  have dd1x1 := dd1.1.1
  have dd1x2 := dd1.1.2
  have dd1y1 := dd1.2.1.1
  have dd1y2 := dd1.2.1.2
  have dd2x1 := dd2.1
  have dd2x2 := dd2.2
  have dd3x1 := dd3.1
  have dd3x2 := dd3.2
  have hsp : Wi S 1125899906842624 := by rw [← hS]; exact sup_bd x y l s t
  obtain ⟨hsp1, hsp2⟩ := hsp
  have hpa := dd4.2.1
  have hqa := dd4.2.2.1
  obtain ⟨pa1, pa2⟩ := hpa
  obtain ⟨qa1, qa2⟩ := hqa
  obtain ⟨m1a, m1b⟩ := @wi_mul s a 65536 16777216 ⟨by omega, by omega⟩ ⟨by omega, by omega⟩
  obtain ⟨m2a, m2b⟩ := @wi_mul t b 65536 16777216 ⟨by omega, by omega⟩ ⟨by omega, by omega⟩
  have HSU := Lib.hid (fun (w : World) (lo hi : Nat) (hn : n ≤ 1000) (M : PL w lo hi A n c l) => Sup_q x y s t A n c l hn w M)
  rw [hS] at HSU
  clear hS hle
  obtain ⟨HB, B_z0, B_z1, B_z2⟩ := box3 w 24 #[.int .i64 x, .int .i64 y, .slice A n c] 39 #[.int .i64 a, .int .i64 b] 39 #[.int .i64 s, .int .i64 t]
  replace L := Lib.hid (PL.below L.out HB.out)
  go_enter Try.func8, Try.ntmps8
  go_upto_region 1 with (fail)
  generalize ((w.alloc (.cells #[.int .i64 x, .int .i64 y, .slice A n c] 24)).alloc (.cells #[.int .i64 a, .int .i64 b] 39)).alloc (.cells #[.int .i64 s, .int .i64 t] 39) = W0 at *
  go_wp2_with fail
  refine (H0.out _).mono ?_
  rintro e w1 ⟨rfl, bb⟩
  replace bb := nextw (w0 := W0) (by exact sm) bb
  replace B_z0 := mv B_z0 bb
  replace B_z1 := mv B_z1 bb
  replace B_z2 := mv B_z2 bb
  replace L := Lib.hid (PL.below L.out bb)
  replace HB := nx HB bb
  clear bb
  obtain ⟨c0z0, c1z0, c2z0⟩ := cells3 B_z0
  go_wp2_with fail
  refine (few_w0 x y _ _ _ l _ (PL.below L.out (by exact sm))).mono ?_
  clear c0z0 c1z0 c2z0
  rintro e w2 ⟨rfl, bb⟩
  replace bb := nextw (w0 := w1) (by exact sm) bb
  replace B_z0 := mv B_z0 bb
  replace B_z1 := mv B_z1 bb
  replace B_z2 := mv B_z2 bb
  replace L := Lib.hid (PL.below L.out bb)
  replace HB := nx HB bb
  clear bb
  obtain ⟨c0z0, c1z0, c2z0⟩ := cells3 B_z0
  go_wp2_with fail
  refine (RValid_is x y _ _ _ l (by omega) _ (PL.below L.out (by exact sm))).mono ?_
  clear c0z0 c1z0 c2z0
  rintro e w3 ⟨rfl, bb⟩
  replace bb := nextw (w0 := w2) (by exact sm) bb
  replace B_z0 := mv B_z0 bb
  replace B_z1 := mv B_z1 bb
  replace B_z2 := mv B_z2 bb
  replace L := Lib.hid (PL.below L.out bb)
  replace HB := nx HB bb
  clear bb
  obtain ⟨c0z2, c1z2⟩ := cells2 B_z2
  go_wp2_with fail
  refine (H3.out _).mono ?_
  clear c0z2 c1z2
  rintro e w4 ⟨rfl, bb⟩
  replace bb := nextw (w0 := w3) (by exact sm) bb
  replace B_z0 := mv B_z0 bb
  replace B_z1 := mv B_z1 bb
  replace B_z2 := mv B_z2 bb
  replace L := Lib.hid (PL.below L.out bb)
  replace HB := nx HB bb
  clear bb
  obtain ⟨c0z2, c1z2⟩ := cells2 B_z2
  go_wp2_with fail
  refine (H4.out _).mono ?_
  clear c0z2 c1z2
  rintro e w5 ⟨rfl, bb⟩
  replace bb := nextw (w0 := w4) (by exact sm) bb
  replace B_z0 := mv B_z0 bb
  replace B_z1 := mv B_z1 bb
  replace B_z2 := mv B_z2 bb
  replace L := Lib.hid (PL.below L.out bb)
  replace HB := nx HB bb
  clear bb
  obtain ⟨c0z0, c1z0, c2z0⟩ := cells3 B_z0
  obtain ⟨c0z1, c1z1⟩ := cells2 B_z1
  go_wp2_with fail
  refine (Has_q x y a b _ _ _ l (by omega) _ (PL.below L.out (by exact sm))).mono ?_
  clear c0z0 c1z0 c2z0 c0z1 c1z1
  rintro e w6 ⟨rfl, bb⟩
  replace bb := nextw (w0 := w5) (by exact sm) bb
  replace B_z0 := mv B_z0 bb
  replace B_z1 := mv B_z1 bb
  replace B_z2 := mv B_z2 bb
  replace L := Lib.hid (PL.below L.out bb)
  replace HB := nx HB bb
  clear bb
  go_upto_region 3 with (fail)
  have wq3x0 : IntKind.i64.wrap (s * a) = s * a := by rw [IntKind.wrap_i64]; omega
  have wq3x1 : IntKind.i64.wrap (t * b) = t * b := by rw [IntKind.wrap_i64]; omega
  have wq3x2 : IntKind.i64.wrap ((s * a) + (t * b)) = (s * a) + (t * b) := by rw [IntKind.wrap_i64]; omega
  obtain ⟨c0z0, c1z0, c2z0⟩ := cells3 B_z0
  obtain ⟨c0z1, c1z1⟩ := cells2 B_z1
  obtain ⟨c0z2, c1z2⟩ := cells2 B_z2
  have tk1x0 : True := trivial
  go_region_held3 (fun w' => w'.cell? ⟨w.heap.size, 0, none⟩ = some (.int .i64 x) ∧ w'.cell? ⟨w.heap.size, 1, none⟩ = some (.int .i64 y) ∧ w'.cell? ⟨w.heap.size, 2, none⟩ = some (.slice A n c) ∧ w'.cell? ⟨w.heap.size + 1, 0, none⟩ = some (.int .i64 a) ∧ w'.cell? ⟨w.heap.size + 1, 1, none⟩ = some (.int .i64 b) ∧ w'.cell? ⟨w.heap.size + 1 + 1, 0, none⟩ = some (.int .i64 s) ∧ w'.cell? ⟨w.heap.size + 1 + 1, 1, none⟩ = some (.int .i64 t)) (((try dsimp only); (repeat' apply And.intro) <;> (first | (with_reducible assumption) | ((repeat (first | (with_reducible refine Eq.trans (cell_drew1 _ _) ?_) | (with_reducible refine Eq.trans (cell_far (by omega) _ _ _) ?_) | (with_reducible refine Eq.trans (World.cell?_alloc_lt _ _ _ (by first | (dsimp only; omega) | (simp only [World.size_alloc, World.size_setCell]; omega))) ?_))); with_reducible assumption) | assumption | go_keep)))
    (first
      | (clear tk1x0; go_at_call 36; refine (RHas_q x y a b _ _ _ l (by omega) _ (PL.below L.out (by exact sm))).mono ?_; rintro e w7 ⟨rfl, bb⟩; replace bb := nextw (w0 := w6) (by exact sm) bb; replace B_z0 := mv B_z0 bb; replace B_z1 := mv B_z1 bb; replace B_z2 := mv B_z2 bb; replace L := Lib.hid (PL.below L.out bb); replace HB := nx HB bb; clear bb c0z0 c1z0 c2z0 c0z1 c1z1 c0z2 c1z2; have c0z0 : w7.cell? ⟨w.heap.size, 0, none⟩ = some (.int .i64 x) := B_z0.out.cell 0 rfl; have c1z0 : w7.cell? ⟨w.heap.size, 1, none⟩ = some (.int .i64 y) := B_z0.out.cell 1 rfl; have c2z0 : w7.cell? ⟨w.heap.size, 2, none⟩ = some (.slice A n c) := B_z0.out.cell 2 rfl; have c0z1 : w7.cell? ⟨w.heap.size + 1, 0, none⟩ = some (.int .i64 a) := B_z1.out.cell 0 rfl; have c1z1 : w7.cell? ⟨w.heap.size + 1, 1, none⟩ = some (.int .i64 b) := B_z1.out.cell 1 rfl; have c0z2 : w7.cell? ⟨w.heap.size + 1 + 1, 0, none⟩ = some (.int .i64 s) := B_z2.out.cell 0 rfl; have c1z2 : w7.cell? ⟨w.heap.size + 1 + 1, 1, none⟩ = some (.int .i64 t) := B_z2.out.cell 1 rfl; have tk1x1 : True := trivial)
      | (clear tk1x1; go_at_call 34; refine (HSU.out _ _ _ (by omega) (PL.below L.out (by exact sm))).mono ?_; rintro e w8 ⟨rfl, bb⟩; replace bb := nextw (w0 := w7) (by exact sm) bb; replace B_z0 := mv B_z0 bb; replace B_z1 := mv B_z1 bb; replace B_z2 := mv B_z2 bb; replace L := Lib.hid (PL.below L.out bb); replace HB := nx HB bb; clear bb c0z0 c1z0 c2z0 c0z1 c1z1 c0z2 c1z2; have c0z0 : w8.cell? ⟨w.heap.size, 0, none⟩ = some (.int .i64 x) := B_z0.out.cell 0 rfl; have c1z0 : w8.cell? ⟨w.heap.size, 1, none⟩ = some (.int .i64 y) := B_z0.out.cell 1 rfl; have c2z0 : w8.cell? ⟨w.heap.size, 2, none⟩ = some (.slice A n c) := B_z0.out.cell 2 rfl; have c0z1 : w8.cell? ⟨w.heap.size + 1, 0, none⟩ = some (.int .i64 a) := B_z1.out.cell 0 rfl; have c1z1 : w8.cell? ⟨w.heap.size + 1, 1, none⟩ = some (.int .i64 b) := B_z1.out.cell 1 rfl; have c0z2 : w8.cell? ⟨w.heap.size + 1 + 1, 0, none⟩ = some (.int .i64 s) := B_z2.out.cell 0 rfl; have c1z2 : w8.cell? ⟨w.heap.size + 1 + 1, 1, none⟩ = some (.int .i64 t) := B_z2.out.cell 1 rfl; have tk1x2 : True := trivial))
  clear c0z0 c1z0 c2z0 c0z1 c1z1 c0z2 c1z2
  go_wp2
  go_ret
  exact ⟨(by first | rfl | exact rbt (by omega) | exact rbf (by omega)), nextw HB.out (by exact sm)⟩

set_option maxRecDepth 100000 in
set_option maxHeartbeats 4000000 in
theorem LDir_w1 (x y a b s t : Int) (A : Option Addr) (n c : Nat) (l : List P2)  (S : Int) (hS : supX x y l s t = S) (hle : HasP x y l a b → OkZ x y l → Wi s 65536 → Wi t 65536 → ((s * a) + (t * b)) ≤ S) (dd0 : 40 < ((n : Nat) : Int)) (w : World) {lo_L hi_L : Nat} (L : PL w lo_L hi_L A n c l) :
    Calls Try.prog 8 #[.agg #[.int .i64 x, .int .i64 y, .slice A n c], .agg #[.int .i64 a, .int .i64 b], .agg #[.int .i64 s, .int .i64 t]] w fun e w' => e = .returned (.bool true) ∧ Below w.heap.size w w' := by
  replace L := Lib.hid L
  have H0 := Lib.hid (fun w => awake_w0 w)
  have H2 := Lib.hid (fun w => awake_w0 w)
  have dd0n : ¬ (((n : Nat) : Int) ≤ 40) := by omega
  have dd0o : decide (((n : Nat) : Int) ≤ 40) = false := decide_eq_false dd0n
  have hsp : Wi S 1125899906842624 := by rw [← hS]; exact sup_bd x y l s t
  obtain ⟨hsp1, hsp2⟩ := hsp
  have HSU := Lib.hid (fun (w : World) (lo hi : Nat) (hn : n ≤ 1000) (M : PL w lo hi A n c l) => Sup_q x y s t A n c l hn w M)
  rw [hS] at HSU
  clear hS hle
  obtain ⟨HB, B_z0, B_z1, B_z2⟩ := box3 w 24 #[.int .i64 x, .int .i64 y, .slice A n c] 39 #[.int .i64 a, .int .i64 b] 39 #[.int .i64 s, .int .i64 t]
  replace L := Lib.hid (PL.below L.out HB.out)
  go_enter Try.func8, Try.ntmps8
  go_upto_region 1 with (fail)
  generalize ((w.alloc (.cells #[.int .i64 x, .int .i64 y, .slice A n c] 24)).alloc (.cells #[.int .i64 a, .int .i64 b] 39)).alloc (.cells #[.int .i64 s, .int .i64 t] 39) = W0 at *
  go_wp2_with fail
  refine (H0.out _).mono ?_
  rintro e w1 ⟨rfl, bb⟩
  replace bb := nextw (w0 := W0) (by exact sm) bb
  replace B_z0 := mv B_z0 bb
  replace B_z1 := mv B_z1 bb
  replace B_z2 := mv B_z2 bb
  replace L := Lib.hid (PL.below L.out bb)
  replace HB := nx HB bb
  clear bb
  obtain ⟨c0z0, c1z0, c2z0⟩ := cells3 B_z0
  go_wp2_with fail
  refine (few_w0 x y _ _ _ l _ (PL.below L.out (by exact sm))).mono ?_
  clear c0z0 c1z0 c2z0
  rintro e w2 ⟨rfl, bb⟩
  replace bb := nextw (w0 := w1) (by exact sm) bb
  replace B_z0 := mv B_z0 bb
  replace B_z1 := mv B_z1 bb
  replace B_z2 := mv B_z2 bb
  replace L := Lib.hid (PL.below L.out bb)
  replace HB := nx HB bb
  clear bb
  go_wp2_with fail
  refine (H2.out _).mono ?_
  rintro e w3 ⟨rfl, bb⟩
  replace bb := nextw (w0 := w2) (by exact sm) bb
  replace B_z0 := mv B_z0 bb
  replace B_z1 := mv B_z1 bb
  replace B_z2 := mv B_z2 bb
  replace L := Lib.hid (PL.below L.out bb)
  replace HB := nx HB bb
  clear bb
  go_wp2
  go_ret
  exact ⟨(by first | rfl | exact rbt (by omega) | exact rbf (by omega)), nextw HB.out (by exact sm)⟩

set_option maxRecDepth 100000 in
set_option maxHeartbeats 4000000 in
theorem LDir_w2 (x y a b s t : Int) (A : Option Addr) (n c : Nat) (l : List P2)  (S : Int) (hS : supX x y l s t = S) (hle : HasP x y l a b → OkZ x y l → Wi s 65536 → Wi t 65536 → ((s * a) + (t * b)) ≤ S) (dd0 : ((n : Nat) : Int) ≤ 40) (dd1 : ¬ (OkZ x y l)) (w : World) {lo_L hi_L : Nat} (L : PL w lo_L hi_L A n c l) :
    Calls Try.prog 8 #[.agg #[.int .i64 x, .int .i64 y, .slice A n c], .agg #[.int .i64 a, .int .i64 b], .agg #[.int .i64 s, .int .i64 t]] w fun e w' => e = .returned (.bool true) ∧ Below w.heap.size w w' := by
  replace L := Lib.hid L
  have H0 := Lib.hid (fun w => awake_w0 w)
  have H3 := Lib.hid (fun w => awake_w0 w)
  have hsp : Wi S 1125899906842624 := by rw [← hS]; exact sup_bd x y l s t
  obtain ⟨hsp1, hsp2⟩ := hsp
  have HSU := Lib.hid (fun (w : World) (lo hi : Nat) (hn : n ≤ 1000) (M : PL w lo hi A n c l) => Sup_q x y s t A n c l hn w M)
  rw [hS] at HSU
  clear hS hle
  obtain ⟨HB, B_z0, B_z1, B_z2⟩ := box3 w 24 #[.int .i64 x, .int .i64 y, .slice A n c] 39 #[.int .i64 a, .int .i64 b] 39 #[.int .i64 s, .int .i64 t]
  replace L := Lib.hid (PL.below L.out HB.out)
  go_enter Try.func8, Try.ntmps8
  go_upto_region 1 with (fail)
  generalize ((w.alloc (.cells #[.int .i64 x, .int .i64 y, .slice A n c] 24)).alloc (.cells #[.int .i64 a, .int .i64 b] 39)).alloc (.cells #[.int .i64 s, .int .i64 t] 39) = W0 at *
  go_wp2_with fail
  refine (H0.out _).mono ?_
  rintro e w1 ⟨rfl, bb⟩
  replace bb := nextw (w0 := W0) (by exact sm) bb
  replace B_z0 := mv B_z0 bb
  replace B_z1 := mv B_z1 bb
  replace B_z2 := mv B_z2 bb
  replace L := Lib.hid (PL.below L.out bb)
  replace HB := nx HB bb
  clear bb
  obtain ⟨c0z0, c1z0, c2z0⟩ := cells3 B_z0
  go_wp2_with fail
  refine (few_w0 x y _ _ _ l _ (PL.below L.out (by exact sm))).mono ?_
  clear c0z0 c1z0 c2z0
  rintro e w2 ⟨rfl, bb⟩
  replace bb := nextw (w0 := w1) (by exact sm) bb
  replace B_z0 := mv B_z0 bb
  replace B_z1 := mv B_z1 bb
  replace B_z2 := mv B_z2 bb
  replace L := Lib.hid (PL.below L.out bb)
  replace HB := nx HB bb
  clear bb
  obtain ⟨c0z0, c1z0, c2z0⟩ := cells3 B_z0
  go_wp2_with fail
  refine (RValid_is x y _ _ _ l (by omega) _ (PL.below L.out (by exact sm))).mono ?_
  clear c0z0 c1z0 c2z0
  rintro e w3 ⟨rfl, bb⟩
  replace bb := nextw (w0 := w2) (by exact sm) bb
  replace B_z0 := mv B_z0 bb
  replace B_z1 := mv B_z1 bb
  replace B_z2 := mv B_z2 bb
  replace L := Lib.hid (PL.below L.out bb)
  replace HB := nx HB bb
  clear bb
  go_wp2_with fail
  refine (H3.out _).mono ?_
  rintro e w4 ⟨rfl, bb⟩
  replace bb := nextw (w0 := w3) (by exact sm) bb
  replace B_z0 := mv B_z0 bb
  replace B_z1 := mv B_z1 bb
  replace B_z2 := mv B_z2 bb
  replace L := Lib.hid (PL.below L.out bb)
  replace HB := nx HB bb
  clear bb
  go_wp2
  go_ret
  exact ⟨(by first | rfl | exact rbt (by omega) | exact rbf (by omega)), nextw HB.out (by exact sm)⟩

set_option maxRecDepth 100000 in
set_option maxHeartbeats 4000000 in
theorem LDir_w3 (x y a b s t : Int) (A : Option Addr) (n c : Nat) (l : List P2)  (S : Int) (hS : supX x y l s t = S) (hle : HasP x y l a b → OkZ x y l → Wi s 65536 → Wi t 65536 → ((s * a) + (t * b)) ≤ S) (dd0 : ((n : Nat) : Int) ≤ 40) (dd1 : OkZ x y l) (dd2 : ¬ (Wi s 65536)) (w : World) {lo_L hi_L : Nat} (L : PL w lo_L hi_L A n c l) :
    Calls Try.prog 8 #[.agg #[.int .i64 x, .int .i64 y, .slice A n c], .agg #[.int .i64 a, .int .i64 b], .agg #[.int .i64 s, .int .i64 t]] w fun e w' => e = .returned (.bool true) ∧ Below w.heap.size w w' := by
  replace L := Lib.hid L
  have H0 := Lib.hid (fun w => awake_w0 w)
  have H3 := Lib.hid (fun w => Size_is s 65536 (by omega) w)
  have H4 := Lib.hid (fun w => awake_w0 w)
  have dd1x1 := dd1.1.1
  have dd1x2 := dd1.1.2
  have dd1y1 := dd1.2.1.1
  have dd1y2 := dd1.2.1.2
  have hsp : Wi S 1125899906842624 := by rw [← hS]; exact sup_bd x y l s t
  obtain ⟨hsp1, hsp2⟩ := hsp
  have HSU := Lib.hid (fun (w : World) (lo hi : Nat) (hn : n ≤ 1000) (M : PL w lo hi A n c l) => Sup_q x y s t A n c l hn w M)
  rw [hS] at HSU
  clear hS hle
  obtain ⟨HB, B_z0, B_z1, B_z2⟩ := box3 w 24 #[.int .i64 x, .int .i64 y, .slice A n c] 39 #[.int .i64 a, .int .i64 b] 39 #[.int .i64 s, .int .i64 t]
  replace L := Lib.hid (PL.below L.out HB.out)
  go_enter Try.func8, Try.ntmps8
  go_upto_region 1 with (fail)
  generalize ((w.alloc (.cells #[.int .i64 x, .int .i64 y, .slice A n c] 24)).alloc (.cells #[.int .i64 a, .int .i64 b] 39)).alloc (.cells #[.int .i64 s, .int .i64 t] 39) = W0 at *
  go_wp2_with fail
  refine (H0.out _).mono ?_
  rintro e w1 ⟨rfl, bb⟩
  replace bb := nextw (w0 := W0) (by exact sm) bb
  replace B_z0 := mv B_z0 bb
  replace B_z1 := mv B_z1 bb
  replace B_z2 := mv B_z2 bb
  replace L := Lib.hid (PL.below L.out bb)
  replace HB := nx HB bb
  clear bb
  obtain ⟨c0z0, c1z0, c2z0⟩ := cells3 B_z0
  go_wp2_with fail
  refine (few_w0 x y _ _ _ l _ (PL.below L.out (by exact sm))).mono ?_
  clear c0z0 c1z0 c2z0
  rintro e w2 ⟨rfl, bb⟩
  replace bb := nextw (w0 := w1) (by exact sm) bb
  replace B_z0 := mv B_z0 bb
  replace B_z1 := mv B_z1 bb
  replace B_z2 := mv B_z2 bb
  replace L := Lib.hid (PL.below L.out bb)
  replace HB := nx HB bb
  clear bb
  obtain ⟨c0z0, c1z0, c2z0⟩ := cells3 B_z0
  go_wp2_with fail
  refine (RValid_is x y _ _ _ l (by omega) _ (PL.below L.out (by exact sm))).mono ?_
  clear c0z0 c1z0 c2z0
  rintro e w3 ⟨rfl, bb⟩
  replace bb := nextw (w0 := w2) (by exact sm) bb
  replace B_z0 := mv B_z0 bb
  replace B_z1 := mv B_z1 bb
  replace B_z2 := mv B_z2 bb
  replace L := Lib.hid (PL.below L.out bb)
  replace HB := nx HB bb
  clear bb
  obtain ⟨c0z2, c1z2⟩ := cells2 B_z2
  go_wp2_with fail
  refine (H3.out _).mono ?_
  clear c0z2 c1z2
  rintro e w4 ⟨rfl, bb⟩
  replace bb := nextw (w0 := w3) (by exact sm) bb
  replace B_z0 := mv B_z0 bb
  replace B_z1 := mv B_z1 bb
  replace B_z2 := mv B_z2 bb
  replace L := Lib.hid (PL.below L.out bb)
  replace HB := nx HB bb
  clear bb
  go_wp2_with fail
  refine (H4.out _).mono ?_
  rintro e w5 ⟨rfl, bb⟩
  replace bb := nextw (w0 := w4) (by exact sm) bb
  replace B_z0 := mv B_z0 bb
  replace B_z1 := mv B_z1 bb
  replace B_z2 := mv B_z2 bb
  replace L := Lib.hid (PL.below L.out bb)
  replace HB := nx HB bb
  clear bb
  go_wp2
  go_ret
  exact ⟨(by first | rfl | exact rbt (by omega) | exact rbf (by omega)), nextw HB.out (by exact sm)⟩

set_option maxRecDepth 100000 in
set_option maxHeartbeats 4000000 in
theorem LDir_w4 (x y a b s t : Int) (A : Option Addr) (n c : Nat) (l : List P2)  (S : Int) (hS : supX x y l s t = S) (hle : HasP x y l a b → OkZ x y l → Wi s 65536 → Wi t 65536 → ((s * a) + (t * b)) ≤ S) (dd0 : ((n : Nat) : Int) ≤ 40) (dd1 : OkZ x y l) (dd2 : Wi s 65536) (dd3 : ¬ (Wi t 65536)) (w : World) {lo_L hi_L : Nat} (L : PL w lo_L hi_L A n c l) :
    Calls Try.prog 8 #[.agg #[.int .i64 x, .int .i64 y, .slice A n c], .agg #[.int .i64 a, .int .i64 b], .agg #[.int .i64 s, .int .i64 t]] w fun e w' => e = .returned (.bool true) ∧ Below w.heap.size w w' := by
  replace L := Lib.hid L
  have H0 := Lib.hid (fun w => awake_w0 w)
  have H3 := Lib.hid (fun w => Size_is s 65536 (by omega) w)
  have H4 := Lib.hid (fun w => Size_is t 65536 (by omega) w)
  have H5 := Lib.hid (fun w => awake_w0 w)
  have dd1x1 := dd1.1.1
  have dd1x2 := dd1.1.2
  have dd1y1 := dd1.2.1.1
  have dd1y2 := dd1.2.1.2
  have dd2x1 := dd2.1
  have dd2x2 := dd2.2
  have hsp : Wi S 1125899906842624 := by rw [← hS]; exact sup_bd x y l s t
  obtain ⟨hsp1, hsp2⟩ := hsp
  have HSU := Lib.hid (fun (w : World) (lo hi : Nat) (hn : n ≤ 1000) (M : PL w lo hi A n c l) => Sup_q x y s t A n c l hn w M)
  rw [hS] at HSU
  clear hS hle
  obtain ⟨HB, B_z0, B_z1, B_z2⟩ := box3 w 24 #[.int .i64 x, .int .i64 y, .slice A n c] 39 #[.int .i64 a, .int .i64 b] 39 #[.int .i64 s, .int .i64 t]
  replace L := Lib.hid (PL.below L.out HB.out)
  go_enter Try.func8, Try.ntmps8
  go_upto_region 1 with (fail)
  generalize ((w.alloc (.cells #[.int .i64 x, .int .i64 y, .slice A n c] 24)).alloc (.cells #[.int .i64 a, .int .i64 b] 39)).alloc (.cells #[.int .i64 s, .int .i64 t] 39) = W0 at *
  go_wp2_with fail
  refine (H0.out _).mono ?_
  rintro e w1 ⟨rfl, bb⟩
  replace bb := nextw (w0 := W0) (by exact sm) bb
  replace B_z0 := mv B_z0 bb
  replace B_z1 := mv B_z1 bb
  replace B_z2 := mv B_z2 bb
  replace L := Lib.hid (PL.below L.out bb)
  replace HB := nx HB bb
  clear bb
  obtain ⟨c0z0, c1z0, c2z0⟩ := cells3 B_z0
  go_wp2_with fail
  refine (few_w0 x y _ _ _ l _ (PL.below L.out (by exact sm))).mono ?_
  clear c0z0 c1z0 c2z0
  rintro e w2 ⟨rfl, bb⟩
  replace bb := nextw (w0 := w1) (by exact sm) bb
  replace B_z0 := mv B_z0 bb
  replace B_z1 := mv B_z1 bb
  replace B_z2 := mv B_z2 bb
  replace L := Lib.hid (PL.below L.out bb)
  replace HB := nx HB bb
  clear bb
  obtain ⟨c0z0, c1z0, c2z0⟩ := cells3 B_z0
  go_wp2_with fail
  refine (RValid_is x y _ _ _ l (by omega) _ (PL.below L.out (by exact sm))).mono ?_
  clear c0z0 c1z0 c2z0
  rintro e w3 ⟨rfl, bb⟩
  replace bb := nextw (w0 := w2) (by exact sm) bb
  replace B_z0 := mv B_z0 bb
  replace B_z1 := mv B_z1 bb
  replace B_z2 := mv B_z2 bb
  replace L := Lib.hid (PL.below L.out bb)
  replace HB := nx HB bb
  clear bb
  obtain ⟨c0z2, c1z2⟩ := cells2 B_z2
  go_wp2_with fail
  refine (H3.out _).mono ?_
  clear c0z2 c1z2
  rintro e w4 ⟨rfl, bb⟩
  replace bb := nextw (w0 := w3) (by exact sm) bb
  replace B_z0 := mv B_z0 bb
  replace B_z1 := mv B_z1 bb
  replace B_z2 := mv B_z2 bb
  replace L := Lib.hid (PL.below L.out bb)
  replace HB := nx HB bb
  clear bb
  obtain ⟨c0z2, c1z2⟩ := cells2 B_z2
  go_wp2_with fail
  refine (H4.out _).mono ?_
  clear c0z2 c1z2
  rintro e w5 ⟨rfl, bb⟩
  replace bb := nextw (w0 := w4) (by exact sm) bb
  replace B_z0 := mv B_z0 bb
  replace B_z1 := mv B_z1 bb
  replace B_z2 := mv B_z2 bb
  replace L := Lib.hid (PL.below L.out bb)
  replace HB := nx HB bb
  clear bb
  go_wp2_with fail
  refine (H5.out _).mono ?_
  rintro e w6 ⟨rfl, bb⟩
  replace bb := nextw (w0 := w5) (by exact sm) bb
  replace B_z0 := mv B_z0 bb
  replace B_z1 := mv B_z1 bb
  replace B_z2 := mv B_z2 bb
  replace L := Lib.hid (PL.below L.out bb)
  replace HB := nx HB bb
  clear bb
  go_wp2
  go_ret
  exact ⟨(by first | rfl | exact rbt (by omega) | exact rbf (by omega)), nextw HB.out (by exact sm)⟩

set_option maxRecDepth 100000 in
set_option maxHeartbeats 4000000 in
theorem LDir_w5 (x y a b s t : Int) (A : Option Addr) (n c : Nat) (l : List P2)  (S : Int) (hS : supX x y l s t = S) (hle : HasP x y l a b → OkZ x y l → Wi s 65536 → Wi t 65536 → ((s * a) + (t * b)) ≤ S) (dd0 : ((n : Nat) : Int) ≤ 40) (dd1 : OkZ x y l) (dd2 : Wi s 65536) (dd3 : Wi t 65536) (dd4 : ¬ (HasP x y l a b)) (w : World) {lo_L hi_L : Nat} (L : PL w lo_L hi_L A n c l) :
    Calls Try.prog 8 #[.agg #[.int .i64 x, .int .i64 y, .slice A n c], .agg #[.int .i64 a, .int .i64 b], .agg #[.int .i64 s, .int .i64 t]] w fun e w' => e = .returned (.bool true) ∧ Below w.heap.size w w' := by
  replace L := Lib.hid L
  have H0 := Lib.hid (fun w => awake_w0 w)
  have H3 := Lib.hid (fun w => Size_is s 65536 (by omega) w)
  have H4 := Lib.hid (fun w => Size_is t 65536 (by omega) w)
  have H6 := Lib.hid (fun w => awake_w0 w)
  have dd1x1 := dd1.1.1
  have dd1x2 := dd1.1.2
  have dd1y1 := dd1.2.1.1
  have dd1y2 := dd1.2.1.2
  have dd2x1 := dd2.1
  have dd2x2 := dd2.2
  have dd3x1 := dd3.1
  have dd3x2 := dd3.2
  have hsp : Wi S 1125899906842624 := by rw [← hS]; exact sup_bd x y l s t
  obtain ⟨hsp1, hsp2⟩ := hsp
  have HSU := Lib.hid (fun (w : World) (lo hi : Nat) (hn : n ≤ 1000) (M : PL w lo hi A n c l) => Sup_q x y s t A n c l hn w M)
  rw [hS] at HSU
  clear hS hle
  obtain ⟨HB, B_z0, B_z1, B_z2⟩ := box3 w 24 #[.int .i64 x, .int .i64 y, .slice A n c] 39 #[.int .i64 a, .int .i64 b] 39 #[.int .i64 s, .int .i64 t]
  replace L := Lib.hid (PL.below L.out HB.out)
  go_enter Try.func8, Try.ntmps8
  go_upto_region 1 with (fail)
  generalize ((w.alloc (.cells #[.int .i64 x, .int .i64 y, .slice A n c] 24)).alloc (.cells #[.int .i64 a, .int .i64 b] 39)).alloc (.cells #[.int .i64 s, .int .i64 t] 39) = W0 at *
  go_wp2_with fail
  refine (H0.out _).mono ?_
  rintro e w1 ⟨rfl, bb⟩
  replace bb := nextw (w0 := W0) (by exact sm) bb
  replace B_z0 := mv B_z0 bb
  replace B_z1 := mv B_z1 bb
  replace B_z2 := mv B_z2 bb
  replace L := Lib.hid (PL.below L.out bb)
  replace HB := nx HB bb
  clear bb
  obtain ⟨c0z0, c1z0, c2z0⟩ := cells3 B_z0
  go_wp2_with fail
  refine (few_w0 x y _ _ _ l _ (PL.below L.out (by exact sm))).mono ?_
  clear c0z0 c1z0 c2z0
  rintro e w2 ⟨rfl, bb⟩
  replace bb := nextw (w0 := w1) (by exact sm) bb
  replace B_z0 := mv B_z0 bb
  replace B_z1 := mv B_z1 bb
  replace B_z2 := mv B_z2 bb
  replace L := Lib.hid (PL.below L.out bb)
  replace HB := nx HB bb
  clear bb
  obtain ⟨c0z0, c1z0, c2z0⟩ := cells3 B_z0
  go_wp2_with fail
  refine (RValid_is x y _ _ _ l (by omega) _ (PL.below L.out (by exact sm))).mono ?_
  clear c0z0 c1z0 c2z0
  rintro e w3 ⟨rfl, bb⟩
  replace bb := nextw (w0 := w2) (by exact sm) bb
  replace B_z0 := mv B_z0 bb
  replace B_z1 := mv B_z1 bb
  replace B_z2 := mv B_z2 bb
  replace L := Lib.hid (PL.below L.out bb)
  replace HB := nx HB bb
  clear bb
  obtain ⟨c0z2, c1z2⟩ := cells2 B_z2
  go_wp2_with fail
  refine (H3.out _).mono ?_
  clear c0z2 c1z2
  rintro e w4 ⟨rfl, bb⟩
  replace bb := nextw (w0 := w3) (by exact sm) bb
  replace B_z0 := mv B_z0 bb
  replace B_z1 := mv B_z1 bb
  replace B_z2 := mv B_z2 bb
  replace L := Lib.hid (PL.below L.out bb)
  replace HB := nx HB bb
  clear bb
  obtain ⟨c0z2, c1z2⟩ := cells2 B_z2
  go_wp2_with fail
  refine (H4.out _).mono ?_
  clear c0z2 c1z2
  rintro e w5 ⟨rfl, bb⟩
  replace bb := nextw (w0 := w4) (by exact sm) bb
  replace B_z0 := mv B_z0 bb
  replace B_z1 := mv B_z1 bb
  replace B_z2 := mv B_z2 bb
  replace L := Lib.hid (PL.below L.out bb)
  replace HB := nx HB bb
  clear bb
  obtain ⟨c0z0, c1z0, c2z0⟩ := cells3 B_z0
  obtain ⟨c0z1, c1z1⟩ := cells2 B_z1
  go_wp2_with fail
  refine (Has_q x y a b _ _ _ l (by omega) _ (PL.below L.out (by exact sm))).mono ?_
  clear c0z0 c1z0 c2z0 c0z1 c1z1
  rintro e w6 ⟨rfl, bb⟩
  replace bb := nextw (w0 := w5) (by exact sm) bb
  replace B_z0 := mv B_z0 bb
  replace B_z1 := mv B_z1 bb
  replace B_z2 := mv B_z2 bb
  replace L := Lib.hid (PL.below L.out bb)
  replace HB := nx HB bb
  clear bb
  go_wp2_with fail
  refine (H6.out _).mono ?_
  rintro e w7 ⟨rfl, bb⟩
  replace bb := nextw (w0 := w6) (by exact sm) bb
  replace B_z0 := mv B_z0 bb
  replace B_z1 := mv B_z1 bb
  replace B_z2 := mv B_z2 bb
  replace L := Lib.hid (PL.below L.out bb)
  replace HB := nx HB bb
  clear bb
  go_wp2
  go_ret
  exact ⟨(by first | rfl | exact rbt (by omega) | exact rbf (by omega)), nextw HB.out (by exact sm)⟩

theorem Points_any (x y p q : Int) (A : Option Addr) (n c : Nat) (l : List P2) (w : World) {lo hi : Nat} (L : PL w lo hi A n c l) :
    Calls Try.prog 7 #[.agg #[.int .i64 x, .int .i64 y, .slice A n c], .int .i64 p, .int .i64 q] w fun e w' => e = .returned (.bool true) ∧ Below w.heap.size w w' := by
  by_cases h : ((n : Nat) : Int) ≤ 40
  · exact LPoints_w0 x y p q A n c l h w L
  · exact LPoints_w1 x y p q A n c l (by omega) w L
theorem Dir_any (x y a b s t : Int) (A : Option Addr) (n c : Nat) (l : List P2) (w : World) {lo hi : Nat} (L : PL w lo hi A n c l) :
    Calls Try.prog 8 #[.agg #[.int .i64 x, .int .i64 y, .slice A n c], .agg #[.int .i64 a, .int .i64 b], .agg #[.int .i64 s, .int .i64 t]] w fun e w' => e = .returned (.bool true) ∧ Below w.heap.size w w' := by
  have hle : HasP x y l a b → OkZ x y l → Wi s 65536 → Wi t 65536 → ((s * a) + (t * b)) ≤ supX x y l s t := fun h1 h2 h3 h4 => sup_le h1 h2 h3 h4
  by_cases h : ((n : Nat) : Int) ≤ 40
  · by_cases h1 : OkZ x y l
    · by_cases h2 : Wi s 65536
      · by_cases h3 : Wi t 65536
        · by_cases h4 : HasP x y l a b
          · have r := LDir_w0 x y a b s t A n c l _ rfl hle h h1 h2 h3 h4 w L
            rw [decide_eq_true (hle h4 h1 h2 h3)] at r
            exact r
          · exact LDir_w5 x y a b s t A n c l _ rfl hle h h1 h2 h3 h4 w L
        · exact LDir_w4 x y a b s t A n c l _ rfl hle h h1 h2 h3 w L
      · exact LDir_w3 x y a b s t A n c l _ rfl hle h h1 h2 w L
    · exact LDir_w2 x y a b s t A n c l _ rfl hle h h1 w L
  · exact LDir_w1 x y a b s t A n c l _ rfl hle (by omega) w L
end Go.Proofs.Ytpjbkadhmjlpfaa
