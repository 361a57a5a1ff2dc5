/- zonogon.ifValid, Norm, OfRect, OfSegment. -/
import Derived.Test.YtpjbkadhmjlpfaaZ8
import Derived.Test.YtpjbkadhmjlpfaaZ6
set_option linter.unusedVariables false
set_option linter.unusedSimpArgs false
namespace Go.Proofs.Ytpjbkadhmjlpfaa
open Go Go.RowKit Hd

theorem okz_bd {x y : Int} {l : List P2} (h : OkZ x y l) : ∀ p ∈ l, Bd 16777216 p := fun p hp => Bd.mono (okz_sd h p hp) (by decide)
theorem okz_bd6 {x y : Int} {l : List P2} (h : OkZ x y l) : ∀ p ∈ l, Bd 65536 p := h.2.2.2
section
variable {w : World} {g : Nat} {a b c d : Int}
theorem pl_2 (h : Bx w g 39 #[.int .i64 a, .int .i64 b, .int .i64 c, .int .i64 d]) : PL w g (g + 1) (some ⟨g, 0, none⟩) 2 2 [(a, b), (c, d)] := by
  refine ⟨rfl, Nat.le_refl _, h.lt, fun _ => ⟨g, 0, rfl, ⟨Nat.le_refl _, Nat.lt_succ_self _⟩, fun i hi => ?_⟩⟩
  have hi : i < 2 := hi
  match i, hi with
  | 0, _ => exact ⟨h.cell 0 rfl, h.cell 1 rfl⟩
  | 1, _ => exact ⟨h.cell 2 rfl, h.cell 3 rfl⟩
theorem pl_1 (h : Bx w g 39 #[.int .i64 a, .int .i64 b]) : PL w g (g + 1) (some ⟨g, 0, none⟩) 1 1 [(a, b)] := by
  refine ⟨rfl, Nat.le_refl _, h.lt, fun _ => ⟨g, 0, rfl, ⟨Nat.le_refl _, Nat.lt_succ_self _⟩, fun i hi => ?_⟩⟩
  have hi : i < 1 := hi
  match i, hi with
  | 0, _ => exact ⟨h.cell 0 rfl, h.cell 1 rfl⟩
end
theorem bd_2 {a b c d : Int} (h1 : Wi a 16777216) (h2 : Wi b 16777216) (h3 : Wi c 16777216) (h4 : Wi d 16777216) : ∀ p ∈ [(a, b), (c, d)], Bd 16777216 p := by
  intro p hp
  simp at hp
  rcases hp with rfl | rfl
  · exact ⟨h1, h2⟩
  · exact ⟨h3, h4⟩
theorem bd_1 {a b : Int} (h1 : Wi a 16777216) (h2 : Wi b 16777216) : ∀ p ∈ [(a, b)], Bd 16777216 p := by
  intro p hp
  simp at hp
  subst hp
  exact ⟨h1, h2⟩

set_option maxRecDepth 100000 in
set_option maxHeartbeats 4000000 in
theorem ifValid_w0 (x y : Int) (A : Option Addr) (n c : Nat) (l : List P2)  (hn : n ≤ 1000) (dd0 : OkZ x y l) (w : World) {lo_L hi_L : Nat} (L : PL w lo_L hi_L A n c l) :
    Calls Try.prog 60 #[.agg #[.int .i64 x, .int .i64 y, .slice A n c]] w fun e w' => e = .returned (.tuple #[.agg #[.int .i64 x, .int .i64 y, .slice A n c], .int .i64 0]) ∧ Below w.heap.size w w' := by
  replace L := Lib.hid L
  obtain ⟨HB, B_z0, B_z1⟩ := box2 w 24 #[.int .i64 x, .int .i64 y, .slice A n c] 24 #[.int .i64 0, .int .i64 0, .slice none 0 0]
  replace L := Lib.hid (PL.below L.out HB.out)
  go_enter Try.func60, Try.ntmps60
  go_upto_region 1 with (fail)
  generalize (w.alloc (.cells #[.int .i64 x, .int .i64 y, .slice A n c] 24)).alloc (.cells #[.int .i64 0, .int .i64 0, .slice none 0 0] 24) = W0 at *
  obtain ⟨c0z0, c1z0, c2z0⟩ := cells3 B_z0
  go_wp2_with fail
  refine (Valid_yes dd0 (by omega) _ (PL.below L.out (by exact sm))).mono ?_
  clear c0z0 c1z0 c2z0
  rintro e w1 ⟨rfl, bb⟩
  replace bb := nextw (w0 := W0) (by exact sm) bb
  replace B_z0 := mv B_z0 bb
  replace B_z1 := mv B_z1 bb
  replace L := Lib.hid (PL.below L.out bb)
  replace HB := nx HB bb
  clear bb
  obtain ⟨c0z0, c1z0, c2z0⟩ := cells3 B_z0
  obtain ⟨s0, s1, s2⟩ := cells3 (stor3 B_z1 (.int .i64 x) (.int .i64 y) (.slice A n c))
  have HF := stb3 HB (y := w.heap.size + 1) (by omega) 0 (.int .i64 x) 1 (.int .i64 y) 2 (.slice A n c)
  obtain ⟨c0z1, c1z1, c2z1⟩ := cells3 B_z1
  obtain ⟨f0z1, f1z1, f2z1⟩ := froz3 B_z1
  go_wp2_with fail
  exact bodyPost_ret (v := .tuple #[.agg #[.int .i64 x, .int .i64 y, .slice A n c], .int .i64 0]) (by simp [results, Try.results60, go_sem, s0, s1, s2]) rfl ⟨rfl, nextw HF.out (by exact sm)⟩

set_option maxRecDepth 100000 in
set_option maxHeartbeats 4000000 in
theorem ifValid_w1 (x y : Int) (A : Option Addr) (n c : Nat) (l : List P2)  (hn : n ≤ 1000) (dd0 : ¬ (OkZ x y l)) (w : World) {lo_L hi_L : Nat} (L : PL w lo_L hi_L A n c l) :
    Calls Try.prog 60 #[.agg #[.int .i64 x, .int .i64 y, .slice A n c]] w fun e w' => e = .returned (.tuple #[.agg #[.int .i64 0, .int .i64 0, .slice none 0 0], .int .i64 6]) ∧ Below w.heap.size w w' := by
  replace L := Lib.hid L
  obtain ⟨HB, B_z0, B_z1⟩ := box2 w 24 #[.int .i64 x, .int .i64 y, .slice A n c] 24 #[.int .i64 0, .int .i64 0, .slice none 0 0]
  replace L := Lib.hid (PL.below L.out HB.out)
  go_enter Try.func60, Try.ntmps60
  go_upto_region 1 with (fail)
  generalize (w.alloc (.cells #[.int .i64 x, .int .i64 y, .slice A n c] 24)).alloc (.cells #[.int .i64 0, .int .i64 0, .slice none 0 0] 24) = W0 at *
  obtain ⟨c0z0, c1z0, c2z0⟩ := cells3 B_z0
  go_wp2_with fail
  refine (Valid_no dd0 (by omega) _ (PL.below L.out (by exact sm))).mono ?_
  clear c0z0 c1z0 c2z0
  rintro e w1 ⟨rfl, bb⟩
  replace bb := nextw (w0 := W0) (by exact sm) bb
  replace B_z0 := mv B_z0 bb
  replace B_z1 := mv B_z1 bb
  replace L := Lib.hid (PL.below L.out bb)
  replace HB := nx HB bb
  clear bb
  obtain ⟨s0, s1, s2⟩ := cells3 (stor3 B_z1 (.int .i64 0) (.int .i64 0) (.slice none 0 0))
  have HF := stb3 HB (y := w.heap.size + 1) (by omega) 0 (.int .i64 0) 1 (.int .i64 0) 2 (.slice none 0 0)
  obtain ⟨c0z1, c1z1, c2z1⟩ := cells3 B_z1
  obtain ⟨f0z1, f1z1, f2z1⟩ := froz3 B_z1
  go_wp2_with fail
  exact bodyPost_ret (v := .tuple #[.agg #[.int .i64 0, .int .i64 0, .slice none 0 0], .int .i64 6]) (by simp [results, Try.results60, go_sem, s0, s1, s2]) rfl ⟨rfl, nextw HF.out (by exact sm)⟩

def ifValidV (x y : Int) (A : Option Addr) (n c : Nat) (l : List P2) : Value := if OkZ x y l then .tuple #[.agg #[.int .i64 x, .int .i64 y, .slice A n c], .int .i64 0] else .tuple #[.agg #[.int .i64 0, .int .i64 0, .slice none 0 0], .int .i64 6]
theorem ifValid_any (x y : Int) (A : Option Addr) (n c : Nat) (l : List P2) (hn : n ≤ 1000) (w : World) {lo_L hi_L : Nat} (L : PL w lo_L hi_L A n c l) :
    Calls Try.prog 60 #[.agg #[.int .i64 x, .int .i64 y, .slice A n c]] w fun e w' => e = .returned (ifValidV x y A n c l) ∧ Below w.heap.size w w' := by
  unfold ifValidV
  by_cases dd0 : OkZ x y l
  · rw [if_pos dd0]
    exact ifValid_w0 x y A n c l   hn dd0 w L
  · rw [if_neg dd0]
    exact ifValid_w1 x y A n c l   hn dd0 w L

set_option maxRecDepth 100000 in
set_option maxHeartbeats 4000000 in
theorem Norm_w0 (x y : Int) (A : Option Addr) (n c : Nat) (l : List P2)  (hn : n ≤ 1000) (dd0 : OkZ x y l) (w : World) {lo_L hi_L : Nat} (L : PL w lo_L hi_L A n c l) :
    Calls Try.prog 15 #[.agg #[.int .i64 x, .int .i64 y, .slice A n c]] w fun e w' => ∃ AC1 cC1, e = .returned (.tuple #[.agg #[.int .i64 x, .int .i64 y, .slice AC1 ((canL l).length) cC1], .int .i64 0]) ∧ PL w' w.heap.size w'.heap.size AC1 ((canL l).length) cC1 (canL l) ∧ Below w.heap.size w w' := by
  replace L := Lib.hid L
  have dd0x1 := dd0.1.1
  have dd0x2 := dd0.1.2
  have dd0y1 := dd0.2.1.1
  have dd0y2 := dd0.2.1.2
  obtain ⟨HB, B_z0, B_z1⟩ := box2 w 24 #[.int .i64 x, .int .i64 y, .slice A n c] 24 #[.int .i64 0, .int .i64 0, .slice none 0 0]
  replace L := Lib.hid (PL.below L.out HB.out)
  go_enter Try.func15, Try.ntmps15
  go_upto_region 1 with (fail)
  generalize (w.alloc (.cells #[.int .i64 x, .int .i64 y, .slice A n c] 24)).alloc (.cells #[.int .i64 0, .int .i64 0, .slice none 0 0] 24) = W0 at *
  obtain ⟨c0z0, c1z0, c2z0⟩ := cells3 B_z0
  go_wp2_with fail
  refine (Valid_yes dd0 (by omega) _ (PL.below L.out (by exact sm))).mono ?_
  clear c0z0 c1z0 c2z0
  rintro e w1 ⟨rfl, bb⟩
  replace bb := nextw (w0 := W0) (by exact sm) bb
  replace B_z0 := mv B_z0 bb
  replace B_z1 := mv B_z1 bb
  replace L := Lib.hid (PL.below L.out bb)
  replace HB := nx HB bb
  clear bb
  obtain ⟨c0z0, c1z0, c2z0⟩ := cells3 B_z0
  have sp_z0_LC1 : Hid (w.heap.size < w1.heap.size) := B_z0.out.lt
  have sp_z1_LC1 : Hid (w.heap.size + 1 < w1.heap.size) := B_z1.out.lt
  have lw_LC1 : Hid (w.heap.size ≤ w1.heap.size) := HB.out.size
  go_wp2_with fail
  refine (canonical_is x y _ _ _ l (by first | omega | decide) (okz_bd dd0) _ (PL.below L.out (by exact sm))).mono ?_
  clear c0z0 c1z0 c2z0
  rintro e w2 ⟨AC1, cC1, rfl, LC1, bb⟩
  replace bb := nextw (w0 := w1) (by exact sm) bb
  replace B_z0 := mv B_z0 bb
  replace B_z1 := mv B_z1 bb
  replace L := Lib.hid (PL.below L.out bb)
  replace HB := nx HB bb
  clear bb
  replace LC1 := Lib.hid LC1
  obtain ⟨s0, s1, s2⟩ := cells3 (stor3 B_z1 (.int .i64 x) (.int .i64 y) (.slice AC1 ((canL l).length) cC1))
  have HF := stb3 HB (y := w.heap.size + 1) (by omega) 0 (.int .i64 x) 1 (.int .i64 y) 2 (.slice AC1 ((canL l).length) cC1)
  obtain ⟨c0z1, c1z1, c2z1⟩ := cells3 B_z1
  obtain ⟨f0z1, f1z1, f2z1⟩ := froz3 B_z1
  go_wp2_with fail
  exact bodyPost_ret (v := .tuple #[.agg #[.int .i64 x, .int .i64 y, .slice AC1 ((canL l).length) cC1], .int .i64 0]) (by simp [results, Try.results15, go_sem, s0, s1, s2]) rfl ⟨AC1, cC1, rfl, PL.outw (PL.below (PL.set (PL.set (PL.set LC1.out (Or.inl sp_z1_LC1.out) 0 (.int .i64 x)) (Or.inl sp_z1_LC1.out) 1 (.int .i64 y)) (Or.inl sp_z1_LC1.out) 2 (.slice AC1 ((canL l).length) cC1)) (by exact sm)) lw_LC1.out, nextw HF.out (by exact sm)⟩

set_option maxRecDepth 100000 in
set_option maxHeartbeats 4000000 in
theorem Norm_w1 (x y : Int) (A : Option Addr) (n c : Nat) (l : List P2)  (hn : n ≤ 1000) (dd0 : ¬ (OkZ x y l)) (w : World) {lo_L hi_L : Nat} (L : PL w lo_L hi_L A n c l) :
    Calls Try.prog 15 #[.agg #[.int .i64 x, .int .i64 y, .slice A n c]] w fun e w' => e = .returned (.tuple #[.agg #[.int .i64 0, .int .i64 0, .slice none 0 0], .int .i64 1]) ∧ Below w.heap.size w w' := by
  replace L := Lib.hid L
  obtain ⟨HB, B_z0, B_z1⟩ := box2 w 24 #[.int .i64 x, .int .i64 y, .slice A n c] 24 #[.int .i64 0, .int .i64 0, .slice none 0 0]
  replace L := Lib.hid (PL.below L.out HB.out)
  go_enter Try.func15, Try.ntmps15
  go_upto_region 1 with (fail)
  generalize (w.alloc (.cells #[.int .i64 x, .int .i64 y, .slice A n c] 24)).alloc (.cells #[.int .i64 0, .int .i64 0, .slice none 0 0] 24) = W0 at *
  obtain ⟨c0z0, c1z0, c2z0⟩ := cells3 B_z0
  go_wp2_with fail
  refine (Valid_no dd0 (by omega) _ (PL.below L.out (by exact sm))).mono ?_
  clear c0z0 c1z0 c2z0
  rintro e w1 ⟨rfl, bb⟩
  replace bb := nextw (w0 := W0) (by exact sm) bb
  replace B_z0 := mv B_z0 bb
  replace B_z1 := mv B_z1 bb
  replace L := Lib.hid (PL.below L.out bb)
  replace HB := nx HB bb
  clear bb
  obtain ⟨s0, s1, s2⟩ := cells3 (stor3 B_z1 (.int .i64 0) (.int .i64 0) (.slice none 0 0))
  have HF := stb3 HB (y := w.heap.size + 1) (by omega) 0 (.int .i64 0) 1 (.int .i64 0) 2 (.slice none 0 0)
  obtain ⟨c0z1, c1z1, c2z1⟩ := cells3 B_z1
  obtain ⟨f0z1, f1z1, f2z1⟩ := froz3 B_z1
  go_wp2_with fail
  exact bodyPost_ret (v := .tuple #[.agg #[.int .i64 0, .int .i64 0, .slice none 0 0], .int .i64 1]) (by simp [results, Try.results15, go_sem, s0, s1, s2]) rfl ⟨rfl, nextw HF.out (by exact sm)⟩

set_option maxRecDepth 100000 in
set_option maxHeartbeats 4000000 in
theorem OfRect_w0 (x0 y0 x1 y1 : Int)   (dd0 : OkR x0 y0 x1 y1) (dd1 : 65536 < (x1 - x0)) (w : World) :
    Calls Try.prog 27 #[.agg #[.int .i64 x0, .int .i64 y0, .int .i64 x1, .int .i64 y1]] w fun e w' => e = .returned (.tuple #[.agg #[.int .i64 0, .int .i64 0, .slice none 0 0], .int .i64 1]) ∧ Below w.heap.size w w' := by
  have H0 := Lib.hid (fun w => validRect_is x0 y0 x1 y1 w)
  obtain ⟨⟨dd0a, dd0b⟩, ⟨dd0c, dd0d⟩, ⟨dd0e, dd0f⟩, ⟨dd0g, dd0h⟩, dd0i, dd0j⟩ := (id dd0 : OkR x0 y0 x1 y1)
  obtain ⟨HB, B_z0, B_z1⟩ := box2 w 31 #[.int .i64 x0, .int .i64 y0, .int .i64 x1, .int .i64 y1] 24 #[.int .i64 0, .int .i64 0, .slice none 0 0]
  go_enter Try.func27, Try.ntmps27
  go_upto_region 1 with (fail)
  generalize (w.alloc (.cells #[.int .i64 x0, .int .i64 y0, .int .i64 x1, .int .i64 y1] 31)).alloc (.cells #[.int .i64 0, .int .i64 0, .slice none 0 0] 24) = W0 at *
  obtain ⟨c0z0, c1z0, c2z0, c3z0⟩ := cells4 B_z0
  go_wp2_with fail
  refine (H0.out _).mono ?_
  clear c0z0 c1z0 c2z0 c3z0
  rintro e w1 ⟨rfl, bb⟩
  replace bb := nextw (w0 := W0) (by exact sm) bb
  replace B_z0 := mv B_z0 bb
  replace B_z1 := mv B_z1 bb
  replace HB := nx HB bb
  clear bb
  obtain ⟨c0z0, c1z0, c2z0, c3z0⟩ := cells4 B_z0
  obtain ⟨s0, s1, s2⟩ := cells3 (stor3 B_z1 (.int .i64 0) (.int .i64 0) (.slice none 0 0))
  have HF := stb3 HB (y := w.heap.size + 1) (by omega) 0 (.int .i64 0) 1 (.int .i64 0) 2 (.slice none 0 0)
  obtain ⟨c0z1, c1z1, c2z1⟩ := cells3 B_z1
  obtain ⟨f0z1, f1z1, f2z1⟩ := froz3 B_z1
  go_wp2_with fail
  exact bodyPost_ret (v := .tuple #[.agg #[.int .i64 0, .int .i64 0, .slice none 0 0], .int .i64 1]) (by simp [results, Try.results27, go_sem, s0, s1, s2]) rfl ⟨rfl, nextw HF.out (by exact sm)⟩

set_option maxRecDepth 100000 in
set_option maxHeartbeats 4000000 in
theorem OfRect_w1 (x0 y0 x1 y1 : Int)   (dd0 : ¬ (OkR x0 y0 x1 y1)) (w : World) :
    Calls Try.prog 27 #[.agg #[.int .i64 x0, .int .i64 y0, .int .i64 x1, .int .i64 y1]] w fun e w' => e = .returned (.tuple #[.agg #[.int .i64 0, .int .i64 0, .slice none 0 0], .int .i64 1]) ∧ Below w.heap.size w w' := by
  have H0 := Lib.hid (fun w => validRect_is x0 y0 x1 y1 w)
  obtain ⟨HB, B_z0, B_z1⟩ := box2 w 31 #[.int .i64 x0, .int .i64 y0, .int .i64 x1, .int .i64 y1] 24 #[.int .i64 0, .int .i64 0, .slice none 0 0]
  go_enter Try.func27, Try.ntmps27
  go_upto_region 1 with (fail)
  generalize (w.alloc (.cells #[.int .i64 x0, .int .i64 y0, .int .i64 x1, .int .i64 y1] 31)).alloc (.cells #[.int .i64 0, .int .i64 0, .slice none 0 0] 24) = W0 at *
  obtain ⟨c0z0, c1z0, c2z0, c3z0⟩ := cells4 B_z0
  go_wp2_with fail
  refine (H0.out _).mono ?_
  clear c0z0 c1z0 c2z0 c3z0
  rintro e w1 ⟨rfl, bb⟩
  replace bb := nextw (w0 := W0) (by exact sm) bb
  replace B_z0 := mv B_z0 bb
  replace B_z1 := mv B_z1 bb
  replace HB := nx HB bb
  clear bb
  obtain ⟨s0, s1, s2⟩ := cells3 (stor3 B_z1 (.int .i64 0) (.int .i64 0) (.slice none 0 0))
  have HF := stb3 HB (y := w.heap.size + 1) (by omega) 0 (.int .i64 0) 1 (.int .i64 0) 2 (.slice none 0 0)
  obtain ⟨c0z1, c1z1, c2z1⟩ := cells3 B_z1
  obtain ⟨f0z1, f1z1, f2z1⟩ := froz3 B_z1
  go_wp2_with fail
  exact bodyPost_ret (v := .tuple #[.agg #[.int .i64 0, .int .i64 0, .slice none 0 0], .int .i64 1]) (by simp [results, Try.results27, go_sem, s0, s1, s2]) rfl ⟨rfl, nextw HF.out (by exact sm)⟩

set_option maxRecDepth 100000 in
set_option maxHeartbeats 4000000 in
theorem OfRect_w2 (x0 y0 x1 y1 : Int)   (dd0 : OkR x0 y0 x1 y1) (dd1 : (x1 - x0) ≤ 65536) (dd2 : 65536 < (y1 - y0)) (w : World) :
    Calls Try.prog 27 #[.agg #[.int .i64 x0, .int .i64 y0, .int .i64 x1, .int .i64 y1]] w fun e w' => e = .returned (.tuple #[.agg #[.int .i64 0, .int .i64 0, .slice none 0 0], .int .i64 1]) ∧ Below w.heap.size w w' := by
  have H0 := Lib.hid (fun w => validRect_is x0 y0 x1 y1 w)
  obtain ⟨⟨dd0a, dd0b⟩, ⟨dd0c, dd0d⟩, ⟨dd0e, dd0f⟩, ⟨dd0g, dd0h⟩, dd0i, dd0j⟩ := (id dd0 : OkR x0 y0 x1 y1)
  obtain ⟨HB, B_z0, B_z1⟩ := box2 w 31 #[.int .i64 x0, .int .i64 y0, .int .i64 x1, .int .i64 y1] 24 #[.int .i64 0, .int .i64 0, .slice none 0 0]
  go_enter Try.func27, Try.ntmps27
  go_upto_region 1 with (fail)
  generalize (w.alloc (.cells #[.int .i64 x0, .int .i64 y0, .int .i64 x1, .int .i64 y1] 31)).alloc (.cells #[.int .i64 0, .int .i64 0, .slice none 0 0] 24) = W0 at *
  obtain ⟨c0z0, c1z0, c2z0, c3z0⟩ := cells4 B_z0
  go_wp2_with fail
  refine (H0.out _).mono ?_
  clear c0z0 c1z0 c2z0 c3z0
  rintro e w1 ⟨rfl, bb⟩
  replace bb := nextw (w0 := W0) (by exact sm) bb
  replace B_z0 := mv B_z0 bb
  replace B_z1 := mv B_z1 bb
  replace HB := nx HB bb
  clear bb
  obtain ⟨c0z0, c1z0, c2z0, c3z0⟩ := cells4 B_z0
  obtain ⟨s0, s1, s2⟩ := cells3 (stor3 B_z1 (.int .i64 0) (.int .i64 0) (.slice none 0 0))
  have HF := stb3 HB (y := w.heap.size + 1) (by omega) 0 (.int .i64 0) 1 (.int .i64 0) 2 (.slice none 0 0)
  obtain ⟨c0z1, c1z1, c2z1⟩ := cells3 B_z1
  obtain ⟨f0z1, f1z1, f2z1⟩ := froz3 B_z1
  go_wp2_with fail
  exact bodyPost_ret (v := .tuple #[.agg #[.int .i64 0, .int .i64 0, .slice none 0 0], .int .i64 1]) (by simp [results, Try.results27, go_sem, s0, s1, s2]) rfl ⟨rfl, nextw HF.out (by exact sm)⟩

set_option maxRecDepth 100000 in
set_option maxHeartbeats 4000000 in
theorem OfRect_w3 (x0 y0 x1 y1 : Int)   (dd0 : OkR x0 y0 x1 y1) (dd1 : (x1 - x0) ≤ 65536) (dd2 : (y1 - y0) ≤ 65536) (w : World) :
    Calls Try.prog 27 #[.agg #[.int .i64 x0, .int .i64 y0, .int .i64 x1, .int .i64 y1]] w fun e w' => ∃ AC1 cC1, e = .returned (.tuple #[.agg #[.int .i64 (x0 + x1), .int .i64 (y0 + y1), .slice AC1 ((canL ([((x1 - x0), 0), (0, (y1 - y0))])).length) cC1], .int .i64 0]) ∧ PL w' w.heap.size w'.heap.size AC1 ((canL ([((x1 - x0), 0), (0, (y1 - y0))])).length) cC1 (canL ([((x1 - x0), 0), (0, (y1 - y0))])) ∧ Below w.heap.size w w' := by
  have H0 := Lib.hid (fun w => validRect_is x0 y0 x1 y1 w)
  obtain ⟨⟨dd0a, dd0b⟩, ⟨dd0c, dd0d⟩, ⟨dd0e, dd0f⟩, ⟨dd0g, dd0h⟩, dd0i, dd0j⟩ := (id dd0 : OkR x0 y0 x1 y1)
  obtain ⟨HB, B_z0, B_z1⟩ := box2 w 31 #[.int .i64 x0, .int .i64 y0, .int .i64 x1, .int .i64 y1] 24 #[.int .i64 0, .int .i64 0, .slice none 0 0]
  go_enter Try.func27, Try.ntmps27
  go_upto_region 1 with (fail)
  generalize (w.alloc (.cells #[.int .i64 x0, .int .i64 y0, .int .i64 x1, .int .i64 y1] 31)).alloc (.cells #[.int .i64 0, .int .i64 0, .slice none 0 0] 24) = W0 at *
  obtain ⟨c0z0, c1z0, c2z0, c3z0⟩ := cells4 B_z0
  go_wp2_with fail
  refine (H0.out _).mono ?_
  clear c0z0 c1z0 c2z0 c3z0
  rintro e w1 ⟨rfl, bb⟩
  replace bb := nextw (w0 := W0) (by exact sm) bb
  replace B_z0 := mv B_z0 bb
  replace B_z1 := mv B_z1 bb
  replace HB := nx HB bb
  clear bb
  obtain ⟨c0z0, c1z0, c2z0, c3z0⟩ := cells4 B_z0
  have lt_z2z0 := B_z0.out.lt
  have lt_z2z1 := B_z1.out.lt
  obtain ⟨bb, B_z2⟩ := box1 w1 39 #[.int .i64 (x1 - x0), .int .i64 0, .int .i64 0, .int .i64 (y1 - y0)]
  replace bb := bb.out
  replace B_z0 := mv B_z0 bb
  replace B_z1 := mv B_z1 bb
  replace HB := nx HB bb
  clear bb
  go_upto_region 4 with (fail)
  clear c0z0 c1z0 c2z0 c3z0
  generalize w1.alloc (.cells #[.int .i64 (x1 - x0), .int .i64 0, .int .i64 0, .int .i64 (y1 - y0)] 39) = WN2 at *
  obtain ⟨c0z0, c1z0, c2z0, c3z0⟩ := cells4 B_z0
  have sp_z0_LC1 : Hid (w.heap.size < WN2.heap.size) := B_z0.out.lt
  have sp_z1_LC1 : Hid (w.heap.size + 1 < WN2.heap.size) := B_z1.out.lt
  have sp_z2_LC1 : Hid (w1.heap.size < WN2.heap.size) := B_z2.out.lt
  have lw_LC1 : Hid (w.heap.size ≤ WN2.heap.size) := HB.out.size
  go_wp2_with fail
  refine (canonical_is (x0 + x1) (y0 + y1) _ _ _ ([((x1 - x0), 0), (0, (y1 - y0))]) (by first | omega | decide) (bd_2 ⟨by omega, by omega⟩ ⟨by omega, by omega⟩ ⟨by omega, by omega⟩ ⟨by omega, by omega⟩) _ (PL.below (pl_2 B_z2.out) (by exact sm))).mono ?_
  clear c0z0 c1z0 c2z0 c3z0
  rintro e w2 ⟨AC1, cC1, rfl, LC1, bb⟩
  replace bb := nextw (w0 := WN2) (by exact sm) bb
  replace B_z0 := mv B_z0 bb
  replace B_z1 := mv B_z1 bb
  replace B_z2 := mv B_z2 bb
  replace HB := nx HB bb
  clear bb
  replace LC1 := Lib.hid LC1
  obtain ⟨s0, s1, s2⟩ := cells3 (stor3 B_z1 (.int .i64 (x0 + x1)) (.int .i64 (y0 + y1)) (.slice AC1 ((canL ([((x1 - x0), 0), (0, (y1 - y0))])).length) cC1))
  have HF := stb3 HB (y := w.heap.size + 1) (by omega) 0 (.int .i64 (x0 + x1)) 1 (.int .i64 (y0 + y1)) 2 (.slice AC1 ((canL ([((x1 - x0), 0), (0, (y1 - y0))])).length) cC1)
  obtain ⟨c0z1, c1z1, c2z1⟩ := cells3 B_z1
  obtain ⟨f0z1, f1z1, f2z1⟩ := froz3 B_z1
  go_wp2_with fail
  exact bodyPost_ret (v := .tuple #[.agg #[.int .i64 (x0 + x1), .int .i64 (y0 + y1), .slice AC1 ((canL ([((x1 - x0), 0), (0, (y1 - y0))])).length) cC1], .int .i64 0]) (by simp [results, Try.results27, go_sem, s0, s1, s2]) rfl ⟨AC1, cC1, rfl, PL.outw (PL.below (PL.set (PL.set (PL.set LC1.out (Or.inl sp_z1_LC1.out) 0 (.int .i64 (x0 + x1))) (Or.inl sp_z1_LC1.out) 1 (.int .i64 (y0 + y1))) (Or.inl sp_z1_LC1.out) 2 (.slice AC1 ((canL ([((x1 - x0), 0), (0, (y1 - y0))])).length) cC1)) (by exact sm)) lw_LC1.out, nextw HF.out (by exact sm)⟩

set_option maxRecDepth 100000 in
set_option maxHeartbeats 4000000 in
theorem OfSeg_w0 (a b c d : Int)   (dd0 : Wi a 2097152 ∧ Wi b 2097152) (dd1 : Wi c 2097152 ∧ Wi d 2097152) (dd2 : Wi (c - a) 65536 ∧ Wi (d - b) 65536) (w : World) :
    Calls Try.prog 29 #[.agg #[.int .i64 a, .int .i64 b], .agg #[.int .i64 c, .int .i64 d]] w fun e w' => ∃ AC3 cC3, e = .returned (.tuple #[.agg #[.int .i64 (a + c), .int .i64 (b + d), .slice AC3 ((canL ([((c - a), (d - b))])).length) cC3], .int .i64 0]) ∧ PL w' w.heap.size w'.heap.size AC3 ((canL ([((c - a), (d - b))])).length) cC3 (canL ([((c - a), (d - b))])) ∧ Below w.heap.size w w' := by
  have H0 := Lib.hid (fun w => pointWithin_is a b 2097152 (by omega) w)
  have H1 := Lib.hid (fun w => pointWithin_is c d 2097152 (by omega) w)
  have H2 := Lib.hid (fun w => pointWithin_is (c - a) (d - b) 65536 (by omega) w)
  have dd0x1 := dd0.1.1
  have dd0x2 := dd0.1.2
  have dd0y1 := dd0.2.1
  have dd0y2 := dd0.2.2
  have dd1x1 := dd1.1.1
  have dd1x2 := dd1.1.2
  have dd1y1 := dd1.2.1
  have dd1y2 := dd1.2.2
  have dd2x1 := dd2.1.1
  have dd2x2 := dd2.1.2
  have dd2y1 := dd2.2.1
  have dd2y2 := dd2.2.2
  obtain ⟨HB, B_z0, B_z1, B_z2⟩ := box3 w 39 #[.int .i64 a, .int .i64 b] 39 #[.int .i64 c, .int .i64 d] 24 #[.int .i64 0, .int .i64 0, .slice none 0 0]
  go_enter Try.func29, Try.ntmps29
  go_upto_region 1 with (fail)
  generalize ((w.alloc (.cells #[.int .i64 a, .int .i64 b] 39)).alloc (.cells #[.int .i64 c, .int .i64 d] 39)).alloc (.cells #[.int .i64 0, .int .i64 0, .slice none 0 0] 24) = W0 at *
  obtain ⟨c0z0, c1z0⟩ := cells2 B_z0
  go_wp2_with fail
  refine (H0.out _).mono ?_
  clear c0z0 c1z0
  rintro e w1 ⟨rfl, bb⟩
  replace bb := nextw (w0 := W0) (by exact sm) bb
  replace B_z0 := mv B_z0 bb
  replace B_z1 := mv B_z1 bb
  replace B_z2 := mv B_z2 bb
  replace HB := nx HB bb
  clear bb
  obtain ⟨c0z1, c1z1⟩ := cells2 B_z1
  go_wp2_with fail
  refine (H1.out _).mono ?_
  clear c0z1 c1z1
  rintro e w2 ⟨rfl, bb⟩
  replace bb := nextw (w0 := w1) (by exact sm) bb
  replace B_z0 := mv B_z0 bb
  replace B_z1 := mv B_z1 bb
  replace B_z2 := mv B_z2 bb
  replace HB := nx HB bb
  clear bb
  obtain ⟨c0z1, c1z1⟩ := cells2 B_z1
  obtain ⟨c0z0, c1z0⟩ := cells2 B_z0
  have lt_z3z0 := B_z0.out.lt
  have lt_z3z1 := B_z1.out.lt
  have lt_z3z2 := B_z2.out.lt
  obtain ⟨bb, B_z3⟩ := box1 w2 39 #[.int .i64 (c - a), .int .i64 (d - b)]
  replace bb := bb.out
  replace B_z0 := mv B_z0 bb
  replace B_z1 := mv B_z1 bb
  replace B_z2 := mv B_z2 bb
  replace HB := nx HB bb
  clear bb
  go_upto_region 4 with (fail)
  clear c0z1 c1z1 c0z0 c1z0
  generalize w2.alloc (.cells #[.int .i64 (c - a), .int .i64 (d - b)] 39) = WN2 at *
  obtain ⟨c0z3, c1z3⟩ := cells2 B_z3
  go_wp2_with fail
  refine (H2.out _).mono ?_
  clear c0z3 c1z3
  rintro e w3 ⟨rfl, bb⟩
  replace bb := nextw (w0 := WN2) (by exact sm) bb
  replace B_z0 := mv B_z0 bb
  replace B_z1 := mv B_z1 bb
  replace B_z2 := mv B_z2 bb
  replace B_z3 := mv B_z3 bb
  replace HB := nx HB bb
  clear bb
  obtain ⟨c0z0, c1z0⟩ := cells2 B_z0
  obtain ⟨c0z1, c1z1⟩ := cells2 B_z1
  obtain ⟨c0z3, c1z3⟩ := cells2 B_z3
  have lt_z4z0 := B_z0.out.lt
  have lt_z4z1 := B_z1.out.lt
  have lt_z4z2 := B_z2.out.lt
  have lt_z4z3 := B_z3.out.lt
  obtain ⟨bb, B_z4⟩ := box1 w3 39 #[.int .i64 (c - a), .int .i64 (d - b)]
  replace bb := bb.out
  replace B_z0 := mv B_z0 bb
  replace B_z1 := mv B_z1 bb
  replace B_z2 := mv B_z2 bb
  replace B_z3 := mv B_z3 bb
  replace HB := nx HB bb
  clear bb
  go_wp2_with fail
  clear c0z0 c1z0 c0z1 c1z1 c0z3 c1z3
  generalize w3.alloc (.cells #[.int .i64 (c - a), .int .i64 (d - b)] 39) = WA6x71 at *
  have sp_z0_LC3 : Hid (w.heap.size < WA6x71.heap.size) := B_z0.out.lt
  have sp_z1_LC3 : Hid (w.heap.size + 1 < WA6x71.heap.size) := B_z1.out.lt
  have sp_z2_LC3 : Hid (w.heap.size + 1 + 1 < WA6x71.heap.size) := B_z2.out.lt
  have sp_z3_LC3 : Hid (w2.heap.size < WA6x71.heap.size) := B_z3.out.lt
  have sp_z4_LC3 : Hid (w3.heap.size < WA6x71.heap.size) := B_z4.out.lt
  have lw_LC3 : Hid (w.heap.size ≤ WA6x71.heap.size) := HB.out.size
  refine (canonical_is (a + c) (b + d) _ _ _ ([((c - a), (d - b))]) (by first | omega | decide) (bd_1 ⟨by omega, by omega⟩ ⟨by omega, by omega⟩) _ (PL.below (pl_1 B_z4.out) (by exact sm))).mono ?_
  rintro e w4 ⟨AC3, cC3, rfl, LC3, bb⟩
  replace bb := nextw (w0 := WA6x71) (by exact sm) bb
  replace B_z0 := mv B_z0 bb
  replace B_z1 := mv B_z1 bb
  replace B_z2 := mv B_z2 bb
  replace B_z3 := mv B_z3 bb
  replace B_z4 := mv B_z4 bb
  replace HB := nx HB bb
  clear bb
  replace LC3 := Lib.hid LC3
  obtain ⟨s0, s1, s2⟩ := cells3 (stor3 B_z2 (.int .i64 (a + c)) (.int .i64 (b + d)) (.slice AC3 ((canL ([((c - a), (d - b))])).length) cC3))
  have HF := stb3 HB (y := w.heap.size + 1 + 1) (by omega) 0 (.int .i64 (a + c)) 1 (.int .i64 (b + d)) 2 (.slice AC3 ((canL ([((c - a), (d - b))])).length) cC3)
  obtain ⟨c0z2, c1z2, c2z2⟩ := cells3 B_z2
  obtain ⟨f0z2, f1z2, f2z2⟩ := froz3 B_z2
  go_wp2_with fail
  exact bodyPost_ret (v := .tuple #[.agg #[.int .i64 (a + c), .int .i64 (b + d), .slice AC3 ((canL ([((c - a), (d - b))])).length) cC3], .int .i64 0]) (by simp [results, Try.results29, go_sem, s0, s1, s2]) rfl ⟨AC3, cC3, rfl, PL.outw (PL.below (PL.set (PL.set (PL.set LC3.out (Or.inl sp_z2_LC3.out) 0 (.int .i64 (a + c))) (Or.inl sp_z2_LC3.out) 1 (.int .i64 (b + d))) (Or.inl sp_z2_LC3.out) 2 (.slice AC3 ((canL ([((c - a), (d - b))])).length) cC3)) (by exact sm)) lw_LC3.out, nextw HF.out (by exact sm)⟩

set_option maxRecDepth 100000 in
set_option maxHeartbeats 4000000 in
theorem OfSeg_w1 (a b c d : Int)   (dd0 : ¬ (Wi a 2097152 ∧ Wi b 2097152)) (w : World) :
    Calls Try.prog 29 #[.agg #[.int .i64 a, .int .i64 b], .agg #[.int .i64 c, .int .i64 d]] w fun e w' => e = .returned (.tuple #[.agg #[.int .i64 0, .int .i64 0, .slice none 0 0], .int .i64 1]) ∧ Below w.heap.size w w' := by
  have H0 := Lib.hid (fun w => pointWithin_is a b 2097152 (by omega) w)
  obtain ⟨HB, B_z0, B_z1, B_z2⟩ := box3 w 39 #[.int .i64 a, .int .i64 b] 39 #[.int .i64 c, .int .i64 d] 24 #[.int .i64 0, .int .i64 0, .slice none 0 0]
  go_enter Try.func29, Try.ntmps29
  go_upto_region 1 with (fail)
  generalize ((w.alloc (.cells #[.int .i64 a, .int .i64 b] 39)).alloc (.cells #[.int .i64 c, .int .i64 d] 39)).alloc (.cells #[.int .i64 0, .int .i64 0, .slice none 0 0] 24) = W0 at *
  obtain ⟨c0z0, c1z0⟩ := cells2 B_z0
  go_wp2_with fail
  refine (H0.out _).mono ?_
  clear c0z0 c1z0
  rintro e w1 ⟨rfl, bb⟩
  replace bb := nextw (w0 := W0) (by exact sm) bb
  replace B_z0 := mv B_z0 bb
  replace B_z1 := mv B_z1 bb
  replace B_z2 := mv B_z2 bb
  replace HB := nx HB bb
  clear bb
  obtain ⟨s0, s1, s2⟩ := cells3 (stor3 B_z2 (.int .i64 0) (.int .i64 0) (.slice none 0 0))
  have HF := stb3 HB (y := w.heap.size + 1 + 1) (by omega) 0 (.int .i64 0) 1 (.int .i64 0) 2 (.slice none 0 0)
  obtain ⟨c0z2, c1z2, c2z2⟩ := cells3 B_z2
  obtain ⟨f0z2, f1z2, f2z2⟩ := froz3 B_z2
  go_wp2_with fail
  exact bodyPost_ret (v := .tuple #[.agg #[.int .i64 0, .int .i64 0, .slice none 0 0], .int .i64 1]) (by simp [results, Try.results29, go_sem, s0, s1, s2]) rfl ⟨rfl, nextw HF.out (by exact sm)⟩

set_option maxRecDepth 100000 in
set_option maxHeartbeats 4000000 in
theorem OfSeg_w2 (a b c d : Int)   (dd0 : Wi a 2097152 ∧ Wi b 2097152) (dd1 : ¬ (Wi c 2097152 ∧ Wi d 2097152)) (w : World) :
    Calls Try.prog 29 #[.agg #[.int .i64 a, .int .i64 b], .agg #[.int .i64 c, .int .i64 d]] w fun e w' => e = .returned (.tuple #[.agg #[.int .i64 0, .int .i64 0, .slice none 0 0], .int .i64 1]) ∧ Below w.heap.size w w' := by
  have H0 := Lib.hid (fun w => pointWithin_is a b 2097152 (by omega) w)
  have H1 := Lib.hid (fun w => pointWithin_is c d 2097152 (by omega) w)
  have dd0x1 := dd0.1.1
  have dd0x2 := dd0.1.2
  have dd0y1 := dd0.2.1
  have dd0y2 := dd0.2.2
  obtain ⟨HB, B_z0, B_z1, B_z2⟩ := box3 w 39 #[.int .i64 a, .int .i64 b] 39 #[.int .i64 c, .int .i64 d] 24 #[.int .i64 0, .int .i64 0, .slice none 0 0]
  go_enter Try.func29, Try.ntmps29
  go_upto_region 1 with (fail)
  generalize ((w.alloc (.cells #[.int .i64 a, .int .i64 b] 39)).alloc (.cells #[.int .i64 c, .int .i64 d] 39)).alloc (.cells #[.int .i64 0, .int .i64 0, .slice none 0 0] 24) = W0 at *
  obtain ⟨c0z0, c1z0⟩ := cells2 B_z0
  go_wp2_with fail
  refine (H0.out _).mono ?_
  clear c0z0 c1z0
  rintro e w1 ⟨rfl, bb⟩
  replace bb := nextw (w0 := W0) (by exact sm) bb
  replace B_z0 := mv B_z0 bb
  replace B_z1 := mv B_z1 bb
  replace B_z2 := mv B_z2 bb
  replace HB := nx HB bb
  clear bb
  obtain ⟨c0z1, c1z1⟩ := cells2 B_z1
  go_wp2_with fail
  refine (H1.out _).mono ?_
  clear c0z1 c1z1
  rintro e w2 ⟨rfl, bb⟩
  replace bb := nextw (w0 := w1) (by exact sm) bb
  replace B_z0 := mv B_z0 bb
  replace B_z1 := mv B_z1 bb
  replace B_z2 := mv B_z2 bb
  replace HB := nx HB bb
  clear bb
  obtain ⟨s0, s1, s2⟩ := cells3 (stor3 B_z2 (.int .i64 0) (.int .i64 0) (.slice none 0 0))
  have HF := stb3 HB (y := w.heap.size + 1 + 1) (by omega) 0 (.int .i64 0) 1 (.int .i64 0) 2 (.slice none 0 0)
  obtain ⟨c0z2, c1z2, c2z2⟩ := cells3 B_z2
  obtain ⟨f0z2, f1z2, f2z2⟩ := froz3 B_z2
  go_wp2_with fail
  exact bodyPost_ret (v := .tuple #[.agg #[.int .i64 0, .int .i64 0, .slice none 0 0], .int .i64 1]) (by simp [results, Try.results29, go_sem, s0, s1, s2]) rfl ⟨rfl, nextw HF.out (by exact sm)⟩

set_option maxRecDepth 100000 in
set_option maxHeartbeats 4000000 in
theorem OfSeg_w3 (a b c d : Int)   (dd0 : Wi a 2097152 ∧ Wi b 2097152) (dd1 : Wi c 2097152 ∧ Wi d 2097152) (dd2 : ¬ (Wi (c - a) 65536 ∧ Wi (d - b) 65536)) (w : World) :
    Calls Try.prog 29 #[.agg #[.int .i64 a, .int .i64 b], .agg #[.int .i64 c, .int .i64 d]] w fun e w' => e = .returned (.tuple #[.agg #[.int .i64 0, .int .i64 0, .slice none 0 0], .int .i64 1]) ∧ Below w.heap.size w w' := by
  have H0 := Lib.hid (fun w => pointWithin_is a b 2097152 (by omega) w)
  have H1 := Lib.hid (fun w => pointWithin_is c d 2097152 (by omega) w)
  have H2 := Lib.hid (fun w => pointWithin_is (c - a) (d - b) 65536 (by omega) w)
  have dd0x1 := dd0.1.1
  have dd0x2 := dd0.1.2
  have dd0y1 := dd0.2.1
  have dd0y2 := dd0.2.2
  have dd1x1 := dd1.1.1
  have dd1x2 := dd1.1.2
  have dd1y1 := dd1.2.1
  have dd1y2 := dd1.2.2
  obtain ⟨HB, B_z0, B_z1, B_z2⟩ := box3 w 39 #[.int .i64 a, .int .i64 b] 39 #[.int .i64 c, .int .i64 d] 24 #[.int .i64 0, .int .i64 0, .slice none 0 0]
  go_enter Try.func29, Try.ntmps29
  go_upto_region 1 with (fail)
  generalize ((w.alloc (.cells #[.int .i64 a, .int .i64 b] 39)).alloc (.cells #[.int .i64 c, .int .i64 d] 39)).alloc (.cells #[.int .i64 0, .int .i64 0, .slice none 0 0] 24) = W0 at *
  obtain ⟨c0z0, c1z0⟩ := cells2 B_z0
  go_wp2_with fail
  refine (H0.out _).mono ?_
  clear c0z0 c1z0
  rintro e w1 ⟨rfl, bb⟩
  replace bb := nextw (w0 := W0) (by exact sm) bb
  replace B_z0 := mv B_z0 bb
  replace B_z1 := mv B_z1 bb
  replace B_z2 := mv B_z2 bb
  replace HB := nx HB bb
  clear bb
  obtain ⟨c0z1, c1z1⟩ := cells2 B_z1
  go_wp2_with fail
  refine (H1.out _).mono ?_
  clear c0z1 c1z1
  rintro e w2 ⟨rfl, bb⟩
  replace bb := nextw (w0 := w1) (by exact sm) bb
  replace B_z0 := mv B_z0 bb
  replace B_z1 := mv B_z1 bb
  replace B_z2 := mv B_z2 bb
  replace HB := nx HB bb
  clear bb
  obtain ⟨c0z1, c1z1⟩ := cells2 B_z1
  obtain ⟨c0z0, c1z0⟩ := cells2 B_z0
  have lt_z3z0 := B_z0.out.lt
  have lt_z3z1 := B_z1.out.lt
  have lt_z3z2 := B_z2.out.lt
  obtain ⟨bb, B_z3⟩ := box1 w2 39 #[.int .i64 (c - a), .int .i64 (d - b)]
  replace bb := bb.out
  replace B_z0 := mv B_z0 bb
  replace B_z1 := mv B_z1 bb
  replace B_z2 := mv B_z2 bb
  replace HB := nx HB bb
  clear bb
  go_upto_region 4 with (fail)
  clear c0z1 c1z1 c0z0 c1z0
  generalize w2.alloc (.cells #[.int .i64 (c - a), .int .i64 (d - b)] 39) = WN2 at *
  obtain ⟨c0z3, c1z3⟩ := cells2 B_z3
  go_wp2_with fail
  refine (H2.out _).mono ?_
  clear c0z3 c1z3
  rintro e w3 ⟨rfl, bb⟩
  replace bb := nextw (w0 := WN2) (by exact sm) bb
  replace B_z0 := mv B_z0 bb
  replace B_z1 := mv B_z1 bb
  replace B_z2 := mv B_z2 bb
  replace B_z3 := mv B_z3 bb
  replace HB := nx HB bb
  clear bb
  obtain ⟨s0, s1, s2⟩ := cells3 (stor3 B_z2 (.int .i64 0) (.int .i64 0) (.slice none 0 0))
  have HF := stb3 HB (y := w.heap.size + 1 + 1) (by omega) 0 (.int .i64 0) 1 (.int .i64 0) 2 (.slice none 0 0)
  obtain ⟨c0z2, c1z2, c2z2⟩ := cells3 B_z2
  obtain ⟨f0z2, f1z2, f2z2⟩ := froz3 B_z2
  go_wp2_with fail
  exact bodyPost_ret (v := .tuple #[.agg #[.int .i64 0, .int .i64 0, .slice none 0 0], .int .i64 1]) (by simp [results, Try.results29, go_sem, s0, s1, s2]) rfl ⟨rfl, nextw HF.out (by exact sm)⟩
end Go.Proofs.Ytpjbkadhmjlpfaa
