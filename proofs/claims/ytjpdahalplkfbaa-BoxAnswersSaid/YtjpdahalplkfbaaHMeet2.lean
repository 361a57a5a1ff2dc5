/- heading.Meet. -/
import Derived.Test.YtjpdahalplkfbaaHMeetF
set_option linter.unusedSimpArgs false
set_option linter.unusedVariables false
namespace Go.Proofs.Ytjpdahalplkfbaa
open Go Go.RowKit Hd

/-- The slice value v reads as the arcs l. -/
def AR (w : World) (v : Value) (l : List (Int × Int)) : Prop := ∃ (A : Option Addr) (cap : Nat), v = .slice A l.length cap ∧ (l ≠ [] → ∃ g, A = some ⟨g, 0, none⟩ ∧ g < w.heap.size ∧ ∀ i, i < l.length → w.cell? ⟨g, i * 2, none⟩ = some (.int .i64 (l.getD i (0, 0)).1) ∧ w.cell? ⟨g, i * 2 + 1, none⟩ = some (.int .i64 (l.getD i (0, 0)).2))
theorem AR.below {w w' : World} {v : Value} {l : List (Int × Int)} (h : AR w v l) (hb : Below w.heap.size w w') : AR w' v l := by
  obtain ⟨A, cap, rfl, hh⟩ := h
  refine ⟨A, cap, rfl, fun hne => ?_⟩
  obtain ⟨g, rfl, hg, hc⟩ := hh hne
  exact ⟨g, rfl, Nat.lt_of_lt_of_le hg hb.size, fun i hi => ⟨(hb.cell (p := ⟨g, i * 2, none⟩) hg).trans (hc i hi).1, (hb.cell (p := ⟨g, i * 2 + 1, none⟩) hg).trans (hc i hi).2⟩⟩
theorem arcs_at (l : List (Int × Int)) (i : Nat) (hi : i < l.length) : (arcs l)[i * 2]? = some (.int .i64 (l.getD i (0, 0)).1) ∧ (arcs l)[i * 2 + 1]? = some (.int .i64 (l.getD i (0, 0)).2) := by
  induction l generalizing i with
  | nil => simp at hi
  | cons p l ih =>
    match i with
    | 0 => exact ⟨rfl, rfl⟩
    | i + 1 =>
      have h := ih i (by simpa using hi)
      have e : arcs (p :: l) = .int .i64 p.1 :: .int .i64 p.2 :: arcs l := rfl
      rw [e, show (i + 1) * 2 = i * 2 + 1 + 1 by omega]
      simpa using h
theorem ar_of_row {w : World} {base n : Nat} {v : Value} {l : List (Int × Int)} (h : w.ownsRow base 59 2 v n (arcs l)) (hn : n = l.length) : AR w v l := by
  subst hn
  rcases h.2 with ⟨rfl, h0⟩ | ⟨g, cap, cur, rfl, hg, hh, hnc, hcm, hcs, htake⟩
  · obtain rfl := List.eq_nil_of_length_eq_zero h0
    exact ⟨none, 0, rfl, fun h => absurd rfl h⟩
  · refine ⟨_, cap, rfl, fun _ => ⟨g, rfl, ?_, fun i hi => ?_⟩⟩
    · rcases Nat.lt_or_ge g w.heap.size with h1 | h1
      · exact h1
      · rw [Array.getElem?_eq_none h1] at hh; cases hh
    · have e := arcs_at l i hi
      rw [← htake, List.getElem?_take, if_pos (by omega), List.getElem?_take, if_pos (by omega)] at e
      constructor
      · rw [cell_of_row w g (i * 2) _ _ (0, 0) hh, ← Array.getElem?_toList]; exact e.1
      · rw [cell_of_row w g (i * 2 + 1) _ _ (0, 0) hh, ← Array.getElem?_toList]; exact e.2
theorem ar_nil (w : World) : AR w (.slice none 0 0) [] := ⟨none, 0, rfl, fun h => absurd rfl h⟩
theorem ar_one {w : World} {g : Nat} {F N : Int} (h : Box2 w g F N) : AR w (.slice (some ⟨g, 0, none⟩) 1 1) [(F, N)] :=
  ⟨_, 1, rfl, fun _ => ⟨g, rfl, h.lt, fun i hi => by
    have : i = 0 := by simpa using hi
    subst this; exact ⟨h.c0, h.c1⟩⟩⟩
/-- A list of arcs. -/
def ListedA (l : List (Int × Int)) (w : World) (e : Ending) (w' : World) : Prop := ∃ v, e = .returned v ∧ AR w' v l ∧ Below w.heap.size w w'
/-- What is added at the mark m. -/
def addAt (f c g d : Int) (l : List (Int × Int)) (m : Int) : List (Int × Int) := if startB f c g d m = true then l ++ [(m, cntM f c g d m)] else l
theorem addAt_le {f c g d m : Int} {l : List (Int × Int)} {n : Nat} (h : l.length ≤ n) : (addAt f c g d l m).length ≤ n + 1 := by
  unfold addAt
  split
  · simp; omega
  · omega
theorem nil_rowA (w : World) (base : Nat) : w.ownsRow base 59 2 (.slice none 0 0) ([] : List (Int × Int)).length (arcs []) := ⟨rfl, .inl ⟨rfl, rfl⟩⟩
theorem meetFrom_add (base : Nat) (v : Value) (l : List (Int × Int)) (f c g d m : Int) (ha : OkA f c) (hb : OkA g d) (hl : l.length ≤ 1000) (m0 : 0 ≤ m) (m1 : m ≤ 255) (w : World) (hown : w.ownsRow base 59 2 v l.length (arcs l)) (hbase : base ≤ w.heap.size) :
    Calls Try.prog 65 #[v, av f c, av g d, .int .i64 m] w fun e w' => Met base (addAt f c g d l m) w e w' := meetFrom_any base v l f c g d m ha hb hl m0 m1 w hown hbase

set_option maxRecDepth 100000 in
set_option maxHeartbeats 1000000 in
theorem Meet_bad1 (f c g d : Int) (hn : ¬ OkA f c) (w : World) :
    Calls Try.prog 50 #[av f c, av g d] w fun e w' => e = .returned (.slice none 0 0) ∧ Below w.heap.size w w' := by
  have HV := Lib.hid (fun w => VA_no hn w)
  clear hn
  have HB := Lib.hid (show Below w.heap.size w ((w.alloc (.cells #[.int .i64 f, .int .i64 c] 59)).alloc (.cells #[.int .i64 g, .int .i64 d] 59)) from (((Below.refl _ _).alloc (by simp <;> omega) _).alloc (by simp <;> omega) _))
  have B_a : Box2 ((w.alloc (.cells #[.int .i64 f, .int .i64 c] 59)).alloc (.cells #[.int .i64 g, .int .i64 d] 59)) (w.heap.size) f c := by have h := (Box2.alloc (Box2.new w f c) (.cells #[.int .i64 g, .int .i64 d] 59)); simpa using h
  replace B_a := Lib.hid B_a
  have B_b : Box2 ((w.alloc (.cells #[.int .i64 f, .int .i64 c] 59)).alloc (.cells #[.int .i64 g, .int .i64 d] 59)) (w.heap.size + 1) g d := by have h := (Box2.new (w.alloc (.cells #[.int .i64 f, .int .i64 c] 59)) g d); simpa using h
  replace B_b := Lib.hid B_b
  go_enter Try.func50, Try.ntmps50
  go_wp2_with fail
  generalize (w.alloc (.cells #[.int .i64 f, .int .i64 c] 59)).alloc (.cells #[.int .i64 g, .int .i64 d] 59) = W0 at *
  have c0a := B_a.out.c0
  have c1a := B_a.out.c1
  have c0b := B_b.out.c0
  have c1b := B_b.out.c1
  refine (HV.out _).mono ?_
  clear c0a c1a c0b c1b
  rintro e w1 ⟨rfl, bb⟩
  replace bb := nextw (w0 := W0) (by exact ⟨rfl, rfl, rfl, Nat.le_refl _, fun _ _ => rfl⟩) bb
  replace B_a := Lib.hid (Box2.below B_a.out bb B_a.out.lt)
  replace B_b := Lib.hid (Box2.below B_b.out bb B_b.out.lt)
  replace HB := Lib.hid (nextw HB.out bb)
  clear bb
  have c0a := B_a.out.c0
  have c1a := B_a.out.c1
  have c0b := B_b.out.c0
  have c1b := B_b.out.c1
  clear c0a c1a c0b c1b
  go_wp2
  go_ret
  exact ⟨rfl, nextw HB.out (by exact ⟨rfl, rfl, rfl, Nat.le_refl _, fun _ _ => rfl⟩)⟩

set_option maxRecDepth 100000 in
set_option maxHeartbeats 1000000 in
theorem Meet_bad2 (f c g d : Int) (ha : OkA f c) (hn : ¬ OkA g d) (w : World) :
    Calls Try.prog 50 #[av f c, av g d] w fun e w' => e = .returned (.slice none 0 0) ∧ Below w.heap.size w w' := by
  have HV := Lib.hid (fun w => VA_yes ha w)
  have HW := Lib.hid (fun w => VA_no hn w)
  clear ha hn
  have HB := Lib.hid (show Below w.heap.size w ((w.alloc (.cells #[.int .i64 f, .int .i64 c] 59)).alloc (.cells #[.int .i64 g, .int .i64 d] 59)) from (((Below.refl _ _).alloc (by simp <;> omega) _).alloc (by simp <;> omega) _))
  have B_a : Box2 ((w.alloc (.cells #[.int .i64 f, .int .i64 c] 59)).alloc (.cells #[.int .i64 g, .int .i64 d] 59)) (w.heap.size) f c := by have h := (Box2.alloc (Box2.new w f c) (.cells #[.int .i64 g, .int .i64 d] 59)); simpa using h
  replace B_a := Lib.hid B_a
  have B_b : Box2 ((w.alloc (.cells #[.int .i64 f, .int .i64 c] 59)).alloc (.cells #[.int .i64 g, .int .i64 d] 59)) (w.heap.size + 1) g d := by have h := (Box2.new (w.alloc (.cells #[.int .i64 f, .int .i64 c] 59)) g d); simpa using h
  replace B_b := Lib.hid B_b
  go_enter Try.func50, Try.ntmps50
  go_wp2_with fail
  generalize (w.alloc (.cells #[.int .i64 f, .int .i64 c] 59)).alloc (.cells #[.int .i64 g, .int .i64 d] 59) = W0 at *
  have c0a := B_a.out.c0
  have c1a := B_a.out.c1
  have c0b := B_b.out.c0
  have c1b := B_b.out.c1
  refine (HV.out _).mono ?_
  clear c0a c1a c0b c1b
  rintro e w1 ⟨rfl, bb⟩
  replace bb := nextw (w0 := W0) (by exact ⟨rfl, rfl, rfl, Nat.le_refl _, fun _ _ => rfl⟩) bb
  replace B_a := Lib.hid (Box2.below B_a.out bb B_a.out.lt)
  replace B_b := Lib.hid (Box2.below B_b.out bb B_b.out.lt)
  replace HB := Lib.hid (nextw HB.out bb)
  clear bb
  have c0a := B_a.out.c0
  have c1a := B_a.out.c1
  have c0b := B_b.out.c0
  have c1b := B_b.out.c1
  go_wp2_with fail
  refine (HW.out _).mono ?_
  clear c0a c1a c0b c1b
  rintro e w2 ⟨rfl, bb⟩
  replace bb := nextw (w0 := w1) (by exact ⟨rfl, rfl, rfl, Nat.le_refl _, fun _ _ => rfl⟩) bb
  replace B_a := Lib.hid (Box2.below B_a.out bb B_a.out.lt)
  replace B_b := Lib.hid (Box2.below B_b.out bb B_b.out.lt)
  replace HB := Lib.hid (nextw HB.out bb)
  clear bb
  have c0a := B_a.out.c0
  have c1a := B_a.out.c1
  have c0b := B_b.out.c0
  have c1b := B_b.out.c1
  clear c0a c1a c0b c1b
  go_wp2
  go_ret
  exact ⟨rfl, nextw HB.out (by exact ⟨rfl, rfl, rfl, Nat.le_refl _, fun _ _ => rfl⟩)⟩

set_option maxRecDepth 100000 in
set_option maxHeartbeats 4000000 in
theorem Meet_full (ha : OkA 0 256) (hb : OkA 0 256)  (w : World) :
    Calls Try.prog 50 #[av 0 256, av 0 256] w fun e w' => ListedA [(0, 256)] w e w' := by
  have HV := Lib.hid (fun w => VA_yes ha w)
  have HW := Lib.hid (fun w => VA_yes hb w)
  clear ha hb
  have HB := Lib.hid (show Below w.heap.size w ((w.alloc (.cells #[.int .i64 0, .int .i64 256] 59)).alloc (.cells #[.int .i64 0, .int .i64 256] 59)) from (((Below.refl _ _).alloc (by simp <;> omega) _).alloc (by simp <;> omega) _))
  have B_a : Box2 ((w.alloc (.cells #[.int .i64 0, .int .i64 256] 59)).alloc (.cells #[.int .i64 0, .int .i64 256] 59)) (w.heap.size) 0 256 := by have h := (Box2.alloc (Box2.new w 0 256) (.cells #[.int .i64 0, .int .i64 256] 59)); simpa using h
  replace B_a := Lib.hid B_a
  have B_b : Box2 ((w.alloc (.cells #[.int .i64 0, .int .i64 256] 59)).alloc (.cells #[.int .i64 0, .int .i64 256] 59)) (w.heap.size + 1) 0 256 := by have h := (Box2.new (w.alloc (.cells #[.int .i64 0, .int .i64 256] 59)) 0 256); simpa using h
  replace B_b := Lib.hid B_b
  go_enter Try.func50, Try.ntmps50
  go_wp2_with fail
  generalize (w.alloc (.cells #[.int .i64 0, .int .i64 256] 59)).alloc (.cells #[.int .i64 0, .int .i64 256] 59) = W0 at *
  have c0a := B_a.out.c0
  have c1a := B_a.out.c1
  have c0b := B_b.out.c0
  have c1b := B_b.out.c1
  refine (HV.out _).mono ?_
  clear c0a c1a c0b c1b
  rintro e w1 ⟨rfl, bb⟩
  replace bb := nextw (w0 := W0) (by exact ⟨rfl, rfl, rfl, Nat.le_refl _, fun _ _ => rfl⟩) bb
  replace B_a := Lib.hid (Box2.below B_a.out bb B_a.out.lt)
  replace B_b := Lib.hid (Box2.below B_b.out bb B_b.out.lt)
  replace HB := Lib.hid (nextw HB.out bb)
  clear bb
  have c0a := B_a.out.c0
  have c1a := B_a.out.c1
  have c0b := B_b.out.c0
  have c1b := B_b.out.c1
  go_wp2_with fail
  refine (HW.out _).mono ?_
  clear c0a c1a c0b c1b
  rintro e w2 ⟨rfl, bb⟩
  replace bb := nextw (w0 := w1) (by exact ⟨rfl, rfl, rfl, Nat.le_refl _, fun _ _ => rfl⟩) bb
  replace B_a := Lib.hid (Box2.below B_a.out bb B_a.out.lt)
  replace B_b := Lib.hid (Box2.below B_b.out bb B_b.out.lt)
  replace HB := Lib.hid (nextw HB.out bb)
  clear bb
  have c0a := B_a.out.c0
  have c1a := B_a.out.c1
  have c0b := B_b.out.c0
  have c1b := B_b.out.c1
  go_wp2_with fail
  refine (fullArc_any _).mono ?_
  clear c0a c1a c0b c1b
  rintro e w3 ⟨rfl, bb⟩
  replace bb := nextw (w0 := w2) (by exact ⟨rfl, rfl, rfl, Nat.le_refl _, fun _ _ => rfl⟩) bb
  replace B_a := Lib.hid (Box2.below B_a.out bb B_a.out.lt)
  replace B_b := Lib.hid (Box2.below B_b.out bb B_b.out.lt)
  replace HB := Lib.hid (nextw HB.out bb)
  clear bb
  have VR := Lib.hid (ar_one (Box2.new w3 0 256))
  go_wp2
  go_ret
  exact ⟨_, rfl, VR.out, nextw HB.out ((Below.refl _ _).alloc (Nat.le_refl _) _)⟩

set_option maxRecDepth 100000 in
set_option maxHeartbeats 4000000 in
theorem Meet_clt (f c g d : Int) (ha : OkA f c) (hb : OkA g d) (hc : (c == 256) = false) (ho : f < g)  (w : World) :
    Calls Try.prog 50 #[av f c, av g d] w fun e w' => ListedA (addAt f c g d (addAt f c g d [] f) g) w e w' := by
  have HV := Lib.hid (fun w => VA_yes ha w)
  have HW := Lib.hid (fun w => VA_yes hb w)
  have f0 := ha.f0
  have f1 := ha.f1
  have g0 := hb.f0
  have g1 := hb.f1
  have HM1 := Lib.hid (fun base v l hl w ho h => meetFrom_add base v l (f) (c) (g) (d) (f) ha hb hl (by omega) (by omega) w ho h)
  have HM2 := Lib.hid (fun base v l hl w ho h => meetFrom_add base v l (f) (c) (g) (d) (g) ha hb hl (by omega) (by omega) w ho h)
  clear ha hb
  have HB := Lib.hid (show Below w.heap.size w ((w.alloc (.cells #[.int .i64 f, .int .i64 c] 59)).alloc (.cells #[.int .i64 g, .int .i64 d] 59)) from (((Below.refl _ _).alloc (by simp <;> omega) _).alloc (by simp <;> omega) _))
  have B_a : Box2 ((w.alloc (.cells #[.int .i64 f, .int .i64 c] 59)).alloc (.cells #[.int .i64 g, .int .i64 d] 59)) (w.heap.size) f c := by have h := (Box2.alloc (Box2.new w f c) (.cells #[.int .i64 g, .int .i64 d] 59)); simpa using h
  replace B_a := Lib.hid B_a
  have B_b : Box2 ((w.alloc (.cells #[.int .i64 f, .int .i64 c] 59)).alloc (.cells #[.int .i64 g, .int .i64 d] 59)) (w.heap.size + 1) g d := by have h := (Box2.new (w.alloc (.cells #[.int .i64 f, .int .i64 c] 59)) g d); simpa using h
  replace B_b := Lib.hid B_b
  go_enter Try.func50, Try.ntmps50
  go_wp2_with fail
  generalize (w.alloc (.cells #[.int .i64 f, .int .i64 c] 59)).alloc (.cells #[.int .i64 g, .int .i64 d] 59) = W0 at *
  have c0a := B_a.out.c0
  have c1a := B_a.out.c1
  have c0b := B_b.out.c0
  have c1b := B_b.out.c1
  refine (HV.out _).mono ?_
  clear c0a c1a c0b c1b
  rintro e w1 ⟨rfl, bb⟩
  replace bb := nextw (w0 := W0) (by exact ⟨rfl, rfl, rfl, Nat.le_refl _, fun _ _ => rfl⟩) bb
  replace B_a := Lib.hid (Box2.below B_a.out bb B_a.out.lt)
  replace B_b := Lib.hid (Box2.below B_b.out bb B_b.out.lt)
  replace HB := Lib.hid (nextw HB.out bb)
  clear bb
  have c0a := B_a.out.c0
  have c1a := B_a.out.c1
  have c0b := B_b.out.c0
  have c1b := B_b.out.c1
  go_wp2_with fail
  refine (HW.out _).mono ?_
  clear c0a c1a c0b c1b
  rintro e w2 ⟨rfl, bb⟩
  replace bb := nextw (w0 := w1) (by exact ⟨rfl, rfl, rfl, Nat.le_refl _, fun _ _ => rfl⟩) bb
  replace B_a := Lib.hid (Box2.below B_a.out bb B_a.out.lt)
  replace B_b := Lib.hid (Box2.below B_b.out bb B_b.out.lt)
  replace HB := Lib.hid (nextw HB.out bb)
  clear bb
  have c0a := B_a.out.c0
  have c1a := B_a.out.c1
  have c0b := B_b.out.c0
  have c1b := B_b.out.c1
  go_upto_region 5 with (fail)
  go_quiet (fail)
  clear c0a c1a c0b c1b
  have bb : Below w2.heap.size w2 (w2.drewN nq) := bel_drewN (Below.refl _ _) _
  generalize w2.drewN nq = w3q at *
  replace B_a := Lib.hid (Box2.below B_a.out bb B_a.out.lt)
  replace B_b := Lib.hid (Box2.below B_b.out bb B_b.out.lt)
  replace HB := Lib.hid (nextw HB.out bb)
  clear bb
  have c0a := B_a.out.c0
  have c1a := B_a.out.c1
  have c0b := B_b.out.c0
  have c1b := B_b.out.c1
  go_wp2_with fail
  refine (HM1.out _ _ [] (by simp) _ (nil_rowA _ _) (Nat.le_refl _)).mono ?_
  clear c0a c1a c0b c1b
  rintro e wm ⟨v1, rfl, ho, bb⟩
  skip
  have hsz : Hid (w.heap.size ≤ w3q.heap.size) := HB.out.size
  have VR := Lib.hid ho
  have HS := Lib.hid bb.size
  clear ho
  replace B_a := Lib.hid (Box2.below B_a.out bb B_a.out.lt)
  replace B_b := Lib.hid (Box2.below B_b.out bb B_b.out.lt)
  replace HB := Lib.hid (nextw HB.out bb)
  clear bb
  have c0a := B_a.out.c0
  have c1a := B_a.out.c1
  have c0b := B_b.out.c0
  have c1b := B_b.out.c1
  have HLL : Hid ((addAt f c g d [] f).length ≤ 1000) := Nat.le_trans (addAt_le (n := 0) (by simp)) (by omega)
  go_wp2_with fail
  refine (HM2.out _ _ _ HLL.out _ VR.out HS.out).mono ?_
  clear c0a c1a c0b c1b
  rintro e wn ⟨v2, rfl, ho, bb⟩
  have VA := Lib.hid (ar_of_row ho rfl)
  have HF : Hid (Below w.heap.size w wn) := HB.out.trans (bb.mono hsz.out)
  clear ho bb
  go_wp2
  go_ret
  exact ⟨v2, rfl, VA.out.below (by exact ⟨rfl, rfl, rfl, Nat.le_refl _, fun _ _ => rfl⟩), nextw HF.out (by exact ⟨rfl, rfl, rfl, Nat.le_refl _, fun _ _ => rfl⟩)⟩

set_option maxRecDepth 100000 in
set_option maxHeartbeats 4000000 in
theorem Meet_cgt (f c g d : Int) (ha : OkA f c) (hb : OkA g d) (hc : (c == 256) = false) (ho : g < f)  (w : World) :
    Calls Try.prog 50 #[av f c, av g d] w fun e w' => ListedA (addAt f c g d (addAt f c g d [] g) f) w e w' := by
  have HV := Lib.hid (fun w => VA_yes ha w)
  have HW := Lib.hid (fun w => VA_yes hb w)
  have f0 := ha.f0
  have f1 := ha.f1
  have g0 := hb.f0
  have g1 := hb.f1
  have HM1 := Lib.hid (fun base v l hl w ho h => meetFrom_add base v l (f) (c) (g) (d) (g) ha hb hl (by omega) (by omega) w ho h)
  have HM2 := Lib.hid (fun base v l hl w ho h => meetFrom_add base v l (f) (c) (g) (d) (f) ha hb hl (by omega) (by omega) w ho h)
  clear ha hb
  have HB := Lib.hid (show Below w.heap.size w ((w.alloc (.cells #[.int .i64 f, .int .i64 c] 59)).alloc (.cells #[.int .i64 g, .int .i64 d] 59)) from (((Below.refl _ _).alloc (by simp <;> omega) _).alloc (by simp <;> omega) _))
  have B_a : Box2 ((w.alloc (.cells #[.int .i64 f, .int .i64 c] 59)).alloc (.cells #[.int .i64 g, .int .i64 d] 59)) (w.heap.size) f c := by have h := (Box2.alloc (Box2.new w f c) (.cells #[.int .i64 g, .int .i64 d] 59)); simpa using h
  replace B_a := Lib.hid B_a
  have B_b : Box2 ((w.alloc (.cells #[.int .i64 f, .int .i64 c] 59)).alloc (.cells #[.int .i64 g, .int .i64 d] 59)) (w.heap.size + 1) g d := by have h := (Box2.new (w.alloc (.cells #[.int .i64 f, .int .i64 c] 59)) g d); simpa using h
  replace B_b := Lib.hid B_b
  go_enter Try.func50, Try.ntmps50
  go_wp2_with fail
  generalize (w.alloc (.cells #[.int .i64 f, .int .i64 c] 59)).alloc (.cells #[.int .i64 g, .int .i64 d] 59) = W0 at *
  have c0a := B_a.out.c0
  have c1a := B_a.out.c1
  have c0b := B_b.out.c0
  have c1b := B_b.out.c1
  refine (HV.out _).mono ?_
  clear c0a c1a c0b c1b
  rintro e w1 ⟨rfl, bb⟩
  replace bb := nextw (w0 := W0) (by exact ⟨rfl, rfl, rfl, Nat.le_refl _, fun _ _ => rfl⟩) bb
  replace B_a := Lib.hid (Box2.below B_a.out bb B_a.out.lt)
  replace B_b := Lib.hid (Box2.below B_b.out bb B_b.out.lt)
  replace HB := Lib.hid (nextw HB.out bb)
  clear bb
  have c0a := B_a.out.c0
  have c1a := B_a.out.c1
  have c0b := B_b.out.c0
  have c1b := B_b.out.c1
  go_wp2_with fail
  refine (HW.out _).mono ?_
  clear c0a c1a c0b c1b
  rintro e w2 ⟨rfl, bb⟩
  replace bb := nextw (w0 := w1) (by exact ⟨rfl, rfl, rfl, Nat.le_refl _, fun _ _ => rfl⟩) bb
  replace B_a := Lib.hid (Box2.below B_a.out bb B_a.out.lt)
  replace B_b := Lib.hid (Box2.below B_b.out bb B_b.out.lt)
  replace HB := Lib.hid (nextw HB.out bb)
  clear bb
  have c0a := B_a.out.c0
  have c1a := B_a.out.c1
  have c0b := B_b.out.c0
  have c1b := B_b.out.c1
  go_upto_region 5 with (fail)
  go_quiet (fail)
  clear c0a c1a c0b c1b
  have bb : Below w2.heap.size w2 (w2.drewN nq) := bel_drewN (Below.refl _ _) _
  generalize w2.drewN nq = w3q at *
  replace B_a := Lib.hid (Box2.below B_a.out bb B_a.out.lt)
  replace B_b := Lib.hid (Box2.below B_b.out bb B_b.out.lt)
  replace HB := Lib.hid (nextw HB.out bb)
  clear bb
  have c0a := B_a.out.c0
  have c1a := B_a.out.c1
  have c0b := B_b.out.c0
  have c1b := B_b.out.c1
  go_wp2_with fail
  refine (HM1.out _ _ [] (by simp) _ (nil_rowA _ _) (Nat.le_refl _)).mono ?_
  clear c0a c1a c0b c1b
  rintro e wm ⟨v1, rfl, ho, bb⟩
  skip
  have hsz : Hid (w.heap.size ≤ w3q.heap.size) := HB.out.size
  have VR := Lib.hid ho
  have HS := Lib.hid bb.size
  clear ho
  replace B_a := Lib.hid (Box2.below B_a.out bb B_a.out.lt)
  replace B_b := Lib.hid (Box2.below B_b.out bb B_b.out.lt)
  replace HB := Lib.hid (nextw HB.out bb)
  clear bb
  have c0a := B_a.out.c0
  have c1a := B_a.out.c1
  have c0b := B_b.out.c0
  have c1b := B_b.out.c1
  have HLL : Hid ((addAt f c g d [] g).length ≤ 1000) := Nat.le_trans (addAt_le (n := 0) (by simp)) (by omega)
  go_wp2_with fail
  refine (HM2.out _ _ _ HLL.out _ VR.out HS.out).mono ?_
  clear c0a c1a c0b c1b
  rintro e wn ⟨v2, rfl, ho, bb⟩
  have VA := Lib.hid (ar_of_row ho rfl)
  have HF : Hid (Below w.heap.size w wn) := HB.out.trans (bb.mono hsz.out)
  clear ho bb
  go_wp2
  go_ret
  exact ⟨v2, rfl, VA.out.below (by exact ⟨rfl, rfl, rfl, Nat.le_refl _, fun _ _ => rfl⟩), nextw HF.out (by exact ⟨rfl, rfl, rfl, Nat.le_refl _, fun _ _ => rfl⟩)⟩

set_option maxRecDepth 100000 in
set_option maxHeartbeats 4000000 in
theorem Meet_ceq (f c d : Int) (ha : OkA f c) (hb : OkA f d) (hc : (c == 256) = false)  (w : World) :
    Calls Try.prog 50 #[av f c, av f d] w fun e w' => ListedA (addAt f c f d [] f) w e w' := by
  have HV := Lib.hid (fun w => VA_yes ha w)
  have HW := Lib.hid (fun w => VA_yes hb w)
  have f0 := ha.f0
  have f1 := ha.f1
  have g0 := hb.f0
  have g1 := hb.f1
  have HM1 := Lib.hid (fun base v l hl w ho h => meetFrom_add base v l (f) (c) (f) (d) (f) ha hb hl (by omega) (by omega) w ho h)
  have HM2 := Lib.hid (fun base v l hl w ho h => meetFrom_add base v l (f) (c) (f) (d) (f) ha hb hl (by omega) (by omega) w ho h)
  clear ha hb
  have HB := Lib.hid (show Below w.heap.size w ((w.alloc (.cells #[.int .i64 f, .int .i64 c] 59)).alloc (.cells #[.int .i64 f, .int .i64 d] 59)) from (((Below.refl _ _).alloc (by simp <;> omega) _).alloc (by simp <;> omega) _))
  have B_a : Box2 ((w.alloc (.cells #[.int .i64 f, .int .i64 c] 59)).alloc (.cells #[.int .i64 f, .int .i64 d] 59)) (w.heap.size) f c := by have h := (Box2.alloc (Box2.new w f c) (.cells #[.int .i64 f, .int .i64 d] 59)); simpa using h
  replace B_a := Lib.hid B_a
  have B_b : Box2 ((w.alloc (.cells #[.int .i64 f, .int .i64 c] 59)).alloc (.cells #[.int .i64 f, .int .i64 d] 59)) (w.heap.size + 1) f d := by have h := (Box2.new (w.alloc (.cells #[.int .i64 f, .int .i64 c] 59)) f d); simpa using h
  replace B_b := Lib.hid B_b
  go_enter Try.func50, Try.ntmps50
  go_wp2_with fail
  generalize (w.alloc (.cells #[.int .i64 f, .int .i64 c] 59)).alloc (.cells #[.int .i64 f, .int .i64 d] 59) = W0 at *
  have c0a := B_a.out.c0
  have c1a := B_a.out.c1
  have c0b := B_b.out.c0
  have c1b := B_b.out.c1
  refine (HV.out _).mono ?_
  clear c0a c1a c0b c1b
  rintro e w1 ⟨rfl, bb⟩
  replace bb := nextw (w0 := W0) (by exact ⟨rfl, rfl, rfl, Nat.le_refl _, fun _ _ => rfl⟩) bb
  replace B_a := Lib.hid (Box2.below B_a.out bb B_a.out.lt)
  replace B_b := Lib.hid (Box2.below B_b.out bb B_b.out.lt)
  replace HB := Lib.hid (nextw HB.out bb)
  clear bb
  have c0a := B_a.out.c0
  have c1a := B_a.out.c1
  have c0b := B_b.out.c0
  have c1b := B_b.out.c1
  go_wp2_with fail
  refine (HW.out _).mono ?_
  clear c0a c1a c0b c1b
  rintro e w2 ⟨rfl, bb⟩
  replace bb := nextw (w0 := w1) (by exact ⟨rfl, rfl, rfl, Nat.le_refl _, fun _ _ => rfl⟩) bb
  replace B_a := Lib.hid (Box2.below B_a.out bb B_a.out.lt)
  replace B_b := Lib.hid (Box2.below B_b.out bb B_b.out.lt)
  replace HB := Lib.hid (nextw HB.out bb)
  clear bb
  have c0a := B_a.out.c0
  have c1a := B_a.out.c1
  have c0b := B_b.out.c0
  have c1b := B_b.out.c1
  go_upto_region 5 with (fail)
  go_quiet (fail)
  clear c0a c1a c0b c1b
  have bb : Below w2.heap.size w2 (w2.drewN nq) := bel_drewN (Below.refl _ _) _
  generalize w2.drewN nq = w3q at *
  replace B_a := Lib.hid (Box2.below B_a.out bb B_a.out.lt)
  replace B_b := Lib.hid (Box2.below B_b.out bb B_b.out.lt)
  replace HB := Lib.hid (nextw HB.out bb)
  clear bb
  have c0a := B_a.out.c0
  have c1a := B_a.out.c1
  have c0b := B_b.out.c0
  have c1b := B_b.out.c1
  try simp only [Int.lt_irrefl, if_false, ite_self]
  go_wp2_with fail
  refine (HM1.out _ _ [] (by simp) _ (nil_rowA _ _) (Nat.le_refl _)).mono ?_
  clear c0a c1a c0b c1b
  rintro e wm ⟨v1, rfl, ho, bb⟩
  skip
  have hsz : Hid (w.heap.size ≤ w3q.heap.size) := HB.out.size
  have VR := Lib.hid ho
  have HS := Lib.hid bb.size
  clear ho
  replace B_a := Lib.hid (Box2.below B_a.out bb B_a.out.lt)
  replace B_b := Lib.hid (Box2.below B_b.out bb B_b.out.lt)
  replace HB := Lib.hid (nextw HB.out bb)
  clear bb
  have VA := Lib.hid (ar_of_row VR.out rfl)
  go_wp2
  go_ret
  exact ⟨v1, rfl, VA.out.below (by exact ⟨rfl, rfl, rfl, Nat.le_refl _, fun _ _ => rfl⟩), nextw HB.out (by exact ⟨rfl, rfl, rfl, Nat.le_refl _, fun _ _ => rfl⟩)⟩

set_option maxRecDepth 100000 in
set_option maxHeartbeats 4000000 in
theorem Meet_flt (g d : Int) (ha : OkA 0 256) (hb : OkA g d) (hd : (d == 256) = false) (ho : 0 < g)  (w : World) :
    Calls Try.prog 50 #[av 0 256, av g d] w fun e w' => ListedA (addAt 0 256 g d (addAt 0 256 g d [] 0) g) w e w' := by
  have HV := Lib.hid (fun w => VA_yes ha w)
  have HW := Lib.hid (fun w => VA_yes hb w)
  have f0 := ha.f0
  have f1 := ha.f1
  have g0 := hb.f0
  have g1 := hb.f1
  have HM1 := Lib.hid (fun base v l hl w ho h => meetFrom_add base v l (0) (256) (g) (d) (0) ha hb hl (by omega) (by omega) w ho h)
  have HM2 := Lib.hid (fun base v l hl w ho h => meetFrom_add base v l (0) (256) (g) (d) (g) ha hb hl (by omega) (by omega) w ho h)
  clear ha hb
  have HB := Lib.hid (show Below w.heap.size w ((w.alloc (.cells #[.int .i64 0, .int .i64 256] 59)).alloc (.cells #[.int .i64 g, .int .i64 d] 59)) from (((Below.refl _ _).alloc (by simp <;> omega) _).alloc (by simp <;> omega) _))
  have B_a : Box2 ((w.alloc (.cells #[.int .i64 0, .int .i64 256] 59)).alloc (.cells #[.int .i64 g, .int .i64 d] 59)) (w.heap.size) 0 256 := by have h := (Box2.alloc (Box2.new w 0 256) (.cells #[.int .i64 g, .int .i64 d] 59)); simpa using h
  replace B_a := Lib.hid B_a
  have B_b : Box2 ((w.alloc (.cells #[.int .i64 0, .int .i64 256] 59)).alloc (.cells #[.int .i64 g, .int .i64 d] 59)) (w.heap.size + 1) g d := by have h := (Box2.new (w.alloc (.cells #[.int .i64 0, .int .i64 256] 59)) g d); simpa using h
  replace B_b := Lib.hid B_b
  go_enter Try.func50, Try.ntmps50
  go_wp2_with fail
  generalize (w.alloc (.cells #[.int .i64 0, .int .i64 256] 59)).alloc (.cells #[.int .i64 g, .int .i64 d] 59) = W0 at *
  have c0a := B_a.out.c0
  have c1a := B_a.out.c1
  have c0b := B_b.out.c0
  have c1b := B_b.out.c1
  refine (HV.out _).mono ?_
  clear c0a c1a c0b c1b
  rintro e w1 ⟨rfl, bb⟩
  replace bb := nextw (w0 := W0) (by exact ⟨rfl, rfl, rfl, Nat.le_refl _, fun _ _ => rfl⟩) bb
  replace B_a := Lib.hid (Box2.below B_a.out bb B_a.out.lt)
  replace B_b := Lib.hid (Box2.below B_b.out bb B_b.out.lt)
  replace HB := Lib.hid (nextw HB.out bb)
  clear bb
  have c0a := B_a.out.c0
  have c1a := B_a.out.c1
  have c0b := B_b.out.c0
  have c1b := B_b.out.c1
  go_wp2_with fail
  refine (HW.out _).mono ?_
  clear c0a c1a c0b c1b
  rintro e w2 ⟨rfl, bb⟩
  replace bb := nextw (w0 := w1) (by exact ⟨rfl, rfl, rfl, Nat.le_refl _, fun _ _ => rfl⟩) bb
  replace B_a := Lib.hid (Box2.below B_a.out bb B_a.out.lt)
  replace B_b := Lib.hid (Box2.below B_b.out bb B_b.out.lt)
  replace HB := Lib.hid (nextw HB.out bb)
  clear bb
  have c0a := B_a.out.c0
  have c1a := B_a.out.c1
  have c0b := B_b.out.c0
  have c1b := B_b.out.c1
  go_upto_region 5 with (fail)
  go_quiet (fail)
  clear c0a c1a c0b c1b
  have bb : Below w2.heap.size w2 (w2.drewN nq) := bel_drewN (Below.refl _ _) _
  generalize w2.drewN nq = w3q at *
  replace B_a := Lib.hid (Box2.below B_a.out bb B_a.out.lt)
  replace B_b := Lib.hid (Box2.below B_b.out bb B_b.out.lt)
  replace HB := Lib.hid (nextw HB.out bb)
  clear bb
  have c0a := B_a.out.c0
  have c1a := B_a.out.c1
  have c0b := B_b.out.c0
  have c1b := B_b.out.c1
  go_wp2_with fail
  refine (HM1.out _ _ [] (by simp) _ (nil_rowA _ _) (Nat.le_refl _)).mono ?_
  clear c0a c1a c0b c1b
  rintro e wm ⟨v1, rfl, ho, bb⟩
  skip
  have hsz : Hid (w.heap.size ≤ w3q.heap.size) := HB.out.size
  have VR := Lib.hid ho
  have HS := Lib.hid bb.size
  clear ho
  replace B_a := Lib.hid (Box2.below B_a.out bb B_a.out.lt)
  replace B_b := Lib.hid (Box2.below B_b.out bb B_b.out.lt)
  replace HB := Lib.hid (nextw HB.out bb)
  clear bb
  have c0a := B_a.out.c0
  have c1a := B_a.out.c1
  have c0b := B_b.out.c0
  have c1b := B_b.out.c1
  have HLL : Hid ((addAt 0 256 g d [] 0).length ≤ 1000) := Nat.le_trans (addAt_le (n := 0) (by simp)) (by omega)
  go_wp2_with fail
  refine (HM2.out _ _ _ HLL.out _ VR.out HS.out).mono ?_
  clear c0a c1a c0b c1b
  rintro e wn ⟨v2, rfl, ho, bb⟩
  have VA := Lib.hid (ar_of_row ho rfl)
  have HF : Hid (Below w.heap.size w wn) := HB.out.trans (bb.mono hsz.out)
  clear ho bb
  go_wp2
  go_ret
  exact ⟨v2, rfl, VA.out.below (by exact ⟨rfl, rfl, rfl, Nat.le_refl _, fun _ _ => rfl⟩), nextw HF.out (by exact ⟨rfl, rfl, rfl, Nat.le_refl _, fun _ _ => rfl⟩)⟩

set_option maxRecDepth 100000 in
set_option maxHeartbeats 4000000 in
theorem Meet_feq (d : Int) (ha : OkA 0 256) (hb : OkA 0 d) (hd : (d == 256) = false)  (w : World) :
    Calls Try.prog 50 #[av 0 256, av 0 d] w fun e w' => ListedA (addAt 0 256 0 d [] 0) w e w' := by
  have HV := Lib.hid (fun w => VA_yes ha w)
  have HW := Lib.hid (fun w => VA_yes hb w)
  have f0 := ha.f0
  have f1 := ha.f1
  have g0 := hb.f0
  have g1 := hb.f1
  have HM1 := Lib.hid (fun base v l hl w ho h => meetFrom_add base v l (0) (256) (0) (d) (0) ha hb hl (by omega) (by omega) w ho h)
  have HM2 := Lib.hid (fun base v l hl w ho h => meetFrom_add base v l (0) (256) (0) (d) (0) ha hb hl (by omega) (by omega) w ho h)
  clear ha hb
  have HB := Lib.hid (show Below w.heap.size w ((w.alloc (.cells #[.int .i64 0, .int .i64 256] 59)).alloc (.cells #[.int .i64 0, .int .i64 d] 59)) from (((Below.refl _ _).alloc (by simp <;> omega) _).alloc (by simp <;> omega) _))
  have B_a : Box2 ((w.alloc (.cells #[.int .i64 0, .int .i64 256] 59)).alloc (.cells #[.int .i64 0, .int .i64 d] 59)) (w.heap.size) 0 256 := by have h := (Box2.alloc (Box2.new w 0 256) (.cells #[.int .i64 0, .int .i64 d] 59)); simpa using h
  replace B_a := Lib.hid B_a
  have B_b : Box2 ((w.alloc (.cells #[.int .i64 0, .int .i64 256] 59)).alloc (.cells #[.int .i64 0, .int .i64 d] 59)) (w.heap.size + 1) 0 d := by have h := (Box2.new (w.alloc (.cells #[.int .i64 0, .int .i64 256] 59)) 0 d); simpa using h
  replace B_b := Lib.hid B_b
  go_enter Try.func50, Try.ntmps50
  go_wp2_with fail
  generalize (w.alloc (.cells #[.int .i64 0, .int .i64 256] 59)).alloc (.cells #[.int .i64 0, .int .i64 d] 59) = W0 at *
  have c0a := B_a.out.c0
  have c1a := B_a.out.c1
  have c0b := B_b.out.c0
  have c1b := B_b.out.c1
  refine (HV.out _).mono ?_
  clear c0a c1a c0b c1b
  rintro e w1 ⟨rfl, bb⟩
  replace bb := nextw (w0 := W0) (by exact ⟨rfl, rfl, rfl, Nat.le_refl _, fun _ _ => rfl⟩) bb
  replace B_a := Lib.hid (Box2.below B_a.out bb B_a.out.lt)
  replace B_b := Lib.hid (Box2.below B_b.out bb B_b.out.lt)
  replace HB := Lib.hid (nextw HB.out bb)
  clear bb
  have c0a := B_a.out.c0
  have c1a := B_a.out.c1
  have c0b := B_b.out.c0
  have c1b := B_b.out.c1
  go_wp2_with fail
  refine (HW.out _).mono ?_
  clear c0a c1a c0b c1b
  rintro e w2 ⟨rfl, bb⟩
  replace bb := nextw (w0 := w1) (by exact ⟨rfl, rfl, rfl, Nat.le_refl _, fun _ _ => rfl⟩) bb
  replace B_a := Lib.hid (Box2.below B_a.out bb B_a.out.lt)
  replace B_b := Lib.hid (Box2.below B_b.out bb B_b.out.lt)
  replace HB := Lib.hid (nextw HB.out bb)
  clear bb
  have c0a := B_a.out.c0
  have c1a := B_a.out.c1
  have c0b := B_b.out.c0
  have c1b := B_b.out.c1
  go_upto_region 5 with (fail)
  go_quiet (fail)
  clear c0a c1a c0b c1b
  have bb : Below w2.heap.size w2 (w2.drewN nq) := bel_drewN (Below.refl _ _) _
  generalize w2.drewN nq = w3q at *
  replace B_a := Lib.hid (Box2.below B_a.out bb B_a.out.lt)
  replace B_b := Lib.hid (Box2.below B_b.out bb B_b.out.lt)
  replace HB := Lib.hid (nextw HB.out bb)
  clear bb
  have c0a := B_a.out.c0
  have c1a := B_a.out.c1
  have c0b := B_b.out.c0
  have c1b := B_b.out.c1
  try simp only [Int.lt_irrefl, if_false, ite_self]
  go_wp2_with fail
  refine (HM1.out _ _ [] (by simp) _ (nil_rowA _ _) (Nat.le_refl _)).mono ?_
  clear c0a c1a c0b c1b
  rintro e wm ⟨v1, rfl, ho, bb⟩
  skip
  have hsz : Hid (w.heap.size ≤ w3q.heap.size) := HB.out.size
  have VR := Lib.hid ho
  have HS := Lib.hid bb.size
  clear ho
  replace B_a := Lib.hid (Box2.below B_a.out bb B_a.out.lt)
  replace B_b := Lib.hid (Box2.below B_b.out bb B_b.out.lt)
  replace HB := Lib.hid (nextw HB.out bb)
  clear bb
  have VA := Lib.hid (ar_of_row VR.out rfl)
  go_wp2
  go_ret
  exact ⟨v1, rfl, VA.out.below (by exact ⟨rfl, rfl, rfl, Nat.le_refl _, fun _ _ => rfl⟩), nextw HB.out (by exact ⟨rfl, rfl, rfl, Nat.le_refl _, fun _ _ => rfl⟩)⟩
end Go.Proofs.Ytjpdahalplkfbaa
