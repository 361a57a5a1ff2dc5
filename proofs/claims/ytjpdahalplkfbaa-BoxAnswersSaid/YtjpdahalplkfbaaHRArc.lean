/- wayfinderbase.Arc; the reference's ValidArc, List. -/
import Derived.Test.YtjpdahalplkfbaaHList
namespace Go.Proofs.Ytjpdahalplkfbaa
open Go Go.RowKit Hd

set_option maxRecDepth 100000 in
set_option maxHeartbeats 1000000 in
theorem BA_full  (w : World) :
    Calls Try.prog 48 #[av 0 256] w fun e w' => e = .returned (.bool true) ∧ Below w.heap.size w w' := by
  have HB := Lib.hid (show Below w.heap.size w (w.alloc (.cells #[.int .i64 0, .int .i64 256] 59)) from ((Below.refl _ _).alloc (by simp <;> omega) _))
  have B_a : Box2 (w.alloc (.cells #[.int .i64 0, .int .i64 256] 59)) (w.heap.size) 0 256 := by have h := (Box2.new w 0 256); simpa using h
  replace B_a := Lib.hid B_a
  go_enter Try.func48, Try.ntmps48
  go_wp2_with fail
  generalize w.alloc (.cells #[.int .i64 0, .int .i64 256] 59) = W0 at *
  have c0a := B_a.out.c0
  have c1a := B_a.out.c1
  go_wp2
  go_ret
  exact ⟨rfl, nextw HB.out (by exact ⟨rfl, rfl, rfl, Nat.le_refl _, fun _ _ => rfl⟩)⟩

set_option maxRecDepth 100000 in
set_option maxHeartbeats 1000000 in
theorem BA_part (f c : Int) (h1 : 0 ≤ f) (h2 : f < 256) (h3 : 1 ≤ c) (h4 : c < 256) (w : World) :
    Calls Try.prog 48 #[av f c] w fun e w' => e = .returned (.bool true) ∧ Below w.heap.size w w' := by
  have HB := Lib.hid (show Below w.heap.size w (w.alloc (.cells #[.int .i64 f, .int .i64 c] 59)) from ((Below.refl _ _).alloc (by simp <;> omega) _))
  have B_a : Box2 (w.alloc (.cells #[.int .i64 f, .int .i64 c] 59)) (w.heap.size) f c := by have h := (Box2.new w f c); simpa using h
  replace B_a := Lib.hid B_a
  go_enter Try.func48, Try.ntmps48
  go_wp2_with fail
  generalize w.alloc (.cells #[.int .i64 f, .int .i64 c] 59) = W0 at *
  have c0a := B_a.out.c0
  have c1a := B_a.out.c1
  go_wp2
  go_ret
  exact ⟨rfl, nextw HB.out (by exact ⟨rfl, rfl, rfl, Nat.le_refl _, fun _ _ => rfl⟩)⟩

set_option maxRecDepth 100000 in
set_option maxHeartbeats 1000000 in
theorem BA_n1 (f c : Int) (h1 : f < 0) (w : World) :
    Calls Try.prog 48 #[av f c] w fun e w' => e = .returned (.bool false) ∧ Below w.heap.size w w' := by
  have HB := Lib.hid (show Below w.heap.size w (w.alloc (.cells #[.int .i64 f, .int .i64 c] 59)) from ((Below.refl _ _).alloc (by simp <;> omega) _))
  have B_a : Box2 (w.alloc (.cells #[.int .i64 f, .int .i64 c] 59)) (w.heap.size) f c := by have h := (Box2.new w f c); simpa using h
  replace B_a := Lib.hid B_a
  go_enter Try.func48, Try.ntmps48
  go_wp2_with fail
  generalize w.alloc (.cells #[.int .i64 f, .int .i64 c] 59) = W0 at *
  have c0a := B_a.out.c0
  have c1a := B_a.out.c1
  go_wp2
  go_ret
  exact ⟨rfl, nextw HB.out (by exact ⟨rfl, rfl, rfl, Nat.le_refl _, fun _ _ => rfl⟩)⟩

set_option maxRecDepth 100000 in
set_option maxHeartbeats 1000000 in
theorem BA_n2 (f c : Int) (h1 : 0 ≤ f) (h2 : 256 ≤ f) (w : World) :
    Calls Try.prog 48 #[av f c] w fun e w' => e = .returned (.bool false) ∧ Below w.heap.size w w' := by
  have hz : decide (f < 256) = false := decide_eq_false (by omega)
  have HB := Lib.hid (show Below w.heap.size w (w.alloc (.cells #[.int .i64 f, .int .i64 c] 59)) from ((Below.refl _ _).alloc (by simp <;> omega) _))
  have B_a : Box2 (w.alloc (.cells #[.int .i64 f, .int .i64 c] 59)) (w.heap.size) f c := by have h := (Box2.new w f c); simpa using h
  replace B_a := Lib.hid B_a
  go_enter Try.func48, Try.ntmps48
  go_wp2_with fail
  generalize w.alloc (.cells #[.int .i64 f, .int .i64 c] 59) = W0 at *
  have c0a := B_a.out.c0
  have c1a := B_a.out.c1
  go_wp2
  go_ret
  exact ⟨rfl, nextw HB.out (by exact ⟨rfl, rfl, rfl, Nat.le_refl _, fun _ _ => rfl⟩)⟩

set_option maxRecDepth 100000 in
set_option maxHeartbeats 1000000 in
theorem BA_n3 (f c : Int) (h1 : 0 ≤ f) (h2 : f < 256) (h3 : c < 1) (w : World) :
    Calls Try.prog 48 #[av f c] w fun e w' => e = .returned (.bool false) ∧ Below w.heap.size w w' := by
  have hz : decide (1 ≤ c) = false := decide_eq_false (by omega)
  have HB := Lib.hid (show Below w.heap.size w (w.alloc (.cells #[.int .i64 f, .int .i64 c] 59)) from ((Below.refl _ _).alloc (by simp <;> omega) _))
  have B_a : Box2 (w.alloc (.cells #[.int .i64 f, .int .i64 c] 59)) (w.heap.size) f c := by have h := (Box2.new w f c); simpa using h
  replace B_a := Lib.hid B_a
  go_enter Try.func48, Try.ntmps48
  go_wp2_with fail
  generalize w.alloc (.cells #[.int .i64 f, .int .i64 c] 59) = W0 at *
  have c0a := B_a.out.c0
  have c1a := B_a.out.c1
  go_wp2
  go_ret
  exact ⟨rfl, nextw HB.out (by exact ⟨rfl, rfl, rfl, Nat.le_refl _, fun _ _ => rfl⟩)⟩

set_option maxRecDepth 100000 in
set_option maxHeartbeats 1000000 in
theorem BA_n4 (f c : Int) (h1 : 0 ≤ f) (h2 : f < 256) (h3 : 1 ≤ c) (h4 : 256 < c) (w : World) :
    Calls Try.prog 48 #[av f c] w fun e w' => e = .returned (.bool false) ∧ Below w.heap.size w w' := by
  have hz : decide (c ≤ 256) = false := decide_eq_false (by omega)
  have HB := Lib.hid (show Below w.heap.size w (w.alloc (.cells #[.int .i64 f, .int .i64 c] 59)) from ((Below.refl _ _).alloc (by simp <;> omega) _))
  have B_a : Box2 (w.alloc (.cells #[.int .i64 f, .int .i64 c] 59)) (w.heap.size) f c := by have h := (Box2.new w f c); simpa using h
  replace B_a := Lib.hid B_a
  go_enter Try.func48, Try.ntmps48
  go_wp2_with fail
  generalize w.alloc (.cells #[.int .i64 f, .int .i64 c] 59) = W0 at *
  have c0a := B_a.out.c0
  have c1a := B_a.out.c1
  go_wp2
  go_ret
  exact ⟨rfl, nextw HB.out (by exact ⟨rfl, rfl, rfl, Nat.le_refl _, fun _ _ => rfl⟩)⟩

set_option maxRecDepth 100000 in
set_option maxHeartbeats 1000000 in
theorem BA_n5 (f : Int) (h1 : 0 ≤ f) (h2 : f < 256) (h3 : (f == 0) = false) (w : World) :
    Calls Try.prog 48 #[av f 256] w fun e w' => e = .returned (.bool false) ∧ Below w.heap.size w w' := by
  have HB := Lib.hid (show Below w.heap.size w (w.alloc (.cells #[.int .i64 f, .int .i64 256] 59)) from ((Below.refl _ _).alloc (by simp <;> omega) _))
  have B_a : Box2 (w.alloc (.cells #[.int .i64 f, .int .i64 256] 59)) (w.heap.size) f 256 := by have h := (Box2.new w f 256); simpa using h
  replace B_a := Lib.hid B_a
  go_enter Try.func48, Try.ntmps48
  go_wp2_with fail
  generalize w.alloc (.cells #[.int .i64 f, .int .i64 256] 59) = W0 at *
  have c0a := B_a.out.c0
  have c1a := B_a.out.c1
  go_wp2
  go_ret
  exact ⟨rfl, nextw HB.out (by exact ⟨rfl, rfl, rfl, Nat.le_refl _, fun _ _ => rfl⟩)⟩

theorem BA_yes {f c : Int} (h : OkA f c) (w : World) :
    Calls Try.prog 48 #[av f c] w fun e w' => e = .returned (.bool true) ∧ Below w.heap.size w w' := by
  unfold OkA at h
  by_cases hc : c = 256
  · obtain rfl : f = 0 := by omega
    subst hc; exact BA_full w
  · exact BA_part f c (by omega) (by omega) (by omega) (by omega) w
theorem BA_no {f c : Int} (h : ¬ OkA f c) (w : World) :
    Calls Try.prog 48 #[av f c] w fun e w' => e = .returned (.bool false) ∧ Below w.heap.size w w' := by
  unfold OkA at h
  by_cases h1 : f < 0
  · exact BA_n1 f c h1 w
  by_cases h2 : 256 ≤ f
  · exact BA_n2 f c (by omega) h2 w
  by_cases h3 : c < 1
  · exact BA_n3 f c (by omega) (by omega) h3 w
  by_cases h4 : 256 < c
  · exact BA_n4 f c (by omega) (by omega) (by omega) h4 w
  · obtain rfl : c = 256 := by omega
    exact BA_n5 f (by omega) (by omega) (by simp; omega) w

set_option maxRecDepth 100000 in
set_option maxHeartbeats 1000000 in
theorem RVA_yes {f c : Int} (h : OkA f c) (w : World) :
    Calls Try.prog 61 #[av f c] w fun e w' => e = .returned (.bool true) ∧ Below w.heap.size w w' := by
  have HV := Lib.hid (fun w => BA_yes h w)
  clear h
  have HB := Lib.hid (show Below w.heap.size w (w.alloc (.cells #[.int .i64 f, .int .i64 c] 59)) from ((Below.refl _ _).alloc (by simp <;> omega) _))
  have B_a : Box2 (w.alloc (.cells #[.int .i64 f, .int .i64 c] 59)) (w.heap.size) f c := by have h := (Box2.new w f c); simpa using h
  replace B_a := Lib.hid B_a
  go_enter Try.func61, Try.ntmps61
  go_wp2_with fail
  generalize w.alloc (.cells #[.int .i64 f, .int .i64 c] 59) = W0 at *
  have c0a := B_a.out.c0
  have c1a := B_a.out.c1
  refine (HV.out _).mono ?_
  clear c0a c1a
  rintro e w1 ⟨rfl, bb⟩
  replace bb := nextw (w0 := W0) (by exact ⟨rfl, rfl, rfl, Nat.le_refl _, fun _ _ => rfl⟩) bb
  replace B_a := Lib.hid (Box2.below B_a.out bb B_a.out.lt)
  replace HB := Lib.hid (nextw HB.out bb)
  clear bb
  go_wp2
  go_ret
  exact ⟨rfl, nextw HB.out (by exact ⟨rfl, rfl, rfl, Nat.le_refl _, fun _ _ => rfl⟩)⟩

set_option maxRecDepth 100000 in
set_option maxHeartbeats 1000000 in
theorem RVA_no {f c : Int} (h : ¬ OkA f c) (w : World) :
    Calls Try.prog 61 #[av f c] w fun e w' => e = .returned (.bool false) ∧ Below w.heap.size w w' := by
  have HV := Lib.hid (fun w => BA_no h w)
  clear h
  have HB := Lib.hid (show Below w.heap.size w (w.alloc (.cells #[.int .i64 f, .int .i64 c] 59)) from ((Below.refl _ _).alloc (by simp <;> omega) _))
  have B_a : Box2 (w.alloc (.cells #[.int .i64 f, .int .i64 c] 59)) (w.heap.size) f c := by have h := (Box2.new w f c); simpa using h
  replace B_a := Lib.hid B_a
  go_enter Try.func61, Try.ntmps61
  go_wp2_with fail
  generalize w.alloc (.cells #[.int .i64 f, .int .i64 c] 59) = W0 at *
  have c0a := B_a.out.c0
  have c1a := B_a.out.c1
  refine (HV.out _).mono ?_
  clear c0a c1a
  rintro e w1 ⟨rfl, bb⟩
  replace bb := nextw (w0 := W0) (by exact ⟨rfl, rfl, rfl, Nat.le_refl _, fun _ _ => rfl⟩) bb
  replace B_a := Lib.hid (Box2.below B_a.out bb B_a.out.lt)
  replace HB := Lib.hid (nextw HB.out bb)
  clear bb
  go_wp2
  go_ret
  exact ⟨rfl, nextw HB.out (by exact ⟨rfl, rfl, rfl, Nat.le_refl _, fun _ _ => rfl⟩)⟩

set_option maxRecDepth 100000 in
set_option maxHeartbeats 1000000 in
theorem RList_bad (f c : Int) (hn : ¬ OkA f c) (w : World) :
    Calls Try.prog 71 #[av f c] w fun e w' => e = .returned (.slice none 0 0) ∧ Below w.heap.size w w' := by
  have HV := Lib.hid (fun w => RVA_no hn w)
  clear hn
  have HB := Lib.hid (show Below w.heap.size w (w.alloc (.cells #[.int .i64 f, .int .i64 c] 59)) from ((Below.refl _ _).alloc (by simp <;> omega) _))
  have B_a : Box2 (w.alloc (.cells #[.int .i64 f, .int .i64 c] 59)) (w.heap.size) f c := by have h := (Box2.new w f c); simpa using h
  replace B_a := Lib.hid B_a
  go_enter Try.func71, Try.ntmps71
  go_wp2_with fail
  generalize w.alloc (.cells #[.int .i64 f, .int .i64 c] 59) = W0 at *
  have c0a := B_a.out.c0
  have c1a := B_a.out.c1
  refine (HV.out _).mono ?_
  clear c0a c1a
  rintro e w1 ⟨rfl, bb⟩
  replace bb := nextw (w0 := W0) (by exact ⟨rfl, rfl, rfl, Nat.le_refl _, fun _ _ => rfl⟩) bb
  replace B_a := Lib.hid (Box2.below B_a.out bb B_a.out.lt)
  replace HB := Lib.hid (nextw HB.out bb)
  clear bb
  go_wp2
  go_ret
  exact ⟨rfl, nextw HB.out (by exact ⟨rfl, rfl, rfl, Nat.le_refl _, fun _ _ => rfl⟩)⟩

/-- The slice value v reads as the ints l. -/
def RI (w : World) (v : Value) (l : List Int) : Prop := ∃ (A : Option Addr) (cap : Nat), v = .slice A l.length cap ∧ l.length ≤ maxLen ∧ (l ≠ [] → ∃ g off, A = some ⟨g, off, none⟩ ∧ g < w.heap.size ∧ ∀ i, i < l.length → w.cell? ⟨g, off + i, none⟩ = some (.int .i64 (l.getD i 0)))
theorem RI.below {w w' : World} {v : Value} {l : List Int} (h : RI w v l) (hb : Below w.heap.size w w') : RI w' v l := by
  obtain ⟨A, cap, rfl, hm, hh⟩ := h
  refine ⟨A, cap, rfl, hm, fun hne => ?_⟩
  obtain ⟨g, off, rfl, hg, hc⟩ := hh hne
  exact ⟨g, off, rfl, Nat.lt_of_lt_of_le hg hb.size, fun i hi => (hb.cell (p := ⟨g, off + i, none⟩) hg).trans (hc i hi)⟩
theorem OwnI.ri {w : World} {g : Nat} {l : List Int} (h : OwnI w g l) (hm : l.length ≤ maxLen) : RI w (.slice (some ⟨g, 0, none⟩) l.length l.length) l :=
  ⟨_, _, rfl, hm, fun _ => ⟨g, 0, rfl, h.lt, fun i hi => by rw [Nat.zero_add]; exact h.cell hi⟩⟩
theorem ri_of_row {w : World} {base n : Nat} {v : Value} {l : List Int} (h : w.ownsRow base 3 1 v n (is l)) (hn : n = l.length) (hm : l.length ≤ maxLen) : RI w v l := by
  subst hn
  rcases h.2 with ⟨rfl, h0⟩ | ⟨g, cap, cur, rfl, hg, hh, hnc, hcm, hcs, htake⟩
  · obtain rfl := List.eq_nil_of_length_eq_zero h0
    exact ⟨none, 0, rfl, hm, fun h => absurd rfl h⟩
  · refine ⟨_, cap, rfl, hm, fun _ => ⟨g, 0, rfl, ?_, fun i hi => ?_⟩⟩
    · rcases Nat.lt_or_ge g w.heap.size with h1 | h1
      · exact h1
      · rw [Array.getElem?_eq_none h1] at hh; cases hh
    · have e : (is l)[i]? = some (.int .i64 (l.getD i 0)) := by rw [is_getElem?]; simp [hi]
      have e2 : cur.toList[i]? = some (.int .i64 (l.getD i 0)) := by
        rw [← htake, Nat.mul_one, List.getElem?_take, if_pos hi] at e
        exact e
      rw [Nat.zero_add, cell_of_row w g i _ _ (0, 0) hh, ← Array.getElem?_toList]
      exact e2
/-- A list of ints. -/
def ListedR (l : List Int) (w : World) (e : Ending) (w' : World) : Prop := ∃ v, e = .returned v ∧ RI w' v l ∧ Below w.heap.size w w'
theorem new_int (w : World) (r : Int) : ∀ j u, [Value.int .i64 r][j]? = some u → (w.alloc (.cells #[.int .i64 r] 3)).cell? ((⟨w.heap.size, 0, none⟩ : Addr).add j) = some u := by
  intro j u hu
  match j, hu with
  | 0, hu =>
    rw [Addr.add]
    simp only [if_pos, World.cell?_alloc_new]
    exact hu
theorem marks_succ (f : Int) (k : Nat) : is (marks f k) ++ [.int .i64 ((f + k) % 256)] = is (marks f (k + 1)) := by simp [marks, is, List.range_succ]
theorem nil_row (w : World) (base : Nat) (f : Int) : w.ownsRow base 3 1 (.slice none 0 0) 0 (is (marks f 0)) := ⟨by simp [marks, is], .inl ⟨rfl, rfl⟩⟩

set_option maxRecDepth 100000 in
set_option maxHeartbeats 4000000 in
theorem RList_ok (f c : Int) (hv : OkA f c) (w : World) :
    Calls Try.prog 71 #[av f c] w fun e w' => ListedR (marks f c.toNat) w e w' := by
  have HV := Lib.hid (fun w => RVA_yes hv w)
  obtain ⟨n, hn⟩ : ∃ n : Nat, c = n := ⟨c.toNat, by have := hv.c0; omega⟩
  subst hn
  have b0 := hv.c0
  have b1 := hv.c1
  have g0 := hv.f0
  have g1 := hv.f1
  have HP : Hid (marks f (n : Int).toNat = marks f n) := by unfold Hid; rw [Int.toNat_natCast]
  rw [HP.out]
  have HML := Lib.hid (marks_length f n)
  clear hv HP
  obtain ⟨i0, hi, hz0, hz1, hz2⟩ := info_parts infoI
  have HI := Lib.hid hi
  clear hi
  have HB := Lib.hid (show Below w.heap.size w (w.alloc (.cells #[.int .i64 f, .int .i64 (n : Int)] 59)) from ((Below.refl _ _).alloc (by simp <;> omega) _))
  have B_a : Box2 (w.alloc (.cells #[.int .i64 f, .int .i64 (n : Int)] 59)) (w.heap.size) f (n : Int) := by have h := (Box2.new w f (n : Int)); simpa using h
  replace B_a := Lib.hid B_a
  go_enter Try.func71, Try.ntmps71
  go_wp2_with fail
  generalize w.alloc (.cells #[.int .i64 f, .int .i64 (n : Int)] 59) = W0 at *
  have c0a := B_a.out.c0
  have c1a := B_a.out.c1
  refine (HV.out _).mono ?_
  clear c0a c1a
  rintro e w1 ⟨rfl, bb⟩
  replace bb := nextw (w0 := W0) (by exact ⟨rfl, rfl, rfl, Nat.le_refl _, fun _ _ => rfl⟩) bb
  replace B_a := Lib.hid (Box2.below B_a.out bb B_a.out.lt)
  replace HB := Lib.hid (nextw HB.out bb)
  clear bb
  clear HV
  have HS : Hid (w.heap.size + 1 ≤ w1.heap.size) := B_a.out.lt
  go_wp2_with fail
  go_loopw [3, 4] (fun v i wr => ∃ k : Nat, k ≤ n ∧ i = .int .i64 k ∧ Hid (wr.ownsRow (w.heap.size + 1) 3 1 v k (is (marks f k))) ∧ Hid (w.heap.size + 1 ≤ wr.heap.size) ∧ Hid (Box2 wr w.heap.size f n) ∧ Hid (Below w.heap.size w wr)) (fun _ i _ => n - (intOf i).toNat)
  case atStart => exact ⟨0, by omega, rfl, nil_row _ _ f, HS, B_a, HB⟩
  case round =>
    clear HS B_a HB
    skip
    obtain ⟨k, hk, rfl, hrow, hs, ba, hb⟩ := hrel
    have c0a := ba.out.c0
    have c1a := ba.out.c1
    by_cases hlt : k < n
    · have hb2 := fun w3 (hg : (wr.alloc (.cells #[.int .i64 ((f + k) % 256)] 3)).grownBy w3 u3.ownBlock) => ((Below.refl (w.heap.size + 1) wr).alloc hs.out (.cells #[.int .i64 ((f + k) % 256)] 3)).grown hg (by have := hs.out; simp; omega) (fun j hj => (hrow.out.lt j hj).1)
      have HB2 := Lib.hid hb2
      clear hb2
      go_wp2_with ((at_builtin; refine wpList_append_own _ rfl _ _ 83 rfl (w.heap.size + 1) 3 i0 (.int .i64 0) 1 8 Try.underlying83 HI.out hz0 hz1 hz2 rfl (by decide) u3 k (is (marks f k)) rfl (hrow.out.alloc _) ⟨wr.heap.size, 0, none⟩ 1 1 [.int .i64 ((f + k) % 256)] rfl rfl (new_int wr _) (by intro u hu; simp at hu; subst hu; rfl) (by simp only [maxLen]; omega) (by omega) (by have := hs.out; simp; omega) ?_; intro v3 w3 hown3 hgrow3 hnil3; have HX := Lib.hid hown3; have HY := Lib.hid (HB2.out _ hgrow3); clear hown3 hgrow3 hnil3))
      have HR : Hid (w3.ownsRow (w.heap.size + 1) 3 1 v3 (k + 1) (is (marks f (k + 1)))) := by have h := HX.out; rw [marks_succ] at h; exact h
      have HS2 : Hid (w.heap.size + 1 ≤ w3.heap.size) := Nat.le_trans hs.out HY.out.size
      have HA2 := Lib.hid (Box2.below ba.out HY.out (by omega))
      have HB3 : Hid (Below w.heap.size w w3) := hb.out.trans (HY.out.mono (by omega))
      go_roundw
      case rel => exact ⟨k + 1, by omega, by go_num, HR, HS2, HA2, HB3⟩
      case measure => simp only [intOf]; omega
    · obtain rfl : k = n := by omega
      have HR := Lib.hid (ri_of_row hrow.out HML.out.symm (by rw [HML.out]; simp only [maxLen]; omega))
      go_wp2
      go_ret
      exact ⟨_, rfl, HR.out, hb.out⟩
end Go.Proofs.Ytjpdahalplkfbaa
