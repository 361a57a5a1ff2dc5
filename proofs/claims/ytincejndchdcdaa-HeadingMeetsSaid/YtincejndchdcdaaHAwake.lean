/- The laws' awake. -/
import Derived.Test.YtincejndchdcdaaHHull2
namespace Go.Proofs.Ytincejndchdcdaa
open Go Go.RowKit Hd

theorem mk_ok {x y d : Int} (h : 1 ≤ d ∧ d ≤ 67108864 ∧ x * x + y * y = d * d) : Ok ⟨x, y, d⟩ := ⟨h.1, h.2.1, h.2.2⟩
theorem mk_oka {f c : Int} (h : 0 ≤ f ∧ f < 256 ∧ 1 ≤ c ∧ c < 256) : OkA f c := .inr h
theorem ok345 : Ok ⟨3, 4, 5⟩ := mk_ok (by decide)
theorem ok435 : Ok ⟨4, 3, 5⟩ := mk_ok (by decide)
theorem Turn_at {a b L : V3} (ha : Ok a) (hb : Ok b) (h : prod a b = L) (hm : L.d ≤ 67108864) (w : World) :
    Calls Try.prog 24 #[vv a, vv b] w fun e w' => e = .returned (.tuple #[vv L, .int .i64 0]) ∧ Below w.heap.size w w' := by
  subst h; exact Turn_ok a b ha hb hm w
theorem prod345 : prod ⟨3, 4, 5⟩ ⟨3, 4, 5⟩ = ⟨-7, 24, 25⟩ := V3.eq (by decide +kernel) (by decide +kernel) (by decide +kernel)
theorem dir96 : dir 96 = ⟨-4, 3, 5⟩ := V3.eq (by decide +kernel) (by decide +kernel) (by decide +kernel)
theorem Dir_at {h : Int} {v : V3} (e : dir h = v) (w : World) :
    Calls Try.prog 14 #[.int .i64 h] w fun e w' => e = .returned (vv v) ∧ Below w.heap.size w w' := e ▸ Dir_any h w
/-- In the first quadrant the floor is plain. -/
theorem floor_first {v : V3} {h : Int} (h1 : 0 < v.x) (h2 : 0 ≤ v.y) (hf : FloorAt v h) : h = 64 * v.y / (v.x + v.d) := by
  obtain ⟨n, u, hn, rfl, hu, u1, u2, rfl⟩ := hf
  obtain rfl | rfl | rfl | rfl : n = 0 ∨ n = 1 ∨ n = 2 ∨ n = 3 := by omega
  · show (64 : Int) * ((0 : Nat) : Int) + _ = _; simp [rots]
  · exfalso; change 0 < -u.y at h1; omega
  · exfalso; change 0 < -u.x at h1; omega
  · exfalso; change 0 ≤ -u.x at h2; omega
theorem Floor_435 (w : World) :
    Calls Try.prog 29 #[vv ⟨4, 3, 5⟩] w fun e w' => e = .returned (.tuple #[.int .i64 21, .int .i64 0]) ∧ Below w.heap.size w w' :=
  (Floor_ok ⟨4, 3, 5⟩ ok435 w).mono fun e w' ⟨h, he, hf, hb⟩ => by
    have := floor_first (by decide) (by decide) hf
    have e2 : h = 21 := this.trans (by decide)
    rw [e2] at he
    exact ⟨he, hb⟩
theorem Delta_at {a b d : Int} (h : delta a b = d) (w : World) :
    Calls Try.prog 18 #[.int .i64 a, .int .i64 b] w fun e w' => e = .returned (.int .i64 d) ∧ Below w.heap.size w w' := h ▸ (Delta_any a b w).mono fun _ _ h => ⟨h.1, h.2 ▸ Below.refl _ _⟩
theorem Has_at {f c h : Int} {b : Bool} (hv : OkA f c) (e : hasB f c h = b) (w : World) :
    Calls Try.prog 32 #[av f c, .int .i64 h] w fun e w' => e = .returned (.bool b) ∧ Below w.heap.size w w' := e ▸ Has_ok f c h hv w
theorem Grow_at {f c n f' c' : Int} (hv : OkA f c) (hn : 0 ≤ n) (hn2 : n ≤ 256) (hc : c + 2 * n < 256) (h1 : (f - n) % 256 = f') (h2 : c + 2 * n = c') (w : World) :
    Calls Try.prog 38 #[av f c, .int .i64 n] w fun e w' => e = .returned (.tuple #[av f' c', .int .i64 0]) ∧ Below w.heap.size w w' := h1 ▸ h2 ▸ Grow_part f c n hv hn hn2 hc w
theorem Hull_at {f c g d f' c' : Int} (ha : OkA f c) (hb : OkA g d) (h1 : hullF f c g d = f') (h2 : hullC f c g d = c') (w : World) :
    Calls Try.prog 41 #[av f c, av g d] w fun e w' => e = .returned (.tuple #[av f' c', .int .i64 0]) ∧ Below w.heap.size w w' := h1 ▸ h2 ▸ Hull_ok f c g d ha hb w
def ListedN (n : Nat) (w : World) (e : Ending) (w' : World) : Prop := ∃ g : Nat, e = .returned (.slice (some ⟨g, 0, none⟩) n n) ∧ Below w.heap.size w w'
theorem List_11 (w : World) : Calls Try.prog 35 #[av 254 11] w (ListedN 11 w) :=
  (List_ok 254 11 (mk_oka (by decide)) w).mono fun e w' ⟨g, he, _, _, hb⟩ => ⟨g, by rw [marks_length] at he; exact he, hb⟩

set_option maxRecDepth 100000 in
set_option maxHeartbeats 1000000 in
theorem awake_any  (w : World) :
    Calls Try.prog 13 #[] w fun e w' => e = .returned (.bool true) ∧ Below w.heap.size w w' := by
  have HT := Lib.hid (fun w => Turn_at ok345 ok345 prod345 (by decide) w)
  have HF := Lib.hid (fun w => Floor_435 w)
  have HG := Lib.hid (fun w => Grow_at (f := 2) (c := 3) (n := 4) (f' := 254) (c' := 11) (mk_oka (by decide)) (by decide) (by decide) (by decide) (by decide) (by decide) w)
  have HU := Lib.hid (fun w => Hull_at (f := 250) (c := 2) (g := 4) (d := 1) (f' := 250) (c' := 11) (mk_oka (by decide)) (mk_oka (by decide)) (by decide +kernel) (by decide +kernel) w)
  have HD := Lib.hid (fun w => Dir_at dir96 w)
  have HDe := Lib.hid (fun w => Delta_at (a := 250) (b := 3) (d := 9) (by decide) w)
  have HH := Lib.hid (fun w => Has_at (f := 254) (c := 3) (h := 256) (b := true) (mk_oka (by decide)) (by decide) w)
  have HL := Lib.hid (fun w => List_11 w)
  have HB := Lib.hid (Below.refl w.heap.size w)
  go_enter Try.func13, Try.ntmps13
  go_wp2_with fail
  refine (HT.out _).mono ?_
  rintro e w1 ⟨rfl, bb⟩
  replace bb := nextw (w0 := w) (by exact ⟨rfl, rfl, rfl, Nat.le_refl _, fun _ _ => rfl⟩) bb
  replace HB := Lib.hid (nextw HB.out bb)
  clear bb
  have B_v := Lib.hid (Box3.new w1 (-7) 24 25)
  replace HB := Lib.hid (nextw HB.out ((Below.refl w1.heap.size w1).alloc (Nat.le_refl _) (.cells #[.int .i64 (-7), .int .i64 24, .int .i64 25] 24)))
  go_upto_region 2 with (fail)
  generalize w1.alloc (.cells #[.int .i64 (-7), .int .i64 24, .int .i64 25] 24) = W1 at *
  go_wp2_with fail
  refine (HF.out _).mono ?_
  rintro e w2 ⟨rfl, bb⟩
  replace bb := nextw (w0 := W1) (by exact ⟨rfl, rfl, rfl, Nat.le_refl _, fun _ _ => rfl⟩) bb
  replace B_v := Lib.hid (Box3.below B_v.out bb B_v.out.lt)
  replace HB := Lib.hid (nextw HB.out bb)
  clear bb
  go_wp2_with fail
  refine (HG.out _).mono ?_
  rintro e w3 ⟨rfl, bb⟩
  replace bb := nextw (w0 := w2) (by exact ⟨rfl, rfl, rfl, Nat.le_refl _, fun _ _ => rfl⟩) bb
  replace B_v := Lib.hid (Box3.below B_v.out bb B_v.out.lt)
  replace HB := Lib.hid (nextw HB.out bb)
  clear bb
  have lt_gv := B_v.out.lt
  have B_g := Lib.hid (Box2.new w3 254 11)
  replace B_v := Lib.hid (Box3.alloc B_v.out (.cells #[.int .i64 254, .int .i64 11] 43))
  replace HB := Lib.hid (nextw HB.out ((Below.refl w3.heap.size w3).alloc (Nat.le_refl _) (.cells #[.int .i64 254, .int .i64 11] 43)))
  go_upto_region 4 with (fail)
  generalize w3.alloc (.cells #[.int .i64 254, .int .i64 11] 43) = W2 at *
  go_wp2_with fail
  refine (HU.out _).mono ?_
  rintro e w4 ⟨rfl, bb⟩
  replace bb := nextw (w0 := W2) (by exact ⟨rfl, rfl, rfl, Nat.le_refl _, fun _ _ => rfl⟩) bb
  replace B_v := Lib.hid (Box3.below B_v.out bb B_v.out.lt)
  replace B_g := Lib.hid (Box2.below B_g.out bb B_g.out.lt)
  replace HB := Lib.hid (nextw HB.out bb)
  clear bb
  have lt_uv := B_v.out.lt
  have lt_ug := B_g.out.lt
  have B_u := Lib.hid (Box2.new w4 250 11)
  replace B_v := Lib.hid (Box3.alloc B_v.out (.cells #[.int .i64 250, .int .i64 11] 43))
  replace B_g := Lib.hid (Box2.alloc B_g.out (.cells #[.int .i64 250, .int .i64 11] 43))
  replace HB := Lib.hid (nextw HB.out ((Below.refl w4.heap.size w4).alloc (Nat.le_refl _) (.cells #[.int .i64 250, .int .i64 11] 43)))
  go_upto_region 5 with (fail)
  generalize w4.alloc (.cells #[.int .i64 250, .int .i64 11] 43) = W3 at *
  go_wp2_with fail
  refine (HD.out _).mono ?_
  rintro e w5 ⟨rfl, bb⟩
  replace bb := nextw (w0 := W3) (by exact ⟨rfl, rfl, rfl, Nat.le_refl _, fun _ _ => rfl⟩) bb
  replace B_v := Lib.hid (Box3.below B_v.out bb B_v.out.lt)
  replace B_g := Lib.hid (Box2.below B_g.out bb B_g.out.lt)
  replace B_u := Lib.hid (Box2.below B_u.out bb B_u.out.lt)
  replace HB := Lib.hid (nextw HB.out bb)
  clear bb
  have c0v := B_v.out.c0
  have c1v := B_v.out.c1
  have c2v := B_v.out.c2
  have c0g := B_g.out.c0
  have c1g := B_g.out.c1
  have c0u := B_u.out.c0
  have c1u := B_u.out.c1
  go_wp2_with fail
  refine (HDe.out _).mono ?_
  clear c0v c1v c2v c0g c1g c0u c1u
  rintro e w6 ⟨rfl, bb⟩
  replace bb := nextw (w0 := w5) (by exact ⟨rfl, rfl, rfl, Nat.le_refl _, fun _ _ => rfl⟩) bb
  replace B_v := Lib.hid (Box3.below B_v.out bb B_v.out.lt)
  replace B_g := Lib.hid (Box2.below B_g.out bb B_g.out.lt)
  replace B_u := Lib.hid (Box2.below B_u.out bb B_u.out.lt)
  replace HB := Lib.hid (nextw HB.out bb)
  clear bb
  have c0v := B_v.out.c0
  have c1v := B_v.out.c1
  have c2v := B_v.out.c2
  have c0g := B_g.out.c0
  have c1g := B_g.out.c1
  have c0u := B_u.out.c0
  have c1u := B_u.out.c1
  go_wp2_with fail
  refine (HH.out _).mono ?_
  clear c0v c1v c2v c0g c1g c0u c1u
  rintro e w7 ⟨rfl, bb⟩
  replace bb := nextw (w0 := w6) (by exact ⟨rfl, rfl, rfl, Nat.le_refl _, fun _ _ => rfl⟩) bb
  replace B_v := Lib.hid (Box3.below B_v.out bb B_v.out.lt)
  replace B_g := Lib.hid (Box2.below B_g.out bb B_g.out.lt)
  replace B_u := Lib.hid (Box2.below B_u.out bb B_u.out.lt)
  replace HB := Lib.hid (nextw HB.out bb)
  clear bb
  have c0v := B_v.out.c0
  have c1v := B_v.out.c1
  have c2v := B_v.out.c2
  have c0g := B_g.out.c0
  have c1g := B_g.out.c1
  have c0u := B_u.out.c0
  have c1u := B_u.out.c1
  go_wp2_with fail
  refine (HL.out _).mono ?_
  rintro e w99 ⟨ge, rfl, bb⟩
  replace bb := nextw (w0 := w7) (by exact ⟨rfl, rfl, rfl, Nat.le_refl _, fun _ _ => rfl⟩) bb
  replace HB := Lib.hid (nextw HB.out bb)
  clear bb
  clear c0v c1v c2v c0g c1g c0u c1u
  go_wp2
  go_ret
  exact ⟨rfl, HB.out⟩
end Go.Proofs.Ytincejndchdcdaa
