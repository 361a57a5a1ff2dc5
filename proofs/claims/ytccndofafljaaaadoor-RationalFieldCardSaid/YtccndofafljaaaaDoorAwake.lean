/- The laws' 'awake': true. -/
import Derived.Test.YtccndofafljaaaaDoorAwk1

set_option linter.unusedVariables false
set_option linter.unusedSimpArgs false

namespace Go.Proofs.YtccndofafljaaaaDoor
open Go Go.RowKit Num

/-- Behind a store into a variable of the type Int that lies from B on, what lies below B is as it was. -/
theorem kept2 {w w1 : World} {x : Nat} (h : Below w.heap.size w w1) (hx : w.heap.size ≤ x) (u v : Value) : Below w.heap.size w ((w1.setCell ⟨x, 0, none⟩ u).setCell ⟨x, 1, none⟩ v) := Below.store h hx u v

theorem Gcd_12 (v1 v2 : Value) (w : World) (h1 : Can w v1 (-12)) (h2 : Can w v2 18) :
    Calls Tryd.prog 34 #[v1, v2] w fun e w' => ∃ v, e = .returned v ∧ Can w' v 6 ∧ Below w.heap.size w w' :=
  Gcd_can v1 v2 (-12) 18 w h1 h2 (by decide) (by decide)
theorem Bits_8 (v : Value) (w : World) (h : Can w v (-8)) :
    Calls Tryd.prog 35 #[v] w fun e w' => e = .returned (.int .i64 4) ∧ Below w.heap.size w w' := by
  have c := Bits_can v (-8) w h (fits_small (by decide))
  have e : ((blen (-8 : Int).natAbs : Nat) : Int) = 4 := by decide +kernel
  rw [e] at c
  exact c

set_option maxRecDepth 100000 in
set_option maxHeartbeats 8000000 in
theorem awake_any (w : World) (htab : Tab10 w) :
    Calls Tryd.prog 6 #[] w fun e w' => e = .returned (.bool true) ∧ Below w.heap.size w w' := by
  have HT := Lib.hid htab
  clear htab
  go_enter Tryd.func6, Tryd.ntmps6
  go_wp2_with fail
  refine (Of_any (-7) _ (by omega) (by omega)).mono ?_
  rintro e w1 ⟨v1, rfl, h1, b1⟩
  go_wp2_with fail
  refine (Of_any 2 _ (by omega) (by omega)).mono ?_
  rintro e w2 ⟨v2, rfl, h2, b2⟩
  go_wp2_with fail
  refine (DivMod_can v1 v2 (-7) 2 _ (h1.below b2) h2 (fits_small (by decide)) (fits_small (by decide)) (by decide)).mono ?_
  rintro e w3 ⟨q, r, rfl, hq, hr, b3⟩
  rw [show (-7 : Int) / 2 = -4 from by decide] at hq
  rw [show (-7 : Int) % 2 = 1 from by decide] at hr
  obtain ⟨sq, Aq, kq, cq, rfl⟩ := hq.shape
  obtain ⟨sr, Ar, kr, cr, rfl⟩ := hr.shape
  have hb : Below w.heap.size w w3 := nextw (nextw b1 b2) b3
  have HQ := Lib.hid hq
  have HR := Lib.hid hr
  have HB := Lib.hid hb
  clear hq hr hb h1 h2 b1 b2 b3
  have bX := (Box.new w3 sq (.slice Aq kq cq)).alloc (.cells #[.bool sr, (.slice Ar kr cr)] 24)
  have bY := Box.new (w3.alloc (.cells #[.bool sq, (.slice Aq kq cq)] 24)) sr (.slice Ar kr cr)
  rw [World.size_alloc] at bY
  have hb4 : Below w3.heap.size w3 ((w3.alloc (.cells #[.bool sq, (.slice Aq kq cq)] 24)).alloc (.cells #[.bool sr, (.slice Ar kr cr)] 24)) := ((Below.refl _ _).alloc (Nat.le_refl _) _).alloc (by simp) _
  have cX0 := bX.c0
  have cX1 := bX.c1
  have cY0 := bY.c0
  have cY1 := bY.c1
  have hsz : ((w3.alloc (.cells #[.bool sq, (.slice Aq kq cq)] 24)).alloc (.cells #[.bool sr, (.slice Ar kr cr)] 24)).heap.size = w3.heap.size + 1 + 1 := by simp
  have HX := Lib.hid bX
  have HY := Lib.hid bY
  have HB4 := Lib.hid hb4
  have HSZ := Lib.hid hsz
  clear bX bY hb4 hsz
  go_wp2_with fail
  generalize (w3.alloc (.cells #[.bool sq, (.slice Aq kq cq)] 24)).alloc (.cells #[.bool sr, (.slice Ar kr cr)] 24) = W at *
  have HXQ := Lib.hid (HQ.out.below HB4.out)
  have HXR := Lib.hid (HR.out.below HB4.out)
  have HW3 := Lib.hid (nextw HB.out HB4.out)
  have HT3 := Lib.hid (tab_below HT.out HW3.out)
  have c := DivMod_lit (.agg #[.bool sq, .slice Aq kq cq]) (-4) W _ HSZ.out HXQ.out (fits_small (by decide))
  clear HT HB4 HB HQ HR cX0 cX1 cY0 cY1
  refine c.mono ?_
  rintro e w4 ⟨rfl, b4⟩
  have HB5 := Lib.hid b4
  have HSZ0 := HSZ
  clear c b4
  have bX := (Box.new w4 false (.slice none 0 0)).alloc (.cells #[.bool false, (.slice none 0 0)] 24)
  have bY := Box.new (w4.alloc (.cells #[.bool false, (.slice none 0 0)] 24)) false (.slice none 0 0)
  rw [World.size_alloc] at bY
  have hb4 : Below w4.heap.size w4 ((w4.alloc (.cells #[.bool false, (.slice none 0 0)] 24)).alloc (.cells #[.bool false, (.slice none 0 0)] 24)) := ((Below.refl _ _).alloc (Nat.le_refl _) _).alloc (by simp) _
  have cX0 := bX.c0
  have cX1 := bX.c1
  have cY0 := bY.c0
  have cY1 := bY.c1
  have hsz : ((w4.alloc (.cells #[.bool false, (.slice none 0 0)] 24)).alloc (.cells #[.bool false, (.slice none 0 0)] 24)).heap.size = w4.heap.size + 1 + 1 := by simp
  have HX := Lib.hid bX
  have HY := Lib.hid bY
  have HB4 := Lib.hid hb4
  have HSZ := Lib.hid hsz
  clear bX bY hb4 hsz
  go_wp2_with fail
  generalize (w4.alloc (.cells #[.bool false, (.slice none 0 0)] 24)).alloc (.cells #[.bool false, (.slice none 0 0)] 24) = V at *
  have HB6 := Lib.hid (nextw HB5.out HB4.out)
  have c := Small_lit V _ HSZ.out
  clear HB4 HB5 HX HY cX0 cX1 cY0 cY1
  refine c.mono ?_
  rintro e w5 ⟨rfl, b5⟩
  have HB7 := Lib.hid (nextw HB6.out b5)
  clear c b5 HB6
  go_wp2_with fail
  refine (Of_any 24 _ (by omega) (by omega)).mono ?_
  rintro e w6 ⟨v6, rfl, h6, b6⟩
  go_wp2_with fail
  refine (Sqrt_can v6 24 4 _ h6 (by omega) ⟨by omega, by omega⟩).mono ?_
  rintro e w7 ⟨v7, rfl, h7, b7⟩
  obtain ⟨s9, A9, k9, c9, rfl⟩ := h7.shape
  have b9 := Box.new w7 s9 (.slice A9 k9 c9)
  have hb7 := (nextw (nextw HB7.out b6) b7)
  have HB8 := Lib.hid (nextw hb7 ((Below.refl _ _).alloc (Nat.le_refl _) (.cells #[.bool s9, .slice A9 k9 c9] 24)))
  have H9 := Lib.hid (h7.below ((Below.refl _ _).alloc (Nat.le_refl _) (.cells #[.bool s9, .slice A9 k9 c9] 24)))
  clear h6 b6 b7 h7 HB7 hb7
  go_wp2_with fail
  refine (Parse_minus_zero _).mono ?_
  rintro e w8 ⟨rfl, b8⟩
  have b9' := (Box.below b9 b8 (by simp))
  have b11 := Box.new w8 false (.slice none 0 0)
  have HB9 := Lib.hid (nextw HB8.out b8)
  have H9' := Lib.hid (H9.out.below b8)
  clear b9 b8 HB8 H9
  go_wp2_with fail
  have hbw : Below W.heap.size W (w8.alloc (.cells #[.bool false, (.slice none 0 0)] 24)) := nextw HB9.out ((Below.refl _ _).alloc (Nat.le_refl _) _)
  have bX := Box.below HX.out hbw HX.out.lt
  have bY := Box.below HY.out hbw HY.out.lt
  have bN := b9'.alloc (.cells #[.bool false, (.slice none 0 0)] 24)
  have bE := b11
  have HQ0 := Lib.hid (HXQ.out.below hbw)
  have HR0 := Lib.hid (HXR.out.below hbw)
  have HX9 : Hid (Can (w8.alloc (.cells #[.bool false, (.slice none 0 0)] 24)) (.agg #[.bool s9, .slice A9 k9 c9]) 4) := H9'.out.below ((Below.refl _ _).alloc (Nat.le_refl _) _)
  have HT0 := Lib.hid (tab_below HT3.out hbw)
  have HBW := Lib.hid (nextw HW3.out hbw)
  clear HX HY HXQ HXR H9' HT3 HB9 b9' b11 hbw HW3
  generalize w8.alloc (.cells #[.bool false, (.slice none 0 0)] 24) = W0 at *
  have HXQ := HQ0
  have HXR := HR0
  have cX0 := bX.c0
  have cX1 := bX.c1
  have cY0 := bY.c0
  have cY1 := bY.c1
  have cN0 := bN.c0
  have cN1 := bN.c1
  have cE1 := bE.c1
  have zX := bX.lt
  have zY := bY.lt
  have zN := bN.lt
  have zE := bE.lt
  have hbx : Below W0.heap.size W0 W0 := Below.refl _ _
  go_region_held3 (fun w' => w'.cell? ⟨w3.heap.size, 0, none⟩ = some (.bool sq) ∧ w'.cell? ⟨w3.heap.size, 1, none⟩ = some (.slice Aq kq cq) ∧ w'.cell? ⟨w3.heap.size + 1, 0, none⟩ = some (.bool sr) ∧ w'.cell? ⟨w3.heap.size + 1, 1, none⟩ = some (.slice Ar kr cr) ∧ w'.cell? ⟨w7.heap.size, 0, none⟩ = some (.bool s9) ∧ w'.cell? ⟨w7.heap.size, 1, none⟩ = some (.slice A9 k9 c9) ∧ w'.cell? ⟨w8.heap.size, 1, none⟩ = some (.slice none 0 0)) (((try dsimp only); (repeat' apply And.intro) <;> (first | assumption | go_keep | (exact (World.cell?_alloc_lt _ _ _ (by assumption)).trans (by assumption)))))
    (first
      | (go_at_call 33; have hGG := hG; refine (ROf_any _ _ (by omega) (by omega)).mono ?_; rintro e wN ⟨vR, rfl, hR, hbN⟩; have hG7 := Can.below hG (nextw (by exact ⟨rfl, rfl, rfl, Nat.le_refl _, fun _ _ => rfl⟩) hbN); have hbx : Below W0.heap.size W0 wN := nextw (by first | exact hbx | exact ⟨rfl, rfl, rfl, Nat.le_refl _, fun _ _ => rfl⟩ | exact ⟨hbx.os, hbx.tape, hbx.output, hbx.size, hbx.block⟩) hbN; have cX0 := (Box.below bX hbx bX.lt).c0; have cX1 := (Box.below bX hbx bX.lt).c1; have cY0 := (Box.below bY hbx bY.lt).c0; have cY1 := (Box.below bY hbx bY.lt).c1; have cN0 := (Box.below bN hbx bN.lt).c0; have cN1 := (Box.below bN hbx bN.lt).c1; have cE1 := (Box.below bE hbx bE.lt).c1; have zX := Nat.lt_of_lt_of_le bX.lt hbx.size; have zY := Nat.lt_of_lt_of_le bY.lt hbx.size; have zN := Nat.lt_of_lt_of_le bN.lt hbx.size; have zE := Nat.lt_of_lt_of_le bE.lt hbx.size)
      | (go_at_call 33; refine (ROf_any _ _ (by omega) (by omega)).mono ?_; rintro e wN ⟨vR, rfl, hR, hbN⟩; have hbx : Below W0.heap.size W0 wN := nextw (by first | exact hbx | exact ⟨rfl, rfl, rfl, Nat.le_refl _, fun _ _ => rfl⟩ | exact ⟨hbx.os, hbx.tape, hbx.output, hbx.size, hbx.block⟩) hbN; have cX0 := (Box.below bX hbx bX.lt).c0; have cX1 := (Box.below bX hbx bX.lt).c1; have cY0 := (Box.below bY hbx bY.lt).c0; have cY1 := (Box.below bY hbx bY.lt).c1; have cN0 := (Box.below bN hbx bN.lt).c0; have cN1 := (Box.below bN hbx bN.lt).c1; have cE1 := (Box.below bE hbx bE.lt).c1; have zX := Nat.lt_of_lt_of_le bX.lt hbx.size; have zY := Nat.lt_of_lt_of_le bY.lt hbx.size; have zN := Nat.lt_of_lt_of_le bN.lt hbx.size; have zE := Nat.lt_of_lt_of_le bE.lt hbx.size)
      | (go_at_call_of 9 (Value.agg #[.bool sq, .slice Aq kq cq]); refine (Same_yes (.agg #[.bool sq, .slice Aq kq cq]) vR (-4) _ (Can.below HXQ.out (by first | exact hbx | exact ⟨rfl, rfl, rfl, Nat.le_refl _, fun _ _ => rfl⟩ | exact ⟨hbx.os, hbx.tape, hbx.output, hbx.size, hbx.block⟩)) (Can.below hR (by exact ⟨rfl, rfl, rfl, Nat.le_refl _, fun _ _ => rfl⟩)) (fits_small (by decide))).mono ?_; rintro e wN ⟨rfl, hbN⟩; have hbx : Below W0.heap.size W0 wN := nextw (by first | exact hbx | exact ⟨rfl, rfl, rfl, Nat.le_refl _, fun _ _ => rfl⟩ | exact ⟨hbx.os, hbx.tape, hbx.output, hbx.size, hbx.block⟩) hbN; have cX0 := (Box.below bX hbx bX.lt).c0; have cX1 := (Box.below bX hbx bX.lt).c1; have cY0 := (Box.below bY hbx bY.lt).c0; have cY1 := (Box.below bY hbx bY.lt).c1; have cN0 := (Box.below bN hbx bN.lt).c0; have cN1 := (Box.below bN hbx bN.lt).c1; have cE1 := (Box.below bE hbx bE.lt).c1; have zX := Nat.lt_of_lt_of_le bX.lt hbx.size; have zY := Nat.lt_of_lt_of_le bY.lt hbx.size; have zN := Nat.lt_of_lt_of_le bN.lt hbx.size; have zE := Nat.lt_of_lt_of_le bE.lt hbx.size)
      | (go_at_call_of 9 (Value.agg #[.bool sr, .slice Ar kr cr]); refine (Same_yes (.agg #[.bool sr, .slice Ar kr cr]) vR 1 _ (Can.below HXR.out (by first | exact hbx | exact ⟨rfl, rfl, rfl, Nat.le_refl _, fun _ _ => rfl⟩ | exact ⟨hbx.os, hbx.tape, hbx.output, hbx.size, hbx.block⟩)) (Can.below hR (by exact ⟨rfl, rfl, rfl, Nat.le_refl _, fun _ _ => rfl⟩)) (fits_small (by decide))).mono ?_; rintro e wN ⟨rfl, hbN⟩; have hbx : Below W0.heap.size W0 wN := nextw (by first | exact hbx | exact ⟨rfl, rfl, rfl, Nat.le_refl _, fun _ _ => rfl⟩ | exact ⟨hbx.os, hbx.tape, hbx.output, hbx.size, hbx.block⟩) hbN; have cX0 := (Box.below bX hbx bX.lt).c0; have cX1 := (Box.below bX hbx bX.lt).c1; have cY0 := (Box.below bY hbx bY.lt).c0; have cY1 := (Box.below bY hbx bY.lt).c1; have cN0 := (Box.below bN hbx bN.lt).c0; have cN1 := (Box.below bN hbx bN.lt).c1; have cE1 := (Box.below bE hbx bE.lt).c1; have zX := Nat.lt_of_lt_of_le bX.lt hbx.size; have zY := Nat.lt_of_lt_of_le bY.lt hbx.size; have zN := Nat.lt_of_lt_of_le bN.lt hbx.size; have zE := Nat.lt_of_lt_of_le bE.lt hbx.size)
      | (go_at_call_of 9 (Value.agg #[.bool s9, .slice A9 k9 c9]); refine (Same_yes (.agg #[.bool s9, .slice A9 k9 c9]) vR 4 _ (Can.below HX9.out (by first | exact hbx | exact ⟨rfl, rfl, rfl, Nat.le_refl _, fun _ _ => rfl⟩ | exact ⟨hbx.os, hbx.tape, hbx.output, hbx.size, hbx.block⟩)) (Can.below hR (by exact ⟨rfl, rfl, rfl, Nat.le_refl _, fun _ _ => rfl⟩)) (fits_small (by decide))).mono ?_; rintro e wN ⟨rfl, hbN⟩; have hbx : Below W0.heap.size W0 wN := nextw (by first | exact hbx | exact ⟨rfl, rfl, rfl, Nat.le_refl _, fun _ _ => rfl⟩ | exact ⟨hbx.os, hbx.tape, hbx.output, hbx.size, hbx.block⟩) hbN; have cX0 := (Box.below bX hbx bX.lt).c0; have cX1 := (Box.below bX hbx bX.lt).c1; have cY0 := (Box.below bY hbx bY.lt).c0; have cY1 := (Box.below bY hbx bY.lt).c1; have cN0 := (Box.below bN hbx bN.lt).c0; have cN1 := (Box.below bN hbx bN.lt).c1; have cE1 := (Box.below bE hbx bE.lt).c1; have zX := Nat.lt_of_lt_of_le bX.lt hbx.size; have zY := Nat.lt_of_lt_of_le bY.lt hbx.size; have zN := Nat.lt_of_lt_of_le bN.lt hbx.size; have zE := Nat.lt_of_lt_of_le bE.lt hbx.size)
      | (go_at_call_of 9 vG; refine (Same_yes vG vR 6 _ (Can.below hG7 (by exact ⟨rfl, rfl, rfl, Nat.le_refl _, fun _ _ => rfl⟩)) (Can.below hR (by exact ⟨rfl, rfl, rfl, Nat.le_refl _, fun _ _ => rfl⟩)) (fits_small (by decide))).mono ?_; rintro e wN ⟨rfl, hbN⟩; have hbx : Below W0.heap.size W0 wN := nextw (by first | exact hbx | exact ⟨rfl, rfl, rfl, Nat.le_refl _, fun _ _ => rfl⟩ | exact ⟨hbx.os, hbx.tape, hbx.output, hbx.size, hbx.block⟩) hbN; have cX0 := (Box.below bX hbx bX.lt).c0; have cX1 := (Box.below bX hbx bX.lt).c1; have cY0 := (Box.below bY hbx bY.lt).c0; have cY1 := (Box.below bY hbx bY.lt).c1; have cN0 := (Box.below bN hbx bN.lt).c0; have cN1 := (Box.below bN hbx bN.lt).c1; have cE1 := (Box.below bE hbx bE.lt).c1; have zX := Nat.lt_of_lt_of_le bX.lt hbx.size; have zY := Nat.lt_of_lt_of_le bY.lt hbx.size; have zN := Nat.lt_of_lt_of_le bN.lt hbx.size; have zE := Nat.lt_of_lt_of_le bE.lt hbx.size)
      | (go_at_call 13; refine (Text_lit _ (tab_below HT0.out (by first | exact hbx | exact ⟨rfl, rfl, rfl, Nat.le_refl _, fun _ _ => rfl⟩ | exact ⟨hbx.os, hbx.tape, hbx.output, hbx.size, hbx.block⟩)) _ rfl).mono ?_; rintro e wN ⟨rfl, hbN⟩; have hbx : Below W0.heap.size W0 wN := nextw (by first | exact hbx | exact ⟨rfl, rfl, rfl, Nat.le_refl _, fun _ _ => rfl⟩ | exact ⟨hbx.os, hbx.tape, hbx.output, hbx.size, hbx.block⟩) hbN; have cX0 := (Box.below bX hbx bX.lt).c0; have cX1 := (Box.below bX hbx bX.lt).c1; have cY0 := (Box.below bY hbx bY.lt).c0; have cY1 := (Box.below bY hbx bY.lt).c1; have cN0 := (Box.below bN hbx bN.lt).c0; have cN1 := (Box.below bN hbx bN.lt).c1; have cE1 := (Box.below bE hbx bE.lt).c1; have zX := Nat.lt_of_lt_of_le bX.lt hbx.size; have zY := Nat.lt_of_lt_of_le bY.lt hbx.size; have zN := Nat.lt_of_lt_of_le bN.lt hbx.size; have zE := Nat.lt_of_lt_of_le bE.lt hbx.size)
      | (go_at_call 29; have hGG := h18; refine (Of_any _ _ (by omega) (by omega)).mono ?_; rintro e wN ⟨v8, rfl, h8, hbN⟩; have hbx : Below W0.heap.size W0 wN := nextw (by first | exact hbx | exact ⟨rfl, rfl, rfl, Nat.le_refl _, fun _ _ => rfl⟩ | exact ⟨hbx.os, hbx.tape, hbx.output, hbx.size, hbx.block⟩) hbN; have cX0 := (Box.below bX hbx bX.lt).c0; have cX1 := (Box.below bX hbx bX.lt).c1; have cY0 := (Box.below bY hbx bY.lt).c0; have cY1 := (Box.below bY hbx bY.lt).c1; have cN0 := (Box.below bN hbx bN.lt).c0; have cN1 := (Box.below bN hbx bN.lt).c1; have cE1 := (Box.below bE hbx bE.lt).c1; have zX := Nat.lt_of_lt_of_le bX.lt hbx.size; have zY := Nat.lt_of_lt_of_le bY.lt hbx.size; have zN := Nat.lt_of_lt_of_le bN.lt hbx.size; have zE := Nat.lt_of_lt_of_le bE.lt hbx.size)
      | (go_at_call 29; have hGG := h12; refine (Of_any _ _ (by omega) (by omega)).mono ?_; rintro e wN ⟨v18, rfl, h18, hbN⟩; have h12' := Can.below h12 (nextw (by exact ⟨rfl, rfl, rfl, Nat.le_refl _, fun _ _ => rfl⟩) hbN); have hbx : Below W0.heap.size W0 wN := nextw (by first | exact hbx | exact ⟨rfl, rfl, rfl, Nat.le_refl _, fun _ _ => rfl⟩ | exact ⟨hbx.os, hbx.tape, hbx.output, hbx.size, hbx.block⟩) hbN; have cX0 := (Box.below bX hbx bX.lt).c0; have cX1 := (Box.below bX hbx bX.lt).c1; have cY0 := (Box.below bY hbx bY.lt).c0; have cY1 := (Box.below bY hbx bY.lt).c1; have cN0 := (Box.below bN hbx bN.lt).c0; have cN1 := (Box.below bN hbx bN.lt).c1; have cE1 := (Box.below bE hbx bE.lt).c1; have zX := Nat.lt_of_lt_of_le bX.lt hbx.size; have zY := Nat.lt_of_lt_of_le bY.lt hbx.size; have zN := Nat.lt_of_lt_of_le bN.lt hbx.size; have zE := Nat.lt_of_lt_of_le bE.lt hbx.size)
      | (go_at_call 29; refine (Of_any _ _ (by omega) (by omega)).mono ?_; rintro e wN ⟨v12, rfl, h12, hbN⟩; have hbx : Below W0.heap.size W0 wN := nextw (by first | exact hbx | exact ⟨rfl, rfl, rfl, Nat.le_refl _, fun _ _ => rfl⟩ | exact ⟨hbx.os, hbx.tape, hbx.output, hbx.size, hbx.block⟩) hbN; have cX0 := (Box.below bX hbx bX.lt).c0; have cX1 := (Box.below bX hbx bX.lt).c1; have cY0 := (Box.below bY hbx bY.lt).c0; have cY1 := (Box.below bY hbx bY.lt).c1; have cN0 := (Box.below bN hbx bN.lt).c0; have cN1 := (Box.below bN hbx bN.lt).c1; have cE1 := (Box.below bE hbx bE.lt).c1; have zX := Nat.lt_of_lt_of_le bX.lt hbx.size; have zY := Nat.lt_of_lt_of_le bY.lt hbx.size; have zN := Nat.lt_of_lt_of_le bN.lt hbx.size; have zE := Nat.lt_of_lt_of_le bE.lt hbx.size)
      | (go_at_call 34; refine (Gcd_12 v12 v18 _ (Can.below h12' (by exact ⟨rfl, rfl, rfl, Nat.le_refl _, fun _ _ => rfl⟩)) (Can.below h18 (by exact ⟨rfl, rfl, rfl, Nat.le_refl _, fun _ _ => rfl⟩))).mono ?_; rintro e wN ⟨vG, rfl, hG, hbN⟩; have hbx : Below W0.heap.size W0 wN := nextw (by first | exact hbx | exact ⟨rfl, rfl, rfl, Nat.le_refl _, fun _ _ => rfl⟩ | exact ⟨hbx.os, hbx.tape, hbx.output, hbx.size, hbx.block⟩) hbN; have cX0 := (Box.below bX hbx bX.lt).c0; have cX1 := (Box.below bX hbx bX.lt).c1; have cY0 := (Box.below bY hbx bY.lt).c0; have cY1 := (Box.below bY hbx bY.lt).c1; have cN0 := (Box.below bN hbx bN.lt).c0; have cN1 := (Box.below bN hbx bN.lt).c1; have cE1 := (Box.below bE hbx bE.lt).c1; have zX := Nat.lt_of_lt_of_le bX.lt hbx.size; have zY := Nat.lt_of_lt_of_le bY.lt hbx.size; have zN := Nat.lt_of_lt_of_le bN.lt hbx.size; have zE := Nat.lt_of_lt_of_le bE.lt hbx.size)
      | (go_at_call 35; refine (Bits_8 v8 _ (Can.below h8 (by exact ⟨rfl, rfl, rfl, Nat.le_refl _, fun _ _ => rfl⟩))).mono ?_; rintro e wN ⟨rfl, hbN⟩; have hbx : Below W0.heap.size W0 wN := nextw (by first | exact hbx | exact ⟨rfl, rfl, rfl, Nat.le_refl _, fun _ _ => rfl⟩ | exact ⟨hbx.os, hbx.tape, hbx.output, hbx.size, hbx.block⟩) hbN; have cX0 := (Box.below bX hbx bX.lt).c0; have cX1 := (Box.below bX hbx bX.lt).c1; have cY0 := (Box.below bY hbx bY.lt).c0; have cY1 := (Box.below bY hbx bY.lt).c1; have cN0 := (Box.below bN hbx bN.lt).c0; have cN1 := (Box.below bN hbx bN.lt).c1; have cE1 := (Box.below bE hbx bE.lt).c1; have zX := Nat.lt_of_lt_of_le bX.lt hbx.size; have zY := Nat.lt_of_lt_of_le bY.lt hbx.size; have zN := Nat.lt_of_lt_of_le bN.lt hbx.size; have zE := Nat.lt_of_lt_of_le bE.lt hbx.size))
  all_goals
    have hbf := nextw HBW.out hbx
    go_wp2
    go_ret
    exact ⟨rfl, hbf⟩
end Go.Proofs.YtccndofafljaaaaDoor
