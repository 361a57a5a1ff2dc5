/- The reference: Hull. -/
import Derived.Test.YtjpdahalplkfbaaHRSet
import Derived.Test.YtjpdahalplkfbaaHHullM
namespace Go.Proofs.Ytjpdahalplkfbaa
open Go Go.RowKit Hd

set_option maxRecDepth 100000 in
set_option maxHeartbeats 1000000 in
theorem RHull_bad1 (f c g d : Int) (hn : ¬ OkA f c) (w : World) :
    Calls Try.prog 44 #[av f c, av g d] w fun e w' => e = .returned (.tuple #[av 0 0, .int .i64 1]) ∧ Below w.heap.size w w' := by
  have HV := Lib.hid (fun w => RVA_no hn w)
  clear hn
  have HB := Lib.hid (show Below w.heap.size w (((w.alloc (.cells #[.int .i64 f, .int .i64 c] 59)).alloc (.cells #[.int .i64 g, .int .i64 d] 59)).alloc (.cells #[.int .i64 0, .int .i64 0] 59)) from ((((Below.refl _ _).alloc (by simp <;> omega) _).alloc (by simp <;> omega) _).alloc (by simp <;> omega) _))
  have B_a : Box2 (((w.alloc (.cells #[.int .i64 f, .int .i64 c] 59)).alloc (.cells #[.int .i64 g, .int .i64 d] 59)).alloc (.cells #[.int .i64 0, .int .i64 0] 59)) (w.heap.size) f c := by have h := (Box2.alloc (Box2.alloc (Box2.new w f c) (.cells #[.int .i64 g, .int .i64 d] 59)) (.cells #[.int .i64 0, .int .i64 0] 59)); simpa using h
  replace B_a := Lib.hid B_a
  have B_b : Box2 (((w.alloc (.cells #[.int .i64 f, .int .i64 c] 59)).alloc (.cells #[.int .i64 g, .int .i64 d] 59)).alloc (.cells #[.int .i64 0, .int .i64 0] 59)) (w.heap.size + 1) g d := by have h := (Box2.alloc (Box2.new (w.alloc (.cells #[.int .i64 f, .int .i64 c] 59)) g d) (.cells #[.int .i64 0, .int .i64 0] 59)); simpa using h
  replace B_b := Lib.hid B_b
  have B_r : Box2 (((w.alloc (.cells #[.int .i64 f, .int .i64 c] 59)).alloc (.cells #[.int .i64 g, .int .i64 d] 59)).alloc (.cells #[.int .i64 0, .int .i64 0] 59)) (w.heap.size + 1 + 1) 0 0 := by have h := (Box2.new ((w.alloc (.cells #[.int .i64 f, .int .i64 c] 59)).alloc (.cells #[.int .i64 g, .int .i64 d] 59)) 0 0); simpa using h
  replace B_r := Lib.hid B_r
  go_enter Try.func44, Try.ntmps44
  go_wp2_with fail
  generalize ((w.alloc (.cells #[.int .i64 f, .int .i64 c] 59)).alloc (.cells #[.int .i64 g, .int .i64 d] 59)).alloc (.cells #[.int .i64 0, .int .i64 0] 59) = W0 at *
  have c0a := B_a.out.c0
  have c1a := B_a.out.c1
  have c0b := B_b.out.c0
  have c1b := B_b.out.c1
  refine (HV.out _).mono ?_
  clear c0a c1a c0b c1b
  rintro e w1 ⟨rfl, bb⟩
  replace bb := nextw (w0 := W0) (by exact ⟨rfl, rfl, rfl, Nat.le_refl _, fun _ _ => rfl⟩) bb
  replace B_a := Lib.hid (Box2.below B_a.out bb B_a.out.lt)
  replace B_b := Lib.hid (Box2.below B_b.out bb B_b.out.lt)
  replace B_r := Lib.hid (Box2.below B_r.out bb B_r.out.lt)
  replace HB := Lib.hid (nextw HB.out bb)
  clear bb
  have c0a := B_a.out.c0
  have c1a := B_a.out.c1
  have c0b := B_b.out.c0
  have c1b := B_b.out.c1
  clear c0a c1a c0b c1b
  have sS := Box2.store B_r.out 0 0
  have s0 := sS.c0
  have s1 := sS.c1
  have HF := Lib.hid (Below.store2 HB.out (y := w.heap.size + 1 + 1) (by omega) (.int .i64 0) (.int .i64 0))
  clear sS
  have c0r := B_r.out.c0
  have f0r := B_r.out.f0
  have c1r := B_r.out.c1
  have f1r := B_r.out.f1
  go_wp2_with fail
  exact bodyPost_ret (v := .tuple #[.agg #[.int .i64 0, .int .i64 0], .int .i64 1]) (by simp [results, Try.results44, go_sem, s0, s1]) rfl ⟨rfl, nextw HF.out (by exact ⟨rfl, rfl, rfl, Nat.le_refl _, fun _ _ => rfl⟩)⟩

set_option maxRecDepth 100000 in
set_option maxHeartbeats 1000000 in
theorem RHull_bad2 (f c g d : Int) (ha : OkA f c) (hn : ¬ OkA g d) (w : World) :
    Calls Try.prog 44 #[av f c, av g d] w fun e w' => e = .returned (.tuple #[av 0 0, .int .i64 1]) ∧ Below w.heap.size w w' := by
  have HV := Lib.hid (fun w => RVA_yes ha w)
  have HW := Lib.hid (fun w => RVA_no hn w)
  clear ha hn
  have HB := Lib.hid (show Below w.heap.size w (((w.alloc (.cells #[.int .i64 f, .int .i64 c] 59)).alloc (.cells #[.int .i64 g, .int .i64 d] 59)).alloc (.cells #[.int .i64 0, .int .i64 0] 59)) from ((((Below.refl _ _).alloc (by simp <;> omega) _).alloc (by simp <;> omega) _).alloc (by simp <;> omega) _))
  have B_a : Box2 (((w.alloc (.cells #[.int .i64 f, .int .i64 c] 59)).alloc (.cells #[.int .i64 g, .int .i64 d] 59)).alloc (.cells #[.int .i64 0, .int .i64 0] 59)) (w.heap.size) f c := by have h := (Box2.alloc (Box2.alloc (Box2.new w f c) (.cells #[.int .i64 g, .int .i64 d] 59)) (.cells #[.int .i64 0, .int .i64 0] 59)); simpa using h
  replace B_a := Lib.hid B_a
  have B_b : Box2 (((w.alloc (.cells #[.int .i64 f, .int .i64 c] 59)).alloc (.cells #[.int .i64 g, .int .i64 d] 59)).alloc (.cells #[.int .i64 0, .int .i64 0] 59)) (w.heap.size + 1) g d := by have h := (Box2.alloc (Box2.new (w.alloc (.cells #[.int .i64 f, .int .i64 c] 59)) g d) (.cells #[.int .i64 0, .int .i64 0] 59)); simpa using h
  replace B_b := Lib.hid B_b
  have B_r : Box2 (((w.alloc (.cells #[.int .i64 f, .int .i64 c] 59)).alloc (.cells #[.int .i64 g, .int .i64 d] 59)).alloc (.cells #[.int .i64 0, .int .i64 0] 59)) (w.heap.size + 1 + 1) 0 0 := by have h := (Box2.new ((w.alloc (.cells #[.int .i64 f, .int .i64 c] 59)).alloc (.cells #[.int .i64 g, .int .i64 d] 59)) 0 0); simpa using h
  replace B_r := Lib.hid B_r
  go_enter Try.func44, Try.ntmps44
  go_wp2_with fail
  generalize ((w.alloc (.cells #[.int .i64 f, .int .i64 c] 59)).alloc (.cells #[.int .i64 g, .int .i64 d] 59)).alloc (.cells #[.int .i64 0, .int .i64 0] 59) = W0 at *
  have c0a := B_a.out.c0
  have c1a := B_a.out.c1
  have c0b := B_b.out.c0
  have c1b := B_b.out.c1
  refine (HV.out _).mono ?_
  clear c0a c1a c0b c1b
  rintro e w1 ⟨rfl, bb⟩
  replace bb := nextw (w0 := W0) (by exact ⟨rfl, rfl, rfl, Nat.le_refl _, fun _ _ => rfl⟩) bb
  replace B_a := Lib.hid (Box2.below B_a.out bb B_a.out.lt)
  replace B_b := Lib.hid (Box2.below B_b.out bb B_b.out.lt)
  replace B_r := Lib.hid (Box2.below B_r.out bb B_r.out.lt)
  replace HB := Lib.hid (nextw HB.out bb)
  clear bb
  have c0a := B_a.out.c0
  have c1a := B_a.out.c1
  have c0b := B_b.out.c0
  have c1b := B_b.out.c1
  go_wp2_with fail
  refine (HW.out _).mono ?_
  clear c0a c1a c0b c1b
  rintro e w2 ⟨rfl, bb⟩
  replace bb := nextw (w0 := w1) (by exact ⟨rfl, rfl, rfl, Nat.le_refl _, fun _ _ => rfl⟩) bb
  replace B_a := Lib.hid (Box2.below B_a.out bb B_a.out.lt)
  replace B_b := Lib.hid (Box2.below B_b.out bb B_b.out.lt)
  replace B_r := Lib.hid (Box2.below B_r.out bb B_r.out.lt)
  replace HB := Lib.hid (nextw HB.out bb)
  clear bb
  have c0a := B_a.out.c0
  have c1a := B_a.out.c1
  have c0b := B_b.out.c0
  have c1b := B_b.out.c1
  clear c0a c1a c0b c1b
  have sS := Box2.store B_r.out 0 0
  have s0 := sS.c0
  have s1 := sS.c1
  have HF := Lib.hid (Below.store2 HB.out (y := w.heap.size + 1 + 1) (by omega) (.int .i64 0) (.int .i64 0))
  clear sS
  have c0r := B_r.out.c0
  have f0r := B_r.out.f0
  have c1r := B_r.out.c1
  have f1r := B_r.out.f1
  go_wp2_with fail
  exact bodyPost_ret (v := .tuple #[.agg #[.int .i64 0, .int .i64 0], .int .i64 1]) (by simp [results, Try.results44, go_sem, s0, s1]) rfl ⟨rfl, nextw HF.out (by exact ⟨rfl, rfl, rfl, Nat.le_refl _, fun _ _ => rfl⟩)⟩

theorem best_succ (u : Int → Bool) (k : Nat) {F : Int} (hF : F = 255 - (k : Int)) : best u (k + 1) = if needN u F 256 < 256 ∧ needN u F 256 ≤ (best u k).2 then (F, needN u F 256) else best u k := by subst hF; rfl
theorem need_succ (u : Int → Bool) (F : Int) (i : Nat) {p : Int} (hp : (F + (i : Int)) % 256 = p) : needN u F (i + 1) = if u p then (i : Int) + 1 else needN u F i := by subst hp; rfl

theorem OwnB.ne' {w : World} {g x : Nat} {l : List Bool} {z : Int} (hb : OwnB w g l) (hc : w.cell? ⟨x, 0, none⟩ = some (.int .i64 z)) : g ≠ x := Ne.symm (OwnB.ne hb hc)
theorem OwnB.far2 {w : World} {g y : Nat} {l : List Bool} (h : OwnB w g l) (hne : g ≠ y) (u0 u1 : Value) : OwnB ((w.setCell ⟨y, 0, none⟩ u0).setCell ⟨y, 1, none⟩ u1) g l :=
  ((heap_setCell_other _ ⟨y, 1, none⟩ g u1 hne).trans (heap_setCell_other w ⟨y, 0, none⟩ g u0 hne)).trans h

set_option maxRecDepth 100000 in
set_option maxHeartbeats 8000000 in
theorem RHull_ok (f c g d : Int) (ha : OkA f c) (hb : OkA g d) (w : World) :
    Calls Try.prog 44 #[av f c, av g d] w fun e w' => e = .returned (.tuple #[av (best (uni f c g d) 256).1 (best (uni f c g d) 256).2, .int .i64 0]) ∧ Below w.heap.size w w' := by
  have HV := Lib.hid (fun w => RVA_yes ha w)
  have HW := Lib.hid (fun w => RVA_yes hb w)
  have HX := Lib.hid (fun w => RSet_ok f c ha w)
  have HY := Lib.hid (fun w => RSet_ok g d hb w)
  clear ha hb
  have HB := Lib.hid (show Below w.heap.size w (((w.alloc (.cells #[.int .i64 f, .int .i64 c] 59)).alloc (.cells #[.int .i64 g, .int .i64 d] 59)).alloc (.cells #[.int .i64 0, .int .i64 0] 59)) from ((((Below.refl _ _).alloc (by simp <;> omega) _).alloc (by simp <;> omega) _).alloc (by simp <;> omega) _))
  have B_a : Box2 (((w.alloc (.cells #[.int .i64 f, .int .i64 c] 59)).alloc (.cells #[.int .i64 g, .int .i64 d] 59)).alloc (.cells #[.int .i64 0, .int .i64 0] 59)) (w.heap.size) f c := by have h := (Box2.alloc (Box2.alloc (Box2.new w f c) (.cells #[.int .i64 g, .int .i64 d] 59)) (.cells #[.int .i64 0, .int .i64 0] 59)); simpa using h
  replace B_a := Lib.hid B_a
  have B_b : Box2 (((w.alloc (.cells #[.int .i64 f, .int .i64 c] 59)).alloc (.cells #[.int .i64 g, .int .i64 d] 59)).alloc (.cells #[.int .i64 0, .int .i64 0] 59)) (w.heap.size + 1) g d := by have h := (Box2.alloc (Box2.new (w.alloc (.cells #[.int .i64 f, .int .i64 c] 59)) g d) (.cells #[.int .i64 0, .int .i64 0] 59)); simpa using h
  replace B_b := Lib.hid B_b
  have B_r : Box2 (((w.alloc (.cells #[.int .i64 f, .int .i64 c] 59)).alloc (.cells #[.int .i64 g, .int .i64 d] 59)).alloc (.cells #[.int .i64 0, .int .i64 0] 59)) (w.heap.size + 1 + 1) 0 0 := by have h := (Box2.new ((w.alloc (.cells #[.int .i64 f, .int .i64 c] 59)).alloc (.cells #[.int .i64 g, .int .i64 d] 59)) 0 0); simpa using h
  replace B_r := Lib.hid B_r
  go_enter Try.func44, Try.ntmps44
  go_wp2_with fail
  generalize ((w.alloc (.cells #[.int .i64 f, .int .i64 c] 59)).alloc (.cells #[.int .i64 g, .int .i64 d] 59)).alloc (.cells #[.int .i64 0, .int .i64 0] 59) = W0 at *
  have c0a := B_a.out.c0
  have c1a := B_a.out.c1
  have c0b := B_b.out.c0
  have c1b := B_b.out.c1
  refine (HV.out _).mono ?_
  clear c0a c1a c0b c1b
  rintro e w1 ⟨rfl, bb⟩
  replace bb := nextw (w0 := W0) (by exact ⟨rfl, rfl, rfl, Nat.le_refl _, fun _ _ => rfl⟩) bb
  replace B_a := Lib.hid (Box2.below B_a.out bb B_a.out.lt)
  replace B_b := Lib.hid (Box2.below B_b.out bb B_b.out.lt)
  replace B_r := Lib.hid (Box2.below B_r.out bb B_r.out.lt)
  replace HB := Lib.hid (nextw HB.out bb)
  clear bb
  have c0a := B_a.out.c0
  have c1a := B_a.out.c1
  have c0b := B_b.out.c0
  have c1b := B_b.out.c1
  go_wp2_with fail
  refine (HW.out _).mono ?_
  clear c0a c1a c0b c1b
  rintro e w2 ⟨rfl, bb⟩
  replace bb := nextw (w0 := w1) (by exact ⟨rfl, rfl, rfl, Nat.le_refl _, fun _ _ => rfl⟩) bb
  replace B_a := Lib.hid (Box2.below B_a.out bb B_a.out.lt)
  replace B_b := Lib.hid (Box2.below B_b.out bb B_b.out.lt)
  replace B_r := Lib.hid (Box2.below B_r.out bb B_r.out.lt)
  replace HB := Lib.hid (nextw HB.out bb)
  clear bb
  have c0a := B_a.out.c0
  have c1a := B_a.out.c1
  have c0b := B_b.out.c0
  have c1b := B_b.out.c1
  go_wp2_with fail
  refine (HX.out _).mono ?_
  clear c0a c1a c0b c1b
  rintro e w3 ⟨gx, rfl, -, hx, bb⟩
  replace bb := nextw (w0 := w2) (by exact ⟨rfl, rfl, rfl, Nat.le_refl _, fun _ _ => rfl⟩) bb
  replace B_a := Lib.hid (Box2.below B_a.out bb B_a.out.lt)
  replace B_b := Lib.hid (Box2.below B_b.out bb B_b.out.lt)
  replace B_r := Lib.hid (Box2.below B_r.out bb B_r.out.lt)
  replace HB := Lib.hid (nextw HB.out bb)
  clear bb
  have VX := Lib.hid hx
  clear hx
  have c0a := B_a.out.c0
  have c1a := B_a.out.c1
  have c0b := B_b.out.c0
  have c1b := B_b.out.c1
  go_wp2_with fail
  refine (HY.out _).mono ?_
  clear c0a c1a c0b c1b
  rintro e w4 ⟨gy, rfl, -, hy, bb⟩
  replace bb := nextw (w0 := w3) (by exact ⟨rfl, rfl, rfl, Nat.le_refl _, fun _ _ => rfl⟩) bb
  replace B_a := Lib.hid (Box2.below B_a.out bb B_a.out.lt)
  replace B_b := Lib.hid (Box2.below B_b.out bb B_b.out.lt)
  replace B_r := Lib.hid (Box2.below B_r.out bb B_r.out.lt)
  replace VX := Lib.hid (OwnB.keep VX.out bb)
  replace HB := Lib.hid (nextw HB.out bb)
  clear bb
  have VY := Lib.hid hy
  clear hy HV HW HX HY B_a B_b
  have lt_vr := B_r.out.lt
  have B_v := Lib.hid (Box2.new w4 0 256)
  replace B_r := Lib.hid (Box2.alloc B_r.out (.cells #[.int .i64 0, .int .i64 256] 59))
  have bal : Below w4.heap.size w4 (w4.alloc (.cells #[.int .i64 0, .int .i64 256] 59)) := (Below.refl _ _).alloc (Nat.le_refl _) _
  replace VX := Lib.hid (OwnB.keep VX.out bal)
  replace VY := Lib.hid (OwnB.keep VY.out bal)
  clear bal
  replace HB := Lib.hid (nextw HB.out ((Below.refl w4.heap.size w4).alloc (Nat.le_refl _) (.cells #[.int .i64 0, .int .i64 256] 59)))
  go_upto_region 6 with (fail)
  generalize w4.alloc (.cells #[.int .i64 0, .int .i64 256] 59) = WV at *
  obtain ⟨ub, hub⟩ : ∃ ub, uni f c g d = ub := ⟨_, rfl⟩
  have HU : Hid (∀ p : Nat, ub p = (hasB f c p || hasB g d p)) := fun p => by rw [← hub]; rfl
  have HUB := Lib.hid hub
  clear hub
  have hvr : Hid (w.heap.size + 1 + 1 < w4.heap.size) := lt_vr
  clear lt_vr
  go_wp2_with fail
  go_loopw [9] (fun fr wr => ∃ (k : Nat) (F : Int), Hid (F = 255 - (k : Int)) ∧ -1 ≤ F ∧ F ≤ 255 ∧ fr = .int .i64 F ∧ Hid (OwnB wr gx (bset f c)) ∧ Hid (OwnB wr gy (bset g d)) ∧ Hid (Box2 wr (w4.heap.size) (best ub k).1 (best ub k).2) ∧ Hid (Box2 wr (w.heap.size + 1 + 1) 0 0) ∧ Hid (Below w.heap.size w wr)) (fun fr _ => (1 + intOf fr).toNat)
  case atStart => exact ⟨0, 255, by unfold Hid; omega, by omega, by omega, rfl, VX, VY, B_v, B_r, HB⟩
  case round =>
    clear VX VY B_v B_r HB
    obtain ⟨k, F, hF, f0, f1, rfl, VX, VY, B_v, B_r, HB⟩ := hrel
    by_cases hlt : 0 ≤ F
    · obtain ⟨wo, rfl⟩ : ∃ wo : World, wo = wr := ⟨_, rfl⟩
      go_wp2_with fail
      go_loop [10, 11] (fun nd ii => ∃ i : Nat, i ≤ 256 ∧ ii = .int .i64 i ∧ nd = .int .i64 (needN ub F i)) (fun _ ii => 256 - (intOf ii).toNat)
      case atStart => exact ⟨0, by omega, rfl, rfl⟩
      case round =>
        obtain ⟨i, hi, rfl, rfl⟩ := hrel
        by_cases hli : i < 256
        · obtain ⟨p, hp⟩ : ∃ p : Nat, (F + (i : Int)) % 256 = (p : Int) := ⟨((F + (i : Int)) % 256).toNat, by omega⟩
          have hp2 : p < 256 := by omega
          have HN := Lib.hid ((need_succ ub F i hp).trans (by rw [HU.out p]))
          have cx := VX.out.cell (i := p) (by rw [bset_length]; exact hp2)
          have cy := VY.out.cell (i := p) (by rw [bset_length]; exact hp2)
          rw [bset_getD hp2] at cx cy
          change wo.cell? _ = some (.bool (hasB f c p)) at cx
          change wo.cell? _ = some (.bool (hasB g d p)) at cy
          generalize needN ub F i = nd at *
          rcases hx : hasB f c p with _ | _ <;> rcases hy : hasB g d p with _ | _ <;> rw [hx] at cx HN <;> rw [hy] at cy HN <;> clear hx hy
          all_goals
            go_wp2
            go_round
            case rel => exact ⟨i + 1, by omega, by go_num, by rw [HN.out]; rfl⟩
            case measure => simp [intOf]; omega
        · obtain rfl : i = 256 := by omega
          have HS := Lib.hid (best_succ ub k hF.out)
          have hnr := need_range ub F 256
          obtain ⟨nd, hnd⟩ : ∃ nd, needN ub F 256 = nd := ⟨_, rfl⟩
          rw [hnd] at HS hnr ⊢
          clear hnd
          obtain ⟨bf, hbf⟩ : ∃ x, (best ub k).1 = x := ⟨_, rfl⟩
          obtain ⟨bn, hbn⟩ : ∃ x, (best ub k).2 = x := ⟨_, rfl⟩
          rw [hbf, hbn] at B_v
          rw [hbn] at HS
          have HK : Hid (best ub k = (bf, bn)) := by unfold Hid; rw [← hbf, ← hbn]
          clear hbf hbn
          have hF2 : Hid (F - 1 = 255 - ((k + 1 : Nat) : Int)) := by unfold Hid; rw [hF.out]; omega
          have c0v := B_v.out.c0
          have c1v := B_v.out.c1
          have f0v := B_v.out.f0
          have f1v := B_v.out.f1
          by_cases h1 : nd < 256
          · by_cases h2 : nd ≤ bn
            · have HQ : Hid (best ub (k + 1) = (F, nd)) := by unfold Hid; rw [HS.out, if_pos ⟨h1, h2⟩]
              have hne : Hid ((w.heap.size + 1 + 1) ≠ w4.heap.size) := by unfold Hid; have := hvr.out; omega
              have S_v := Lib.hid (Box2.store B_v.out F nd)
              have S_r := Lib.hid (Box2.far2 (y := w4.heap.size) B_r.out hne.out (.int .i64 F) (.int .i64 nd))
              have S_B := Lib.hid (Below.store2 HB.out (y := w4.heap.size) (by have := hvr.out; omega) (.int .i64 F) (.int .i64 nd))
              have nex : Hid (gx ≠ w4.heap.size) := Lib.hid (OwnB.ne' VX.out c0v)
              have ney : Hid (gy ≠ w4.heap.size) := Lib.hid (OwnB.ne' VY.out c0v)
              have S_X := Lib.hid (OwnB.far2 (y := w4.heap.size) VX.out nex.out (.int .i64 F) (.int .i64 nd))
              have S_Y := Lib.hid (OwnB.far2 (y := w4.heap.size) VY.out ney.out (.int .i64 F) (.int .i64 nd))
              go_wp2
              go_roundw
              case rel => exact ⟨k + 1, F - 1, hF2, by omega, by omega, rfl, S_X, S_Y, by rw [HQ.out]; exact S_v, S_r, S_B⟩
              case measure => simp only [intOf]; omega
            · have HQ : Hid (best ub (k + 1) = (bf, bn)) := by unfold Hid; rw [HS.out, if_neg (fun h => h2 h.2), HK.out]
              go_wp2
              go_roundw
              case rel => exact ⟨k + 1, F - 1, hF2, by omega, by omega, rfl, VX, VY, by rw [HQ.out]; exact B_v, B_r, HB⟩
              case measure => simp only [intOf]; omega
          · have HQ : Hid (best ub (k + 1) = (bf, bn)) := by unfold Hid; rw [HS.out, if_neg (fun h => h1 h.1), HK.out]
            go_wp2
            go_roundw
            case rel => exact ⟨k + 1, F - 1, hF2, by omega, by omega, rfl, VX, VY, by rw [HQ.out]; exact B_v, B_r, HB⟩
            case measure => simp only [intOf]; omega
    · have hk : k = 256 := by have := hF.out; omega
      subst hk
      obtain ⟨bf, hbf⟩ : ∃ x, (best ub 256).1 = x := ⟨_, rfl⟩
      obtain ⟨bn, hbn⟩ : ∃ x, (best ub 256).2 = x := ⟨_, rfl⟩
      rw [hbf, hbn] at B_v
      have HK : Hid (best ub 256 = (bf, bn)) := by unfold Hid; rw [← hbf, ← hbn]
      clear hbf hbn
      have sS := Box2.store B_r.out bf bn
      have s0 := sS.c0
      have s1 := sS.c1
      have HF := Lib.hid (Below.store2 HB.out (y := w.heap.size + 1 + 1) (by omega) (.int .i64 bf) (.int .i64 bn))
      clear sS
      have c0v := B_v.out.c0
      have c1v := B_v.out.c1
      have c0r := B_r.out.c0
      have c1r := B_r.out.c1
      have f0r := B_r.out.f0
      have f1r := B_r.out.f1
      go_wp2_with fail
      exact bodyPost_ret (v := .tuple #[.agg #[.int .i64 bf, .int .i64 bn], .int .i64 0]) (by simp [results, Try.results44, go_sem, s0, s1]) rfl ⟨by rw [HUB.out, HK.out], nextw HF.out (by exact ⟨rfl, rfl, rfl, Nat.le_refl _, fun _ _ => rfl⟩)⟩
end Go.Proofs.Ytjpdahalplkfbaa
