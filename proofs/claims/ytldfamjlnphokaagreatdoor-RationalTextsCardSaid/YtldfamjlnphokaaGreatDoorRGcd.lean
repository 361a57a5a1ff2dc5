/- The reference: Gcd. -/
import Derived.Test.YtldfamjlnphokaaGreatDoorRefC
import Derived.Test.YtldfamjlnphokaaGreatDoorRHalf
import Derived.Test.YtldfamjlnphokaaGreatDoorGcd3

set_option linter.unusedVariables false
set_option linter.unusedSimpArgs false

namespace Go.Proofs.YtldfamjlnphokaaGreatDoor
open Go Go.RowKit Num

theorem gcd_halves {x y : Nat} (hx : x % 2 = 0) (hy : y % 2 = 0) : Nat.gcd x y = Nat.gcd (x / 2) (y / 2) * 2 := by
  have h1 : x = 2 * (x / 2) := by omega
  have h2 : y = 2 * (y / 2) := by omega
  rw [h1, h2, Nat.gcd_mul_left, Nat.mul_div_cancel_left _ (by omega), Nat.mul_div_cancel_left _ (by omega), Nat.mul_comm]
theorem gcd_half_left {x y : Nat} (hx : x % 2 = 0) (hy : y % 2 ≠ 0) : Nat.gcd (x / 2) y = Nat.gcd x y := by
  have h1 : x = 2 * (x / 2) := by omega
  have hc : Nat.Coprime 2 y := by
    rw [Nat.Coprime, Nat.gcd_comm]
    rcases Nat.eq_zero_or_pos (Nat.gcd y 2) with h | h
    · rw [Nat.gcd_eq_zero_iff] at h; omega
    · have h2 := Nat.gcd_le_right y (show 0 < 2 by omega)
      rcases Nat.lt_or_ge (Nat.gcd y 2) 2 with h3 | h3
      · omega
      · have h4 : Nat.gcd y 2 = 2 := by omega
        have h5 := Nat.gcd_dvd_left y 2
        rw [h4] at h5
        omega
  conv => rhs; rw [h1]
  exact (Nat.Coprime.gcd_mul_left_cancel _ hc).symm
theorem gcd_half_right {x y : Nat} (hy : y % 2 = 0) (hx : x % 2 ≠ 0) : Nat.gcd x (y / 2) = Nat.gcd x y := by
  rw [Nat.gcd_comm, gcd_half_left hy hx, Nat.gcd_comm]
theorem gcd_sub_l {x y : Nat} (h : y ≤ x) : Nat.gcd (x - y) y = Nat.gcd x y := by
  conv => rhs; rw [show x = (x - y) + y by omega]
  rw [Nat.gcd_add_self_left]
theorem gcd_sub_r {x y : Nat} (h : x ≤ y) : Nat.gcd x (y - x) = Nat.gcd x y := by
  rw [Nat.gcd_comm, gcd_sub_l h, Nat.gcd_comm]
theorem low_word0 {x : Nat} (h : x ≠ 0) : (digs x).getD 0 0 % 2 = x % 2 := by
  rw [digs_pos h, List.getD_cons_zero]; omega

/-- What holds at the head of Gcd's loops. -/
structure GAt (w wr : World) (X Y g : Nat) (vx vy : Value) (x y t : Nat) : Prop where
  mx : Mag wr vx x
  my : Mag wr vy y
  x0 : 0 < x
  y0 : 0 < y
  xX : x ≤ X
  yY : y ≤ Y
  gcd : Nat.gcd x y * 2 ^ t = g
  below : Below w.heap.size w wr
  r : Box wr (w.heap.size + 2) false (.slice none 0 0)
theorem GAt.next {w wr w2 : World} {X Y g : Nat} {vx vy vx' vy' : Value} {x y t x' y' t' : Nat} (h : GAt w wr X Y g vx vy x y t) (hb : Below wr.heap.size wr w2) (mx : Mag w2 vx' x') (my : Mag w2 vy' y') (x0 : 0 < x') (y0 : 0 < y') (hx : x' ≤ x) (hy : y' ≤ y)
    (hg : Nat.gcd x' y' * 2 ^ t' = Nat.gcd x y * 2 ^ t) : GAt w w2 X Y g vx' vy' x' y' t' :=
  ⟨mx, my, x0, y0, Nat.le_trans hx h.xX, Nat.le_trans hy h.yY, hg.trans h.gcd, nextw h.below hb, Box.below h.r hb h.r.lt⟩
/-- The first word of a magnitude above 0. -/
theorem first_cell {w : World} {A : Option Addr} {k c x : Nat} (h : Mag w (.slice A k c) x) (h0 : 0 < x) : ∃ b off x0, A = some ⟨b, off, none⟩ ∧ b < w.heap.size ∧ w.cell? ⟨b, off, none⟩ = some (.int .u32 (x0 : Nat)) ∧ x0 % 2 = x % 2 ∧ 0 < k ∧ k = (digs x).length := by
  have hk := h.length
  obtain ⟨A', c', he, -, -, h3⟩ := h.form
  have hne : digs x ≠ [] := fun e => by rw [digs_eq_nil] at e; omega
  have hpos : 0 < (digs x).length := by
    rcases Nat.eq_zero_or_pos (digs x).length with h | h
    · exact absurd (List.eq_nil_of_length_eq_zero h) hne
    · exact h
  obtain ⟨b, off, rfl, hb, hc⟩ := h3 hne
  simp only [Value.slice.injEq] at he
  have hc0 := hc 0 hpos
  rw [Nat.add_zero] at hc0
  exact ⟨b, off, _, he.1, hb, hc0, low_word0 (by omega), by omega, hk⟩
theorem rcmp_lit {v1 v2 : Value} {a b : Nat} {w : World} {c : Int} (h1 : Mag w v1 a) (h2 : Mag w v2 b) (hn1 : (digs a).length ≤ 1000000) (hn2 : (digs b).length ≤ 1000000) (hc : cmpI a b = c) :
    Calls Tryz.prog 100 #[v1, v2] w fun e w' => e = .returned (.int .i64 c) ∧ Below w.heap.size w w' := by
  subst hc
  exact (rcmp_any v1 v2 a b w h1 h2 hn1 hn2).mono fun e w' ⟨he, n, hw⟩ => ⟨he, by subst hw; exact ⟨rfl, rfl, rfl, Nat.le_refl _, fun _ _ => rfl⟩⟩
theorem rcmp_ne {v1 v2 : Value} {a b : Nat} {w : World} (h1 : Mag w v1 a) (h2 : Mag w v2 b) (hn1 : (digs a).length ≤ 1000000) (hn2 : (digs b).length ≤ 1000000) (hc : a ≠ b) :
    Calls Tryz.prog 100 #[v1, v2] w fun e w' => ∃ c : Int, (c != 0) = true ∧ e = .returned (.int .i64 c) ∧ Below w.heap.size w w' :=
  (rcmp_any v1 v2 a b w h1 h2 hn1 hn2).mono fun e w' ⟨he, n, hw⟩ => ⟨_, bne_iff_ne.2 (by unfold cmpI; repeat' split <;> omega), he, by subst hw; exact ⟨rfl, rfl, rfl, Nat.le_refl _, fun _ _ => rfl⟩⟩
theorem rhalf_mag {v1 : Value} {a : Nat} {w : World} (h1 : Mag w v1 a) (hn1 : (digs a).length ≤ 500000) :
    Calls Tryz.prog 117 #[v1] w fun e w' => ∃ A c, e = .returned (.slice A (digs (a / 2)).length c) ∧ Mag w' (.slice A (digs (a / 2)).length c) (a / 2) ∧ Below w.heap.size w w' := by
  have c := rhalf_any v1 (digs a) w h1 hn1
  rw [val_digs] at c
  exact c
theorem gadd_mag {v1 v2 : Value} {a b : Nat} {w : World} (h1 : Mag w v1 a) (h2 : Mag w v2 b) (hn1 : (digs a).length ≤ 500000) (hn2 : (digs b).length ≤ 500000) :
    Calls Tryz.prog 99 #[v1, v2] w fun e w' => ∃ A c, e = .returned (.slice A (digs (a + b)).length c) ∧ Mag w' (.slice A (digs (a + b)).length c) (a + b) ∧ Below w.heap.size w w' := by
  have c := radd_any v1 v2 (digs a) (digs b) w h1 h2 hn1 hn2
  rw [val_digs, val_digs] at c
  exact c
theorem gsub_mag {v1 v2 : Value} {a b : Nat} {w : World} (h1 : Mag w v1 a) (h2 : Mag w v2 b) (hn1 : (digs a).length ≤ 500000) (hle : b ≤ a) :
    Calls Tryz.prog 101 #[v1, v2] w fun e w' => ∃ A c, e = .returned (.slice A (digs (a - b)).length c) ∧ Mag w' (.slice A (digs (a - b)).length c) (a - b) ∧ Below w.heap.size w w' := by
  have c := rsub_any v1 v2 (digs a) (digs b) w h1 h2 hn1 (length_mono hle) (by rw [val_digs, val_digs]; exact hle)
  rw [val_digs, val_digs] at c
  exact c
theorem twos_bound {x t X g Y n : Nat} (hg : g ≤ X) (hx : 0 < x) (h : x * 2 ^ t = g) (hX : X < 4294967296 ^ n) : t < 32 * n ∨ n = 0 := by
  rcases Nat.lt_or_ge t (32 * n) with h1 | h1
  · exact Or.inl h1
  · right
    have h2 : 2 ^ (32 * n) ≤ 2 ^ t := Nat.pow_le_pow_right (by omega) h1
    have h3 : 2 ^ t ≤ x * 2 ^ t := Nat.le_mul_of_pos_left _ hx
    rw [Nat.pow_mul] at h2
    have h4 : (2 : Nat) ^ 32 = 4294967296 := rfl
    rw [h4] at h2
    omega

set_option maxRecDepth 100000 in
set_option maxHeartbeats 2000000 in
theorem RGcd_zero1 {v1 v2 : Value} {z1 z2 : Int} {n1 n2 : Nat} {w : World} (h1 : Rd w v1 z1 n1) (h2 : Rd w v2 z2 n2) (f1 : n1 ≤ 50000) (f2 : n2 ≤ 50000) (h0 : z1 = 0) :
    Calls Tryz.prog 89 #[v1, v2] w fun e w' => ∃ v, e = .returned v ∧ Rc w' v (Nat.gcd z1.natAbs z2.natAbs : Nat) (n1 + n2) ∧ Below w.heap.size w w' := by
  have H1a := h1.abs
  have H2a := h2.abs
  obtain ⟨X, hX⟩ : ∃ X, z1.natAbs = X := ⟨_, rfl⟩
  obtain ⟨Y, hY⟩ : ∃ Y, z2.natAbs = Y := ⟨_, rfl⟩
  rw [hX] at H1a ⊢
  rw [hY] at H2a ⊢
  have HA1 := Lib.hid H1a
  have HA2 := Lib.hid H2a
  have EX := Lib.hid hX
  have EY := Lib.hid hY
  have HZ : Hid (X = 0) := by unfold Hid; omega
  clear H1a H2a hX hY h0
  obtain ⟨s1, A1, k1, c1, rfl, -⟩ := h1.shape
  obtain ⟨s2, A2, k2, c2, rfl, -⟩ := h2.shape
  have V_x := Lib.hid h1
  have V_y := Lib.hid h2
  clear h1 h2
  have hb0 : Below w.heap.size w (((w.alloc (.cells #[.bool s1, (.slice A1 k1 c1)] 24)).alloc (.cells #[.bool s2, (.slice A2 k2 c2)] 24)).alloc (.cells #[.bool false, (.slice none 0 0)] 24)) := (Below.alloc (Below.alloc (Below.alloc (Below.refl w.heap.size w) (by simp <;> omega) _) (by simp <;> omega) _) (by simp <;> omega) _)
  have B_x : Box (((w.alloc (.cells #[.bool s1, (.slice A1 k1 c1)] 24)).alloc (.cells #[.bool s2, (.slice A2 k2 c2)] 24)).alloc (.cells #[.bool false, (.slice none 0 0)] 24)) (w.heap.size) s1 (.slice A1 k1 c1) := by have h := Box.alloc (Box.alloc (Box.new w s1 (.slice A1 k1 c1)) (.cells #[.bool s2, (.slice A2 k2 c2)] 24)) (.cells #[.bool false, (.slice none 0 0)] 24); simpa using h
  replace B_x := Lib.hid B_x
  have B_y : Box (((w.alloc (.cells #[.bool s1, (.slice A1 k1 c1)] 24)).alloc (.cells #[.bool s2, (.slice A2 k2 c2)] 24)).alloc (.cells #[.bool false, (.slice none 0 0)] 24)) (w.heap.size + 1) s2 (.slice A2 k2 c2) := by have h := Box.alloc (Box.new (w.alloc (.cells #[.bool s1, (.slice A1 k1 c1)] 24)) s2 (.slice A2 k2 c2)) (.cells #[.bool false, (.slice none 0 0)] 24); simpa using h
  replace B_y := Lib.hid B_y
  have B_r : Box (((w.alloc (.cells #[.bool s1, (.slice A1 k1 c1)] 24)).alloc (.cells #[.bool s2, (.slice A2 k2 c2)] 24)).alloc (.cells #[.bool false, (.slice none 0 0)] 24)) (w.heap.size + 2) false (.slice none 0 0) := by have h := Box.new ((w.alloc (.cells #[.bool s1, (.slice A1 k1 c1)] 24)).alloc (.cells #[.bool s2, (.slice A2 k2 c2)] 24)) false (.slice none 0 0); simpa using h
  replace B_r := Lib.hid B_r
  replace V_x := Lib.hid (Rd.below V_x.out hb0)
  replace V_y := Lib.hid (Rd.below V_y.out hb0)
  have HB := Lib.hid hb0
  clear hb0
  have c0x := B_x.out.c0
  have c1x := B_x.out.c1
  go_enter Tryz.func89, Tryz.ntmps89
  go_wp2_with fail
  clear c0x c1x
  generalize ((w.alloc (.cells #[.bool s1, (.slice A1 k1 c1)] 24)).alloc (.cells #[.bool s2, (.slice A2 k2 c2)] 24)).alloc (.cells #[.bool false, (.slice none 0 0)] 24) = W0 at *
  obtain ⟨l1, hu1, hi1, hl1⟩ := Rd.u32 V_x.out
  have hv1 := ival_abs s1 l1
  rw [hi1, EX.out] at hv1
  have HV1 := Lib.hid hv1
  have HL1 := Lib.hid hl1
  clear hi1 hv1 hl1
  refine (rtrim_any _ l1 _ hu1 (by have := HL1.out; omega)).mono ?_
  rintro e w1 ⟨Ax, cx, rfl, hmx, bb⟩
  rw [← HV1.out] at hmx ⊢
  replace B_x := Lib.hid (Box.below B_x.out bb B_x.out.lt)
  replace B_y := Lib.hid (Box.below B_y.out bb B_y.out.lt)
  replace B_r := Lib.hid (Box.below B_r.out bb B_r.out.lt)
  replace V_x := Lib.hid (Rd.below V_x.out bb)
  replace V_y := Lib.hid (Rd.below V_y.out bb)
  replace HB := Lib.hid (nextw HB.out bb)
  have HX := Lib.hid hmx
  clear hmx hu1 bb HV1 HL1
  have c0y := B_y.out.c0
  have c1y := B_y.out.c1
  go_wp2_with fail
  clear c0y c1y
  obtain ⟨l2, hu2, hi2, hl2⟩ := Rd.u32 V_y.out
  have hv2 := ival_abs s2 l2
  rw [hi2, EY.out] at hv2
  have HV2 := Lib.hid hv2
  have HL2 := Lib.hid hl2
  clear hi2 hv2 hl2
  refine (rtrim_any _ l2 _ hu2 (by have := HL2.out; omega)).mono ?_
  rintro e w2 ⟨Ay, cy, rfl, hmy, bb⟩
  rw [← HV2.out] at hmy ⊢
  replace HX := Lib.hid (Mag.below HX.out bb)
  replace B_x := Lib.hid (Box.below B_x.out bb B_x.out.lt)
  replace B_y := Lib.hid (Box.below B_y.out bb B_y.out.lt)
  replace B_r := Lib.hid (Box.below B_r.out bb B_r.out.lt)
  replace V_x := Lib.hid (Rd.below V_x.out bb)
  replace V_y := Lib.hid (Rd.below V_y.out bb)
  replace HB := Lib.hid (nextw HB.out bb)
  have HY := Lib.hid hmy
  clear hmy hu2 bb HV2 HL2
  clear HX HY
  have hz := HZ.out
  subst hz
  rw [digs_zero]
  simp only [List.length_nil]
  have c0y := B_y.out.c0
  have c1y := B_y.out.c1
  go_wp2_with fail
  refine (RAbs_rd (Rd.below V_y.out (by exact ⟨rfl, rfl, rfl, Nat.le_refl _, fun _ _ => rfl⟩)) f2).mono ?_
  rintro e w1 ⟨v, rfl, rr, bb⟩
  replace bb := nextw (w0 := w2) (by exact ⟨rfl, rfl, rfl, Nat.le_refl _, fun _ _ => rfl⟩) bb
  clear c0y c1y
  replace B_x := Lib.hid (Box.below B_x.out bb B_x.out.lt)
  replace B_y := Lib.hid (Box.below B_y.out bb B_y.out.lt)
  replace B_r := Lib.hid (Box.below B_r.out bb B_r.out.lt)
  replace V_x := Lib.hid (Rd.below V_x.out bb)
  replace V_y := Lib.hid (Rd.below V_y.out bb)
  replace HB := Lib.hid (nextw HB.out bb)
  clear bb
  obtain ⟨sr, Ar, kr, cr, rfl⟩ := rr.shape
  have V_r := Lib.hid rr
  clear rr
  rw [EY.out] at V_r
  have bS := Box.store B_r.out sr (.slice Ar kr cr)
  have s0 := bS.c0
  have s1 := bS.c1
  have K_r := Lib.hid (Box.keepsRc B_r.out V_r.out sr (.slice Ar kr cr))
  have HBF := Lib.hid (Below.store HB.out (x := w.heap.size + 2) (by omega) (.bool sr) (.slice Ar kr cr))
  clear bS
  have c0r := B_r.out.c0
  have c1r := B_r.out.c1
  have f0r := B_r.out.f0
  have f1r := B_r.out.f1
  go_wp2_with fail
  generalize (w1.setCell ⟨w.heap.size + 2, 0, none⟩ (.bool sr)).setCell ⟨w.heap.size + 2, 1, none⟩ (.slice Ar kr cr) = WF at *
  go_wp2
  exact bodyPost_ret (v := .agg #[.bool sr, (.slice Ar kr cr)]) (by simp [results, Tryz.results89, go_sem, s0, s1]) rfl ⟨_, rfl, by rw [Nat.gcd_zero_left]; exact Rc.more K_r.out (by omega), HBF.out⟩

set_option maxRecDepth 100000 in
set_option maxHeartbeats 2000000 in
theorem RGcd_zero2 {v1 v2 : Value} {z1 z2 : Int} {n1 n2 : Nat} {w : World} (h1 : Rd w v1 z1 n1) (h2 : Rd w v2 z2 n2) (f1 : n1 ≤ 50000) (f2 : n2 ≤ 50000) (h9 : z1 ≠ 0) (h0 : z2 = 0) :
    Calls Tryz.prog 89 #[v1, v2] w fun e w' => ∃ v, e = .returned v ∧ Rc w' v (Nat.gcd z1.natAbs z2.natAbs : Nat) (n1 + n2) ∧ Below w.heap.size w w' := by
  have H1a := h1.abs
  have H2a := h2.abs
  obtain ⟨X, hX⟩ : ∃ X, z1.natAbs = X := ⟨_, rfl⟩
  obtain ⟨Y, hY⟩ : ∃ Y, z2.natAbs = Y := ⟨_, rfl⟩
  rw [hX] at H1a ⊢
  rw [hY] at H2a ⊢
  have HA1 := Lib.hid H1a
  have HA2 := Lib.hid H2a
  have EX := Lib.hid hX
  have EY := Lib.hid hY
  have HZ : Hid (Y = 0) := by unfold Hid; omega
  have hl : (((digs X).length : Int) == 0) = false := by rw [beq_eq_false_iff_ne]; intro h; have := nat_len_zero.1 (by omega : (digs X).length = 0); omega
  clear H1a H2a hX hY h0 h9
  obtain ⟨s1, A1, k1, c1, rfl, -⟩ := h1.shape
  obtain ⟨s2, A2, k2, c2, rfl, -⟩ := h2.shape
  have V_x := Lib.hid h1
  have V_y := Lib.hid h2
  clear h1 h2
  have hb0 : Below w.heap.size w (((w.alloc (.cells #[.bool s1, (.slice A1 k1 c1)] 24)).alloc (.cells #[.bool s2, (.slice A2 k2 c2)] 24)).alloc (.cells #[.bool false, (.slice none 0 0)] 24)) := (Below.alloc (Below.alloc (Below.alloc (Below.refl w.heap.size w) (by simp <;> omega) _) (by simp <;> omega) _) (by simp <;> omega) _)
  have B_x : Box (((w.alloc (.cells #[.bool s1, (.slice A1 k1 c1)] 24)).alloc (.cells #[.bool s2, (.slice A2 k2 c2)] 24)).alloc (.cells #[.bool false, (.slice none 0 0)] 24)) (w.heap.size) s1 (.slice A1 k1 c1) := by have h := Box.alloc (Box.alloc (Box.new w s1 (.slice A1 k1 c1)) (.cells #[.bool s2, (.slice A2 k2 c2)] 24)) (.cells #[.bool false, (.slice none 0 0)] 24); simpa using h
  replace B_x := Lib.hid B_x
  have B_y : Box (((w.alloc (.cells #[.bool s1, (.slice A1 k1 c1)] 24)).alloc (.cells #[.bool s2, (.slice A2 k2 c2)] 24)).alloc (.cells #[.bool false, (.slice none 0 0)] 24)) (w.heap.size + 1) s2 (.slice A2 k2 c2) := by have h := Box.alloc (Box.new (w.alloc (.cells #[.bool s1, (.slice A1 k1 c1)] 24)) s2 (.slice A2 k2 c2)) (.cells #[.bool false, (.slice none 0 0)] 24); simpa using h
  replace B_y := Lib.hid B_y
  have B_r : Box (((w.alloc (.cells #[.bool s1, (.slice A1 k1 c1)] 24)).alloc (.cells #[.bool s2, (.slice A2 k2 c2)] 24)).alloc (.cells #[.bool false, (.slice none 0 0)] 24)) (w.heap.size + 2) false (.slice none 0 0) := by have h := Box.new ((w.alloc (.cells #[.bool s1, (.slice A1 k1 c1)] 24)).alloc (.cells #[.bool s2, (.slice A2 k2 c2)] 24)) false (.slice none 0 0); simpa using h
  replace B_r := Lib.hid B_r
  replace V_x := Lib.hid (Rd.below V_x.out hb0)
  replace V_y := Lib.hid (Rd.below V_y.out hb0)
  have HB := Lib.hid hb0
  clear hb0
  have c0x := B_x.out.c0
  have c1x := B_x.out.c1
  go_enter Tryz.func89, Tryz.ntmps89
  go_wp2_with fail
  clear c0x c1x
  generalize ((w.alloc (.cells #[.bool s1, (.slice A1 k1 c1)] 24)).alloc (.cells #[.bool s2, (.slice A2 k2 c2)] 24)).alloc (.cells #[.bool false, (.slice none 0 0)] 24) = W0 at *
  obtain ⟨l1, hu1, hi1, hl1⟩ := Rd.u32 V_x.out
  have hv1 := ival_abs s1 l1
  rw [hi1, EX.out] at hv1
  have HV1 := Lib.hid hv1
  have HL1 := Lib.hid hl1
  clear hi1 hv1 hl1
  refine (rtrim_any _ l1 _ hu1 (by have := HL1.out; omega)).mono ?_
  rintro e w1 ⟨Ax, cx, rfl, hmx, bb⟩
  rw [← HV1.out] at hmx ⊢
  replace B_x := Lib.hid (Box.below B_x.out bb B_x.out.lt)
  replace B_y := Lib.hid (Box.below B_y.out bb B_y.out.lt)
  replace B_r := Lib.hid (Box.below B_r.out bb B_r.out.lt)
  replace V_x := Lib.hid (Rd.below V_x.out bb)
  replace V_y := Lib.hid (Rd.below V_y.out bb)
  replace HB := Lib.hid (nextw HB.out bb)
  have HX := Lib.hid hmx
  clear hmx hu1 bb HV1 HL1
  have c0y := B_y.out.c0
  have c1y := B_y.out.c1
  go_wp2_with fail
  clear c0y c1y
  obtain ⟨l2, hu2, hi2, hl2⟩ := Rd.u32 V_y.out
  have hv2 := ival_abs s2 l2
  rw [hi2, EY.out] at hv2
  have HV2 := Lib.hid hv2
  have HL2 := Lib.hid hl2
  clear hi2 hv2 hl2
  refine (rtrim_any _ l2 _ hu2 (by have := HL2.out; omega)).mono ?_
  rintro e w2 ⟨Ay, cy, rfl, hmy, bb⟩
  rw [← HV2.out] at hmy ⊢
  replace HX := Lib.hid (Mag.below HX.out bb)
  replace B_x := Lib.hid (Box.below B_x.out bb B_x.out.lt)
  replace B_y := Lib.hid (Box.below B_y.out bb B_y.out.lt)
  replace B_r := Lib.hid (Box.below B_r.out bb B_r.out.lt)
  replace V_x := Lib.hid (Rd.below V_x.out bb)
  replace V_y := Lib.hid (Rd.below V_y.out bb)
  replace HB := Lib.hid (nextw HB.out bb)
  have HY := Lib.hid hmy
  clear hmy hu2 bb HV2 HL2
  clear HX HY
  have hz := HZ.out
  subst hz
  rw [digs_zero]
  simp only [List.length_nil]
  have c0x := B_x.out.c0
  have c1x := B_x.out.c1
  go_wp2_with fail
  refine (RAbs_rd (Rd.below V_x.out (by exact ⟨rfl, rfl, rfl, Nat.le_refl _, fun _ _ => rfl⟩)) f1).mono ?_
  rintro e w1 ⟨v, rfl, rr, bb⟩
  replace bb := nextw (w0 := w2) (by exact ⟨rfl, rfl, rfl, Nat.le_refl _, fun _ _ => rfl⟩) bb
  clear c0x c1x
  replace B_x := Lib.hid (Box.below B_x.out bb B_x.out.lt)
  replace B_y := Lib.hid (Box.below B_y.out bb B_y.out.lt)
  replace B_r := Lib.hid (Box.below B_r.out bb B_r.out.lt)
  replace V_x := Lib.hid (Rd.below V_x.out bb)
  replace V_y := Lib.hid (Rd.below V_y.out bb)
  replace HB := Lib.hid (nextw HB.out bb)
  clear bb
  obtain ⟨sr, Ar, kr, cr, rfl⟩ := rr.shape
  have V_r := Lib.hid rr
  clear rr
  rw [EX.out] at V_r
  have bS := Box.store B_r.out sr (.slice Ar kr cr)
  have s0 := bS.c0
  have s1 := bS.c1
  have K_r := Lib.hid (Box.keepsRc B_r.out V_r.out sr (.slice Ar kr cr))
  have HBF := Lib.hid (Below.store HB.out (x := w.heap.size + 2) (by omega) (.bool sr) (.slice Ar kr cr))
  clear bS
  have c0r := B_r.out.c0
  have c1r := B_r.out.c1
  have f0r := B_r.out.f0
  have f1r := B_r.out.f1
  go_wp2_with fail
  generalize (w1.setCell ⟨w.heap.size + 2, 0, none⟩ (.bool sr)).setCell ⟨w.heap.size + 2, 1, none⟩ (.slice Ar kr cr) = WF at *
  go_wp2
  exact bodyPost_ret (v := .agg #[.bool sr, (.slice Ar kr cr)]) (by simp [results, Tryz.results89, go_sem, s0, s1]) rfl ⟨_, rfl, by rw [Nat.gcd_zero_right]; exact Rc.more K_r.out (by omega), HBF.out⟩

set_option maxRecDepth 100000 in
set_option maxHeartbeats 16000000 in
theorem RGcd_main {v1 v2 : Value} {z1 z2 : Int} {n1 n2 : Nat} {w : World} (h1 : Rd w v1 z1 n1) (h2 : Rd w v2 z2 n2) (f1 : n1 ≤ 50000) (f2 : n2 ≤ 50000) (h9 : z1 ≠ 0) (h0 : z2 ≠ 0) :
    Calls Tryz.prog 89 #[v1, v2] w fun e w' => ∃ v, e = .returned v ∧ Rc w' v (Nat.gcd z1.natAbs z2.natAbs : Nat) (n1 + n2) ∧ Below w.heap.size w w' := by
  have H1a := h1.abs
  have H2a := h2.abs
  obtain ⟨X, hX⟩ : ∃ X, z1.natAbs = X := ⟨_, rfl⟩
  obtain ⟨Y, hY⟩ : ∃ Y, z2.natAbs = Y := ⟨_, rfl⟩
  rw [hX] at H1a ⊢
  rw [hY] at H2a ⊢
  have HA1 := Lib.hid H1a
  have HA2 := Lib.hid H2a
  have EX := Lib.hid hX
  have EY := Lib.hid hY
  have hlx : (((digs X).length : Int) == 0) = false := by rw [beq_eq_false_iff_ne]; intro h; have := nat_len_zero.1 (by omega : (digs X).length = 0); omega
  have hly : (((digs Y).length : Int) == 0) = false := by rw [beq_eq_false_iff_ne]; intro h; have := nat_len_zero.1 (by omega : (digs Y).length = 0); omega
  have HP : Hid (0 < X ∧ 0 < Y) := by unfold Hid; omega
  obtain ⟨g, hg⟩ : ∃ g, Nat.gcd X Y = g := ⟨_, rfl⟩
  rw [hg]
  have HG := Lib.hid hg
  clear H1a H2a hX hY h0 h9 hg
  obtain ⟨s1, A1, k1, c1, rfl, -⟩ := h1.shape
  obtain ⟨s2, A2, k2, c2, rfl, -⟩ := h2.shape
  have V_x := Lib.hid h1
  have V_y := Lib.hid h2
  clear h1 h2
  have hb0 : Below w.heap.size w (((w.alloc (.cells #[.bool s1, (.slice A1 k1 c1)] 24)).alloc (.cells #[.bool s2, (.slice A2 k2 c2)] 24)).alloc (.cells #[.bool false, (.slice none 0 0)] 24)) := (Below.alloc (Below.alloc (Below.alloc (Below.refl w.heap.size w) (by simp <;> omega) _) (by simp <;> omega) _) (by simp <;> omega) _)
  have B_x : Box (((w.alloc (.cells #[.bool s1, (.slice A1 k1 c1)] 24)).alloc (.cells #[.bool s2, (.slice A2 k2 c2)] 24)).alloc (.cells #[.bool false, (.slice none 0 0)] 24)) (w.heap.size) s1 (.slice A1 k1 c1) := by have h := Box.alloc (Box.alloc (Box.new w s1 (.slice A1 k1 c1)) (.cells #[.bool s2, (.slice A2 k2 c2)] 24)) (.cells #[.bool false, (.slice none 0 0)] 24); simpa using h
  replace B_x := Lib.hid B_x
  have B_y : Box (((w.alloc (.cells #[.bool s1, (.slice A1 k1 c1)] 24)).alloc (.cells #[.bool s2, (.slice A2 k2 c2)] 24)).alloc (.cells #[.bool false, (.slice none 0 0)] 24)) (w.heap.size + 1) s2 (.slice A2 k2 c2) := by have h := Box.alloc (Box.new (w.alloc (.cells #[.bool s1, (.slice A1 k1 c1)] 24)) s2 (.slice A2 k2 c2)) (.cells #[.bool false, (.slice none 0 0)] 24); simpa using h
  replace B_y := Lib.hid B_y
  have B_r : Box (((w.alloc (.cells #[.bool s1, (.slice A1 k1 c1)] 24)).alloc (.cells #[.bool s2, (.slice A2 k2 c2)] 24)).alloc (.cells #[.bool false, (.slice none 0 0)] 24)) (w.heap.size + 2) false (.slice none 0 0) := by have h := Box.new ((w.alloc (.cells #[.bool s1, (.slice A1 k1 c1)] 24)).alloc (.cells #[.bool s2, (.slice A2 k2 c2)] 24)) false (.slice none 0 0); simpa using h
  replace B_r := Lib.hid B_r
  replace V_x := Lib.hid (Rd.below V_x.out hb0)
  replace V_y := Lib.hid (Rd.below V_y.out hb0)
  have HB := Lib.hid hb0
  clear hb0
  have c0x := B_x.out.c0
  have c1x := B_x.out.c1
  go_enter Tryz.func89, Tryz.ntmps89
  go_wp2_with fail
  clear c0x c1x
  generalize ((w.alloc (.cells #[.bool s1, (.slice A1 k1 c1)] 24)).alloc (.cells #[.bool s2, (.slice A2 k2 c2)] 24)).alloc (.cells #[.bool false, (.slice none 0 0)] 24) = W0 at *
  obtain ⟨l1, hu1, hi1, hl1⟩ := Rd.u32 V_x.out
  have hv1 := ival_abs s1 l1
  rw [hi1, EX.out] at hv1
  have HV1 := Lib.hid hv1
  have HL1 := Lib.hid hl1
  clear hi1 hv1 hl1
  refine (rtrim_any _ l1 _ hu1 (by have := HL1.out; omega)).mono ?_
  rintro e w1 ⟨Ax, cx, rfl, hmx, bb⟩
  rw [← HV1.out] at hmx ⊢
  replace B_x := Lib.hid (Box.below B_x.out bb B_x.out.lt)
  replace B_y := Lib.hid (Box.below B_y.out bb B_y.out.lt)
  replace B_r := Lib.hid (Box.below B_r.out bb B_r.out.lt)
  replace V_x := Lib.hid (Rd.below V_x.out bb)
  replace V_y := Lib.hid (Rd.below V_y.out bb)
  replace HB := Lib.hid (nextw HB.out bb)
  have HX := Lib.hid hmx
  clear hmx hu1 bb HV1 HL1
  have c0y := B_y.out.c0
  have c1y := B_y.out.c1
  go_wp2_with fail
  clear c0y c1y
  obtain ⟨l2, hu2, hi2, hl2⟩ := Rd.u32 V_y.out
  have hv2 := ival_abs s2 l2
  rw [hi2, EY.out] at hv2
  have HV2 := Lib.hid hv2
  have HL2 := Lib.hid hl2
  clear hi2 hv2 hl2
  refine (rtrim_any _ l2 _ hu2 (by have := HL2.out; omega)).mono ?_
  rintro e w2 ⟨Ay, cy, rfl, hmy, bb⟩
  rw [← HV2.out] at hmy ⊢
  replace HX := Lib.hid (Mag.below HX.out bb)
  replace B_x := Lib.hid (Box.below B_x.out bb B_x.out.lt)
  replace B_y := Lib.hid (Box.below B_y.out bb B_y.out.lt)
  replace B_r := Lib.hid (Box.below B_r.out bb B_r.out.lt)
  replace V_x := Lib.hid (Rd.below V_x.out bb)
  replace V_y := Lib.hid (Rd.below V_y.out bb)
  replace HB := Lib.hid (nextw HB.out bb)
  have HY := Lib.hid hmy
  clear hmy hu2 bb HV2 HL2
  have S0 : Hid (GAt w w2 X Y g (.slice Ax (digs X).length cx) (.slice Ay (digs Y).length cy) X Y 0) := ⟨HX.out, HY.out, HP.out.1, HP.out.2, Nat.le_refl _, Nat.le_refl _, by rw [HG.out]; simp, HB.out, B_r.out⟩
  have HLX : Hid ((digs X).length ≤ 50000) := Nat.le_trans (digs_length_le HA1.out) f1
  have HLY : Hid ((digs Y).length ≤ 50000) := Nat.le_trans (digs_length_le HA2.out) f2
  clear HX HY B_x B_y B_r V_x V_y HB EX EY
  go_wp2_with fail
  clear hlx hly
  go_loopg [5, 6, 7] X (fun k vx vy tv wr => ∃ (A1 A2 : Option Addr) (c1 c2 y t : Nat), vx = .slice A1 (digs k).length c1 ∧ vy = .slice A2 (digs y).length c2 ∧ tv = .int .i64 t ∧ GAt w wr X Y g (.slice A1 (digs k).length c1) (.slice A2 (digs y).length c2) k y t)
  case atStart => exact ⟨_, _, _, _, _, 0, rfl, rfl, rfl, S0.out⟩
  case round =>
    obtain ⟨P1, P2, c1, c2, y, t, rfl, rfl, rfl, hs⟩ := hrel
    clear S0
    have HS := Lib.hid hs
    have hlen1 : (digs gk).length ≤ 50000 := Nat.le_trans (length_mono hs.xX) HLX.out
    have hlen2 : (digs y).length ≤ 50000 := Nat.le_trans (length_mono hs.yY) HLY.out
    obtain ⟨b1, o1, x0, rfl, hb1, hcx, hpx, hlp1, -⟩ := first_cell hs.mx hs.x0
    obtain ⟨b2, o2, y0, rfl, hb2, hcy, hpy, hlp2, -⟩ := first_cell hs.my hs.y0
    have htb : t < 1600000 := by
      have hd : Nat.gcd gk y ≤ gk := Nat.gcd_le_left y hs.x0
      rcases twos_bound (x := Nat.gcd gk y) (t := t) (X := X) (g := g) (n := n1) (Y := Y) (by rw [← HG.out]; exact Nat.gcd_le_left _ HP.out.1) (Nat.gcd_pos_of_pos_left _ hs.x0) hs.gcd HA1.out with h | h
      · omega
      · have h2 := HA1.out
        rw [h, Nat.pow_zero] at h2
        have := HP.out.1
        omega
    have HT := Lib.hid htb
    clear hs
    by_cases hx2 : gk % 2 = 0
    · by_cases hy2 : y % 2 = 0
      · have ex : (x0 : Int) % 2 = 0 := by omega
        have ey : (y0 : Int) % 2 = 0 := by omega
        have HXY := Lib.hid (And.intro hx2 hy2)
        clear hx2 hy2 hpx hpy
        go_wp2_with fail
        refine (rhalf_mag HS.out.mx (by omega)).mono ?_
        rintro e w3 ⟨Q1, d1, rfl, m1, bb⟩
        have M1 := Lib.hid m1
        have HBB := Lib.hid bb
        have MY := Lib.hid (Mag.below HS.out.my bb)
        clear m1 bb
        go_wp2_with fail
        refine (rhalf_mag MY.out (by omega)).mono ?_
        rintro e w4 ⟨Q2, d2, rfl, m2, bb⟩
        have HN : Hid (GAt w w4 X Y g (.slice Q1 (digs (gk / 2)).length d1) (.slice Q2 (digs (y / 2)).length d2) (gk / 2) (y / 2) (t + 1)) :=
          HS.out.next (nextw HBB.out bb) (Mag.below M1.out bb) m2 (by have := HS.out.x0; have := HXY.out; omega) (by have := HS.out.y0; have := HXY.out; omega) (Nat.div_le_self _ _) (Nat.div_le_self _ _) (by rw [gcd_halves HXY.out.1 HXY.out.2, Nat.pow_succ, Nat.mul_comm (2 ^ t) 2, ← Nat.mul_assoc])
        have HX0 := Lib.hid HS.out.x0
        clear m2 bb MY HBB M1
        go_wp2_with fail
        go_roundg (gk / 2)
        case measure => have := HX0.out; omega
        case rel => exact ⟨_, _, _, _, _, t + 1, rfl, rfl, by go_num, HN.out⟩
      · skip
        have ex : (x0 : Int) % 2 = 0 := by omega
        have ey : (y0 : Int) % 2 = 1 := by omega
        have HXY : Hid (¬ (gk % 2 = 0 ∧ y % 2 = 0)) := by unfold Hid; omega
        go_wp2_with fail
        obtain ⟨x1, hx1⟩ : ∃ x1, gk = x1 := ⟨_, rfl⟩
        rw [hx1] at HS HXY ⊢
        obtain ⟨wo, hwo⟩ : ∃ wo, wr = wo := ⟨_, rfl⟩
        rw [hwo] at HS ⊢
        clear hlen1 hlen2 hb1 hb2 hcx hcy hlp1 hlp2 hpx hpy ex ey
        have HT' := HT
        go_loopg [5, 6] (x1 + y) (fun k vx vy wr => ∃ (A1 A2 : Option Addr) (c1 c2 x y : Nat), k = x + y ∧ vx = .slice A1 (digs x).length c1 ∧ vy = .slice A2 (digs y).length c2 ∧ ¬ (x % 2 = 0 ∧ y % 2 = 0) ∧ GAt w wr X Y g (.slice A1 (digs x).length c1) (.slice A2 (digs y).length c2) x y t)
        case atStart => exact ⟨_, _, _, _, x1, y, rfl, rfl, rfl, HXY.out, HS.out⟩
        case round =>
          clear HS HXY hx1 hwo
          obtain ⟨P1, P2, c1, c2, x, y, hk, rfl, rfl, hxy, hs⟩ := hrel
          have HK := Lib.hid hk
          have HS := Lib.hid hs
          have HXY := Lib.hid hxy
          have hlen1 : (digs x).length ≤ 50000 := Nat.le_trans (length_mono hs.xX) HLX.out
          have hlen2 : (digs y).length ≤ 50000 := Nat.le_trans (length_mono hs.yY) HLY.out
          clear hk hs hxy
          by_cases heq : x = y
          · have HE := Lib.hid heq
            clear heq
            go_wp2_with fail
            refine (rcmp_lit HS.out.mx HS.out.my (by omega) (by omega) (c := 0) (by rw [HE.out]; unfold cmpI; rw [if_neg (by omega), if_neg (by omega)])).mono ?_
            rintro e w3 ⟨rfl, bb⟩
            have HGX : Hid (x * 2 ^ t = g) := by unfold Hid; rw [← HS.out.gcd, ← HE.out, Nat.gcd_self]
            have HXX := Lib.hid HS.out.xX
            have HM := Lib.hid (Mag.below HS.out.mx bb)
            have HBB := Lib.hid (nextw HS.out.below bb)
            have HR := Lib.hid (Box.below HS.out.r bb HS.out.r.lt)
            have HGL : Hid (g ≤ X) := by unfold Hid; rw [← HG.out]; exact Nat.gcd_le_left _ HP.out.1
            clear bb HS HE HK HXY hlen1 hlen2
            go_wp2_with fail
            obtain ⟨wo2, hwo2⟩ : ∃ wo, w3 = wo := ⟨_, rfl⟩
            rw [hwo2] at HM HBB HR ⊢
            have ht0 := HT.out
            go_loopw [5, 8] (fun vx i wr => ∃ (j c : Nat) (A : Option Addr), j ≤ t ∧ i = .int .i64 j ∧ vx = .slice A (digs (x * 2 ^ j)).length c ∧ Mag wr (.slice A (digs (x * 2 ^ j)).length c) (x * 2 ^ j) ∧ Below w.heap.size w wr ∧ Box wr (w.heap.size + 2) false (.slice none 0 0)) (fun _ i _ => t - (intOf i).toNat)
            case atStart => exact ⟨0, c1, P1, Nat.zero_le _, rfl, by simp, by simpa using HM.out, HBB.out, HR.out⟩
            case round =>
              clear HM HBB HR hwo2
              obtain ⟨j, c, A, hj, rfl, rfl, hm, hb, hr⟩ := hrel
              have HM := Lib.hid hm
              have HBB := Lib.hid hb
              have HR := Lib.hid hr
              have hll : (digs (x * 2 ^ j)).length ≤ 50000 := by
                refine Nat.le_trans (length_mono ?_) HLX.out
                refine Nat.le_trans ?_ (Nat.le_trans (Nat.le_of_eq HGX.out) HGL.out)
                exact Nat.mul_le_mul_left _ (Nat.pow_le_pow_right (by omega) hj)
              clear hm hb hr
              by_cases hjt : j < t
              · go_wp2_with fail
                refine (gadd_mag HM.out HM.out (by omega) (by omega)).mono ?_
                rw [show x * 2 ^ j + x * 2 ^ j = x * 2 ^ (j + 1) by rw [Nat.pow_succ, ← Nat.mul_assoc]; omega]
                rintro e w4 ⟨Q, d, rfl, m4, bb⟩
                have HN := Lib.hid (And.intro m4 (And.intro (nextw HBB.out bb) (Box.below HR.out bb HR.out.lt)))
                clear m4 bb
                go_wp2_with fail
                go_roundw
                case rel => exact ⟨j + 1, d, Q, by omega, by go_num, rfl, HN.out.1, HN.out.2.1, HN.out.2.2⟩
                case measure => simp only [intOf]; omega
              · obtain rfl : j = t := by omega
                have bS := HR.out.store false (.slice A (digs (x * 2 ^ j)).length c)
                have s0 := bS.c0
                have s1 := bS.c1
                have HF : Hid (Rc ((wr.setCell ⟨w.heap.size + 2, 0, none⟩ (.bool false)).setCell ⟨w.heap.size + 2, 1, none⟩ (.slice A (digs (x * 2 ^ j)).length c)) (.agg #[.bool false, .slice A (digs (x * 2 ^ j)).length c]) (g : Nat) (n1 + n2)) :=
                  ⟨can_mk (HR.out.keeps HM.out false (.slice A (digs (x * 2 ^ j)).length c)) (by rw [HGX.out]; omega) (by rw [decide_eq_false (by omega)]), by rw [Int.natAbs_natCast]; exact Nat.lt_of_le_of_lt HGL.out (Nat.lt_of_lt_of_le HA1.out (pow_mono (by omega)))⟩
                have HBF := Lib.hid (Below.store HBB.out (x := w.heap.size + 2) (by omega) (.bool false) (.slice A (digs (x * 2 ^ j)).length c))
                have c0 := HR.out.c0
                have c1' := HR.out.c1
                have f0 := HR.out.f0
                have f1' := HR.out.f1
                clear HM HBB HR HGX bS
                generalize (digs (x * 2 ^ j)).length = K at *
                go_wp2_with fail
                generalize (wr.setCell ⟨w.heap.size + 2, 0, none⟩ (.bool false)).setCell ⟨w.heap.size + 2, 1, none⟩ (.slice A K c) = WF at *
                go_wp2
                exact bodyPost_ret (v := .agg #[.bool false, .slice A K c]) (by simp [results, Tryz.results89, go_sem, s0, s1]) rfl ⟨_, rfl, HF.out, HBF.out⟩
          · obtain ⟨b1, o1, x0, rfl, hb1, hcx, hpx, hlp1, -⟩ := first_cell HS.out.mx HS.out.x0
            obtain ⟨b2, o2, y0, rfl, hb2, hcy, hpy, hlp2, -⟩ := first_cell HS.out.my HS.out.y0
            by_cases hx2 : x % 2 = 0
            · have ex : (x0 : Int) % 2 = 0 := by omega
              have HNE := Lib.hid heq
              have HX2 := Lib.hid hx2
              clear heq hx2 hpx hpy
              go_wp2_with fail
              refine (rcmp_ne HS.out.mx HS.out.my (by omega) (by omega) HNE.out).mono ?_
              rintro e w3 ⟨cc, hcc, rfl, bb⟩
              have MX := Lib.hid (Mag.below HS.out.mx bb)
              have MY := Lib.hid (Mag.below HS.out.my bb)
              have HBB := Lib.hid bb
              have hcx' := (bb.cell (p := ⟨b1, o1, none⟩) hb1).trans hcx
              clear bb
              go_wp2_with fail
              refine (rhalf_mag MX.out (by omega)).mono ?_
              rintro e w4 ⟨Q1, d1, rfl, m1, bb⟩
              have HN : Hid (GAt w w4 X Y g (.slice Q1 (digs (x / 2)).length d1) (.slice (some ⟨b2, o2, none⟩) (digs y).length c2) (x / 2) y t) :=
                HS.out.next (nextw HBB.out bb) m1 (Mag.below MY.out bb) (by have := HS.out.x0; have := HX2.out; omega) HS.out.y0 (Nat.div_le_self _ _) (Nat.le_refl _) (by rw [gcd_half_left HX2.out (fun h => HXY.out ⟨HX2.out, h⟩)])
              have HX0 := Lib.hid HS.out.x0
              have HOD : Hid (¬ (x / 2 % 2 = 0 ∧ y % 2 = 0)) := fun h => HXY.out ⟨HX2.out, h.2⟩
              clear m1 bb MX MY HBB HS hcx'
              go_wp2_with fail
              go_roundg (x / 2 + y)
              case measure => have := HX0.out; have := HK.out; omega
              case rel => exact ⟨_, _, _, _, x / 2, y, rfl, rfl, rfl, HOD.out, HN.out⟩
            · have ex : (x0 : Int) % 2 = 1 := by omega
              by_cases hy2 : y % 2 = 0
              · have ey : (y0 : Int) % 2 = 0 := by omega
                have HNE := Lib.hid heq
                have HX2 := Lib.hid hx2
                have HY2 := Lib.hid hy2
                clear heq hx2 hy2 hpx hpy
                go_wp2_with fail
                refine (rcmp_ne HS.out.mx HS.out.my (by omega) (by omega) HNE.out).mono ?_
                rintro e w3 ⟨cc, hcc, rfl, bb⟩
                have MX := Lib.hid (Mag.below HS.out.mx bb)
                have MY := Lib.hid (Mag.below HS.out.my bb)
                have HBB := Lib.hid bb
                have hcx' := (bb.cell (p := ⟨b1, o1, none⟩) hb1).trans hcx
                have hcy' := (bb.cell (p := ⟨b2, o2, none⟩) hb2).trans hcy
                clear bb
                go_wp2_with fail
                refine (rhalf_mag MY.out (by omega)).mono ?_
                rintro e w4 ⟨Q1, d1, rfl, m1, bb⟩
                have HN : Hid (GAt w w4 X Y g (.slice (some ⟨b1, o1, none⟩) (digs x).length c1) (.slice Q1 (digs (y / 2)).length d1) x (y / 2) t) :=
                  HS.out.next (nextw HBB.out bb) (Mag.below MX.out bb) m1 HS.out.x0 (by have := HS.out.y0; have := HY2.out; omega) (Nat.le_refl _) (Nat.div_le_self _ _) (by rw [gcd_half_right HY2.out HX2.out])
                have HX0 := Lib.hid HS.out.y0
                have HOD : Hid (¬ (x % 2 = 0 ∧ y / 2 % 2 = 0)) := fun h => HX2.out h.1
                clear m1 bb MX MY HBB HS hcx' hcy'
                go_wp2_with fail
                go_roundg (x + y / 2)
                case measure => have := HX0.out; have := HK.out; omega
                case rel => exact ⟨_, _, _, _, x, y / 2, rfl, rfl, rfl, HOD.out, HN.out⟩
              · have ey : (y0 : Int) % 2 = 1 := by omega
                have HX2 := Lib.hid hx2
                have HY2 := Lib.hid hy2
                clear hx2 hy2 hpx hpy
                rcases Nat.lt_or_gt_of_ne heq with hlt | hlt
                · have HLT := Lib.hid hlt
                  clear heq hlt
                  go_wp2_with fail
                  refine (rcmp_lit HS.out.mx HS.out.my (by omega) (by omega) (c := -1) (by have := HLT.out; unfold cmpI; rw [if_pos (by omega)])).mono ?_
                  rintro e w3 ⟨rfl, bb⟩
                  have MX := Lib.hid (Mag.below HS.out.mx bb)
                  have MY := Lib.hid (Mag.below HS.out.my bb)
                  have HBB := Lib.hid bb
                  have hcx' := (bb.cell (p := ⟨b1, o1, none⟩) hb1).trans hcx
                  have hcy' := (bb.cell (p := ⟨b2, o2, none⟩) hb2).trans hcy
                  clear bb
                  go_wp2_with fail
                  refine (rcmp_lit MX.out MY.out (by omega) (by omega) (c := -1) (by have := HLT.out; unfold cmpI; rw [if_pos (by omega)])).mono ?_
                  rintro e w4 ⟨rfl, bb⟩
                  replace MX := Lib.hid (Mag.below MX.out bb)
                  replace MY := Lib.hid (Mag.below MY.out bb)
                  replace HBB := Lib.hid (nextw HBB.out bb)
                  clear bb
                  go_wp2_with fail
                  refine (gsub_mag MY.out MX.out (by omega) (Nat.le_of_lt HLT.out)).mono ?_
                  rintro e w5 ⟨Q1, d1, rfl, m1, bb⟩
                  have HN : Hid (GAt w w5 X Y g (.slice (some ⟨b1, o1, none⟩) (digs x).length c1) (.slice Q1 (digs (y - x)).length d1) x (y - x) t) :=
                    HS.out.next (nextw HBB.out bb) (Mag.below MX.out bb) m1 HS.out.x0 (by have := HLT.out; omega) (Nat.le_refl _) (Nat.sub_le _ _) (by rw [gcd_sub_r (Nat.le_of_lt HLT.out)])
                  have HX0 := Lib.hid HS.out.x0
                  have HOD : Hid (¬ (x % 2 = 0 ∧ (y - x) % 2 = 0)) := fun h => HX2.out h.1
                  clear m1 bb MX MY HBB HS hcx' hcy'
                  go_wp2_with fail
                  go_roundg (x + (y - x))
                  case measure => have := HX0.out; have := HK.out; have := HLT.out; omega
                  case rel => exact ⟨_, _, _, _, x, y - x, rfl, rfl, rfl, HOD.out, HN.out⟩
                · have HLT := Lib.hid hlt
                  clear heq hlt
                  go_wp2_with fail
                  refine (rcmp_lit HS.out.mx HS.out.my (by omega) (by omega) (c := 1) (by have := HLT.out; unfold cmpI; rw [if_neg (by omega), if_pos (by omega)])).mono ?_
                  rintro e w3 ⟨rfl, bb⟩
                  have MX := Lib.hid (Mag.below HS.out.mx bb)
                  have MY := Lib.hid (Mag.below HS.out.my bb)
                  have HBB := Lib.hid bb
                  have hcx' := (bb.cell (p := ⟨b1, o1, none⟩) hb1).trans hcx
                  have hcy' := (bb.cell (p := ⟨b2, o2, none⟩) hb2).trans hcy
                  clear bb
                  go_wp2_with fail
                  refine (rcmp_lit MX.out MY.out (by omega) (by omega) (c := 1) (by have := HLT.out; unfold cmpI; rw [if_neg (by omega), if_pos (by omega)])).mono ?_
                  rintro e w4 ⟨rfl, bb⟩
                  replace MX := Lib.hid (Mag.below MX.out bb)
                  replace MY := Lib.hid (Mag.below MY.out bb)
                  replace HBB := Lib.hid (nextw HBB.out bb)
                  clear bb
                  go_wp2_with fail
                  refine (gsub_mag MX.out MY.out (by omega) (Nat.le_of_lt HLT.out)).mono ?_
                  rintro e w5 ⟨Q1, d1, rfl, m1, bb⟩
                  have HN : Hid (GAt w w5 X Y g (.slice Q1 (digs (x - y)).length d1) (.slice (some ⟨b2, o2, none⟩) (digs y).length c2) (x - y) y t) :=
                    HS.out.next (nextw HBB.out bb) m1 (Mag.below MY.out bb) (by have := HLT.out; omega) HS.out.y0 (Nat.sub_le _ _) (Nat.le_refl _) (by rw [gcd_sub_l (Nat.le_of_lt HLT.out)])
                  have HX0 := Lib.hid HS.out.y0
                  have HOD : Hid (¬ ((x - y) % 2 = 0 ∧ y % 2 = 0)) := fun h => HY2.out h.2
                  clear m1 bb MX MY HBB HS hcx' hcy'
                  go_wp2_with fail
                  go_roundg (x - y + y)
                  case measure => have := HX0.out; have := HK.out; have := HLT.out; omega
                  case rel => exact ⟨_, _, _, _, x - y, y, rfl, rfl, rfl, HOD.out, HN.out⟩
    · skip
      have ex : (x0 : Int) % 2 = 1 := by omega
      have HXY : Hid (¬ (gk % 2 = 0 ∧ y % 2 = 0)) := by unfold Hid; omega
      go_wp2_with fail
      obtain ⟨x1, hx1⟩ : ∃ x1, gk = x1 := ⟨_, rfl⟩
      rw [hx1] at HS HXY ⊢
      obtain ⟨wo, hwo⟩ : ∃ wo, wr = wo := ⟨_, rfl⟩
      rw [hwo] at HS ⊢
      clear hlen1 hlen2 hb1 hb2 hcx hcy hlp1 hlp2 hpx hpy ex
      have HT' := HT
      go_loopg [5, 6] (x1 + y) (fun k vx vy wr => ∃ (A1 A2 : Option Addr) (c1 c2 x y : Nat), k = x + y ∧ vx = .slice A1 (digs x).length c1 ∧ vy = .slice A2 (digs y).length c2 ∧ ¬ (x % 2 = 0 ∧ y % 2 = 0) ∧ GAt w wr X Y g (.slice A1 (digs x).length c1) (.slice A2 (digs y).length c2) x y t)
      case atStart => exact ⟨_, _, _, _, x1, y, rfl, rfl, rfl, HXY.out, HS.out⟩
      case round =>
        clear HS HXY hx1 hwo
        obtain ⟨P1, P2, c1, c2, x, y, hk, rfl, rfl, hxy, hs⟩ := hrel
        have HK := Lib.hid hk
        have HS := Lib.hid hs
        have HXY := Lib.hid hxy
        have hlen1 : (digs x).length ≤ 50000 := Nat.le_trans (length_mono hs.xX) HLX.out
        have hlen2 : (digs y).length ≤ 50000 := Nat.le_trans (length_mono hs.yY) HLY.out
        clear hk hs hxy
        by_cases heq : x = y
        · have HE := Lib.hid heq
          clear heq
          go_wp2_with fail
          refine (rcmp_lit HS.out.mx HS.out.my (by omega) (by omega) (c := 0) (by rw [HE.out]; unfold cmpI; rw [if_neg (by omega), if_neg (by omega)])).mono ?_
          rintro e w3 ⟨rfl, bb⟩
          have HGX : Hid (x * 2 ^ t = g) := by unfold Hid; rw [← HS.out.gcd, ← HE.out, Nat.gcd_self]
          have HXX := Lib.hid HS.out.xX
          have HM := Lib.hid (Mag.below HS.out.mx bb)
          have HBB := Lib.hid (nextw HS.out.below bb)
          have HR := Lib.hid (Box.below HS.out.r bb HS.out.r.lt)
          have HGL : Hid (g ≤ X) := by unfold Hid; rw [← HG.out]; exact Nat.gcd_le_left _ HP.out.1
          clear bb HS HE HK HXY hlen1 hlen2
          go_wp2_with fail
          obtain ⟨wo2, hwo2⟩ : ∃ wo, w3 = wo := ⟨_, rfl⟩
          rw [hwo2] at HM HBB HR ⊢
          have ht0 := HT.out
          go_loopw [5, 8] (fun vx i wr => ∃ (j c : Nat) (A : Option Addr), j ≤ t ∧ i = .int .i64 j ∧ vx = .slice A (digs (x * 2 ^ j)).length c ∧ Mag wr (.slice A (digs (x * 2 ^ j)).length c) (x * 2 ^ j) ∧ Below w.heap.size w wr ∧ Box wr (w.heap.size + 2) false (.slice none 0 0)) (fun _ i _ => t - (intOf i).toNat)
          case atStart => exact ⟨0, c1, P1, Nat.zero_le _, rfl, by simp, by simpa using HM.out, HBB.out, HR.out⟩
          case round =>
            clear HM HBB HR hwo2
            obtain ⟨j, c, A, hj, rfl, rfl, hm, hb, hr⟩ := hrel
            have HM := Lib.hid hm
            have HBB := Lib.hid hb
            have HR := Lib.hid hr
            have hll : (digs (x * 2 ^ j)).length ≤ 50000 := by
              refine Nat.le_trans (length_mono ?_) HLX.out
              refine Nat.le_trans ?_ (Nat.le_trans (Nat.le_of_eq HGX.out) HGL.out)
              exact Nat.mul_le_mul_left _ (Nat.pow_le_pow_right (by omega) hj)
            clear hm hb hr
            by_cases hjt : j < t
            · go_wp2_with fail
              refine (gadd_mag HM.out HM.out (by omega) (by omega)).mono ?_
              rw [show x * 2 ^ j + x * 2 ^ j = x * 2 ^ (j + 1) by rw [Nat.pow_succ, ← Nat.mul_assoc]; omega]
              rintro e w4 ⟨Q, d, rfl, m4, bb⟩
              have HN := Lib.hid (And.intro m4 (And.intro (nextw HBB.out bb) (Box.below HR.out bb HR.out.lt)))
              clear m4 bb
              go_wp2_with fail
              go_roundw
              case rel => exact ⟨j + 1, d, Q, by omega, by go_num, rfl, HN.out.1, HN.out.2.1, HN.out.2.2⟩
              case measure => simp only [intOf]; omega
            · obtain rfl : j = t := by omega
              have bS := HR.out.store false (.slice A (digs (x * 2 ^ j)).length c)
              have s0 := bS.c0
              have s1 := bS.c1
              have HF : Hid (Rc ((wr.setCell ⟨w.heap.size + 2, 0, none⟩ (.bool false)).setCell ⟨w.heap.size + 2, 1, none⟩ (.slice A (digs (x * 2 ^ j)).length c)) (.agg #[.bool false, .slice A (digs (x * 2 ^ j)).length c]) (g : Nat) (n1 + n2)) :=
                ⟨can_mk (HR.out.keeps HM.out false (.slice A (digs (x * 2 ^ j)).length c)) (by rw [HGX.out]; omega) (by rw [decide_eq_false (by omega)]), by rw [Int.natAbs_natCast]; exact Nat.lt_of_le_of_lt HGL.out (Nat.lt_of_lt_of_le HA1.out (pow_mono (by omega)))⟩
              have HBF := Lib.hid (Below.store HBB.out (x := w.heap.size + 2) (by omega) (.bool false) (.slice A (digs (x * 2 ^ j)).length c))
              have c0 := HR.out.c0
              have c1' := HR.out.c1
              have f0 := HR.out.f0
              have f1' := HR.out.f1
              clear HM HBB HR HGX bS
              generalize (digs (x * 2 ^ j)).length = K at *
              go_wp2_with fail
              generalize (wr.setCell ⟨w.heap.size + 2, 0, none⟩ (.bool false)).setCell ⟨w.heap.size + 2, 1, none⟩ (.slice A K c) = WF at *
              go_wp2
              exact bodyPost_ret (v := .agg #[.bool false, .slice A K c]) (by simp [results, Tryz.results89, go_sem, s0, s1]) rfl ⟨_, rfl, HF.out, HBF.out⟩
        · obtain ⟨b1, o1, x0, rfl, hb1, hcx, hpx, hlp1, -⟩ := first_cell HS.out.mx HS.out.x0
          obtain ⟨b2, o2, y0, rfl, hb2, hcy, hpy, hlp2, -⟩ := first_cell HS.out.my HS.out.y0
          by_cases hx2 : x % 2 = 0
          · have ex : (x0 : Int) % 2 = 0 := by omega
            have HNE := Lib.hid heq
            have HX2 := Lib.hid hx2
            clear heq hx2 hpx hpy
            go_wp2_with fail
            refine (rcmp_ne HS.out.mx HS.out.my (by omega) (by omega) HNE.out).mono ?_
            rintro e w3 ⟨cc, hcc, rfl, bb⟩
            have MX := Lib.hid (Mag.below HS.out.mx bb)
            have MY := Lib.hid (Mag.below HS.out.my bb)
            have HBB := Lib.hid bb
            have hcx' := (bb.cell (p := ⟨b1, o1, none⟩) hb1).trans hcx
            clear bb
            go_wp2_with fail
            refine (rhalf_mag MX.out (by omega)).mono ?_
            rintro e w4 ⟨Q1, d1, rfl, m1, bb⟩
            have HN : Hid (GAt w w4 X Y g (.slice Q1 (digs (x / 2)).length d1) (.slice (some ⟨b2, o2, none⟩) (digs y).length c2) (x / 2) y t) :=
              HS.out.next (nextw HBB.out bb) m1 (Mag.below MY.out bb) (by have := HS.out.x0; have := HX2.out; omega) HS.out.y0 (Nat.div_le_self _ _) (Nat.le_refl _) (by rw [gcd_half_left HX2.out (fun h => HXY.out ⟨HX2.out, h⟩)])
            have HX0 := Lib.hid HS.out.x0
            have HOD : Hid (¬ (x / 2 % 2 = 0 ∧ y % 2 = 0)) := fun h => HXY.out ⟨HX2.out, h.2⟩
            clear m1 bb MX MY HBB HS hcx'
            go_wp2_with fail
            go_roundg (x / 2 + y)
            case measure => have := HX0.out; have := HK.out; omega
            case rel => exact ⟨_, _, _, _, x / 2, y, rfl, rfl, rfl, HOD.out, HN.out⟩
          · have ex : (x0 : Int) % 2 = 1 := by omega
            by_cases hy2 : y % 2 = 0
            · have ey : (y0 : Int) % 2 = 0 := by omega
              have HNE := Lib.hid heq
              have HX2 := Lib.hid hx2
              have HY2 := Lib.hid hy2
              clear heq hx2 hy2 hpx hpy
              go_wp2_with fail
              refine (rcmp_ne HS.out.mx HS.out.my (by omega) (by omega) HNE.out).mono ?_
              rintro e w3 ⟨cc, hcc, rfl, bb⟩
              have MX := Lib.hid (Mag.below HS.out.mx bb)
              have MY := Lib.hid (Mag.below HS.out.my bb)
              have HBB := Lib.hid bb
              have hcx' := (bb.cell (p := ⟨b1, o1, none⟩) hb1).trans hcx
              have hcy' := (bb.cell (p := ⟨b2, o2, none⟩) hb2).trans hcy
              clear bb
              go_wp2_with fail
              refine (rhalf_mag MY.out (by omega)).mono ?_
              rintro e w4 ⟨Q1, d1, rfl, m1, bb⟩
              have HN : Hid (GAt w w4 X Y g (.slice (some ⟨b1, o1, none⟩) (digs x).length c1) (.slice Q1 (digs (y / 2)).length d1) x (y / 2) t) :=
                HS.out.next (nextw HBB.out bb) (Mag.below MX.out bb) m1 HS.out.x0 (by have := HS.out.y0; have := HY2.out; omega) (Nat.le_refl _) (Nat.div_le_self _ _) (by rw [gcd_half_right HY2.out HX2.out])
              have HX0 := Lib.hid HS.out.y0
              have HOD : Hid (¬ (x % 2 = 0 ∧ y / 2 % 2 = 0)) := fun h => HX2.out h.1
              clear m1 bb MX MY HBB HS hcx' hcy'
              go_wp2_with fail
              go_roundg (x + y / 2)
              case measure => have := HX0.out; have := HK.out; omega
              case rel => exact ⟨_, _, _, _, x, y / 2, rfl, rfl, rfl, HOD.out, HN.out⟩
            · have ey : (y0 : Int) % 2 = 1 := by omega
              have HX2 := Lib.hid hx2
              have HY2 := Lib.hid hy2
              clear hx2 hy2 hpx hpy
              rcases Nat.lt_or_gt_of_ne heq with hlt | hlt
              · have HLT := Lib.hid hlt
                clear heq hlt
                go_wp2_with fail
                refine (rcmp_lit HS.out.mx HS.out.my (by omega) (by omega) (c := -1) (by have := HLT.out; unfold cmpI; rw [if_pos (by omega)])).mono ?_
                rintro e w3 ⟨rfl, bb⟩
                have MX := Lib.hid (Mag.below HS.out.mx bb)
                have MY := Lib.hid (Mag.below HS.out.my bb)
                have HBB := Lib.hid bb
                have hcx' := (bb.cell (p := ⟨b1, o1, none⟩) hb1).trans hcx
                have hcy' := (bb.cell (p := ⟨b2, o2, none⟩) hb2).trans hcy
                clear bb
                go_wp2_with fail
                refine (rcmp_lit MX.out MY.out (by omega) (by omega) (c := -1) (by have := HLT.out; unfold cmpI; rw [if_pos (by omega)])).mono ?_
                rintro e w4 ⟨rfl, bb⟩
                replace MX := Lib.hid (Mag.below MX.out bb)
                replace MY := Lib.hid (Mag.below MY.out bb)
                replace HBB := Lib.hid (nextw HBB.out bb)
                clear bb
                go_wp2_with fail
                refine (gsub_mag MY.out MX.out (by omega) (Nat.le_of_lt HLT.out)).mono ?_
                rintro e w5 ⟨Q1, d1, rfl, m1, bb⟩
                have HN : Hid (GAt w w5 X Y g (.slice (some ⟨b1, o1, none⟩) (digs x).length c1) (.slice Q1 (digs (y - x)).length d1) x (y - x) t) :=
                  HS.out.next (nextw HBB.out bb) (Mag.below MX.out bb) m1 HS.out.x0 (by have := HLT.out; omega) (Nat.le_refl _) (Nat.sub_le _ _) (by rw [gcd_sub_r (Nat.le_of_lt HLT.out)])
                have HX0 := Lib.hid HS.out.x0
                have HOD : Hid (¬ (x % 2 = 0 ∧ (y - x) % 2 = 0)) := fun h => HX2.out h.1
                clear m1 bb MX MY HBB HS hcx' hcy'
                go_wp2_with fail
                go_roundg (x + (y - x))
                case measure => have := HX0.out; have := HK.out; have := HLT.out; omega
                case rel => exact ⟨_, _, _, _, x, y - x, rfl, rfl, rfl, HOD.out, HN.out⟩
              · have HLT := Lib.hid hlt
                clear heq hlt
                go_wp2_with fail
                refine (rcmp_lit HS.out.mx HS.out.my (by omega) (by omega) (c := 1) (by have := HLT.out; unfold cmpI; rw [if_neg (by omega), if_pos (by omega)])).mono ?_
                rintro e w3 ⟨rfl, bb⟩
                have MX := Lib.hid (Mag.below HS.out.mx bb)
                have MY := Lib.hid (Mag.below HS.out.my bb)
                have HBB := Lib.hid bb
                have hcx' := (bb.cell (p := ⟨b1, o1, none⟩) hb1).trans hcx
                have hcy' := (bb.cell (p := ⟨b2, o2, none⟩) hb2).trans hcy
                clear bb
                go_wp2_with fail
                refine (rcmp_lit MX.out MY.out (by omega) (by omega) (c := 1) (by have := HLT.out; unfold cmpI; rw [if_neg (by omega), if_pos (by omega)])).mono ?_
                rintro e w4 ⟨rfl, bb⟩
                replace MX := Lib.hid (Mag.below MX.out bb)
                replace MY := Lib.hid (Mag.below MY.out bb)
                replace HBB := Lib.hid (nextw HBB.out bb)
                clear bb
                go_wp2_with fail
                refine (gsub_mag MX.out MY.out (by omega) (Nat.le_of_lt HLT.out)).mono ?_
                rintro e w5 ⟨Q1, d1, rfl, m1, bb⟩
                have HN : Hid (GAt w w5 X Y g (.slice Q1 (digs (x - y)).length d1) (.slice (some ⟨b2, o2, none⟩) (digs y).length c2) (x - y) y t) :=
                  HS.out.next (nextw HBB.out bb) m1 (Mag.below MY.out bb) (by have := HLT.out; omega) HS.out.y0 (Nat.sub_le _ _) (Nat.le_refl _) (by rw [gcd_sub_l (Nat.le_of_lt HLT.out)])
                have HX0 := Lib.hid HS.out.y0
                have HOD : Hid (¬ ((x - y) % 2 = 0 ∧ y % 2 = 0)) := fun h => HY2.out h.2
                clear m1 bb MX MY HBB HS hcx' hcy'
                go_wp2_with fail
                go_roundg (x - y + y)
                case measure => have := HX0.out; have := HK.out; have := HLT.out; omega
                case rel => exact ⟨_, _, _, _, x - y, y, rfl, rfl, rfl, HOD.out, HN.out⟩

theorem RGcd_rd {v1 v2 : Value} {z1 z2 : Int} {n1 n2 : Nat} {w : World} (h1 : Rd w v1 z1 n1) (h2 : Rd w v2 z2 n2) (f1 : n1 ≤ 50000) (f2 : n2 ≤ 50000) :
    Calls Tryz.prog 89 #[v1, v2] w fun e w' => ∃ v, e = .returned v ∧ Rc w' v (Nat.gcd z1.natAbs z2.natAbs : Nat) (n1 + n2) ∧ Below w.heap.size w w' := by
  by_cases h9 : z1 = 0
  · exact RGcd_zero1 h1 h2 f1 f2 h9
  · by_cases h0 : z2 = 0
    · exact RGcd_zero2 h1 h2 f1 f2 h9 h0
    · exact RGcd_main h1 h2 f1 f2 h9 h0

end Go.Proofs.YtldfamjlnphokaaGreatDoor
