/- The law HeadingRises. -/
import Derived.Test.YtincejndchdcdaaHAwake
namespace Go.Proofs.Ytincejndchdcdaa
open Go Go.RowKit Hd

theorem rots4 (v : V3) : rot (rots 3 v) = v := V3.eq (by show - -v.x = v.x; omega) (by show - -v.y = v.y; omega) rfl
theorem dir_64 (h : Int) : dir (h + 64) = rot (dir h) := by
  unfold dir dirM
  have e1 : (h + 64) % 256 % 64 = h % 256 % 64 := by omega
  rw [e1]
  by_cases hc : h % 256 < 192
  · have e2 : ((h + 64) % 256 / 64).toNat = (h % 256 / 64).toNat + 1 := by omega
    rw [e2]; rfl
  · have e2 : ((h + 64) % 256 / 64).toNat = 0 := by omega
    have e3 : (h % 256 / 64).toNat = 3 := by omega
    rw [e2, e3, rots4]; rfl
theorem dir_256 (h t : Int) : dir (h + 256 * t) = dir h := by
  unfold dir
  have : (h + 256 * t) % 256 = h % 256 := by omega
  rw [this]
theorem rise_all : (List.range 255).all (fun n => decide (cmpV (dir (n : Int)) (dir ((n : Int) + 1)) = -1)) = true := by decide +kernel
theorem rise (h : Int) (h0 : 0 ≤ h) (h1 : h < 255) : cmpV (dir h) (dir (h + 1)) = -1 := by
  obtain ⟨n, rfl⟩ := Int.eq_ofNat_of_zero_le h0
  exact of_decide_eq_true (List.all_eq_true.1 rise_all n (List.mem_range.2 (by omega)))
theorem Cmp_at {a b : V3} {r : Int} (ha : Ok a) (hb : Ok b) (h : cmpV a b = r) (w : World) :
    Calls Try.prog 21 #[vv a, vv b] w fun e w' => e = .returned (.int .i64 r) ∧ Below w.heap.size w w' := h ▸ Cmp_ok a b ha hb w
theorem cell_drew1' (w : World) (a : Addr) : w.drew.cell? a = w.cell? a := rfl

set_option maxRecDepth 100000 in
set_option maxHeartbeats 4000000 in
theorem Rises_last (h t : Int) (h1 : 255 ≤ h) (h2 : h ≤ 255) (t0 : -128 ≤ t) (t1 : t ≤ 127) (w : World) :
    Calls Try.prog 4 #[.int .u8 h, .int .i8 t] w fun e w' => e = .returned (.bool true) ∧ Below w.heap.size w w' := by
  obtain ⟨V, hV⟩ : ∃ V, dir h = V := ⟨_, rfl⟩
  have hok := (dir_ok h).1
  rw [hV] at hok
  have h64 := dir_64 h
  have h256 := dir_256 h t
  rw [hV] at h64 h256
  have HV := Lib.hid (fun w => Dir_at hV w)
  have H6 := Lib.hid (fun w => Dir_at h64 w)
  have H2 := Lib.hid (fun w => Dir_at h256 w)
  have HOK := Lib.hid (fun w => Valid_yes V hok w)
  have hbx := hok.bx
  have hby := hok.by_
  have hd1 := hok.lo
  have hd2 := hok.hi
  have HEQ := Lib.hid hok.eq
  clear hok hV h64 h256
  have HA := Lib.hid (fun w => awake_any w)
  obtain ⟨x, y, d⟩ := V
  simp only [rot] at hbx hby hd1 hd2 HEQ H6
  have HB := Lib.hid (Below.refl w.heap.size w)
  go_enter Try.func4, Try.ntmps4
  go_wp2_with fail
  refine (HA.out _).mono ?_
  rintro e w1 ⟨rfl, bb⟩
  replace bb := nextw (w0 := w) (by exact ⟨rfl, rfl, rfl, Nat.le_refl _, fun _ _ => rfl⟩) bb
  replace HB := Lib.hid (nextw HB.out bb)
  clear bb
  go_wp2_with fail
  refine (HV.out _).mono ?_
  rintro e w2 ⟨rfl, bb⟩
  replace bb := nextw (w0 := w1) (by exact ⟨rfl, rfl, rfl, Nat.le_refl _, fun _ _ => rfl⟩) bb
  replace HB := Lib.hid (nextw HB.out bb)
  clear bb
  have B_v := Lib.hid (Box3.new w2 x y d)
  replace HB := Lib.hid (nextw HB.out ((Below.refl w2.heap.size w2).alloc (Nat.le_refl _) (.cells #[.int .i64 x, .int .i64 y, .int .i64 d] 24)))
  go_upto_region 5 with (fail)
  generalize w2.alloc (.cells #[.int .i64 x, .int .i64 y, .int .i64 d] 24) = W1 at *
  clear HA HV
  have hl : decide (h < 255) = false := decide_eq_false (by omega)
  go_cut [27] (fun s27 wx => s27 = .bool false ∧ Box3 wx (w2.heap.size) x y d ∧ Below w.heap.size w wx)
  case first =>
    have c0v := B_v.out.c0
    have c1v := B_v.out.c1
    have c2v := B_v.out.c2
    have tk1x0 : True := trivial
    first | (go_region_with (first
      | (clear tk1x0; go_at_call 20; refine (HOK.out _).mono ?_; rintro e w3 ⟨rfl, bb⟩; replace bb := nextw (w0 := W1) (by exact ⟨rfl, rfl, rfl, Nat.le_refl _, fun _ _ => rfl⟩) bb; replace B_v := Lib.hid (Box3.below B_v.out bb B_v.out.lt); replace HB := Lib.hid (nextw HB.out bb); clear bb c0v c1v c2v; have c0v := B_v.out.c0; have c1v := B_v.out.c1; have c2v := B_v.out.c2; have tk1x1 : True := trivial))) | fail
    clear c0v c1v c2v
    all_goals go_wp2_with fail
    all_goals go_meet
    all_goals exact ⟨rfl, B_v.out, nextw HB.out (by exact ⟨rfl, rfl, rfl, Nat.le_refl _, fun _ _ => rfl⟩)⟩
  case rest =>
    rename World => wc4
    obtain ⟨rfl, b_v, hb⟩ := hcut
    replace B_v := Lib.hid b_v
    replace HB := Lib.hid hb
    clear hb b_v
    clear HOK hl
    go_upto_region 7 with (fail)
    have e1 : IntKind.i64.wrap (h + 64) = h + 64 := by rw [IntKind.wrap_i64]; omega
    have e2 : IntKind.i64.wrap (256 * t) = 256 * t := by rw [IntKind.wrap_i64]; omega
    have e3 : IntKind.i64.wrap (h + 256 * t) = h + 256 * t := by rw [IntKind.wrap_i64]; omega
    have e4 : IntKind.i64.wrap (-y) = -y := by rw [IntKind.wrap_i64]; omega
    have m1 := sq_bound (x := x) (d := d) (by omega) (by omega) (by omega)
    have m2 := sq_bound (x := y) (d := d) (by omega) (by omega) (by omega)
    have m3 := sq_bound (x := d) (d := d) (by omega) (by omega) (by omega)
    have e5 : IntKind.i64.wrap (x * x) = x * x := by rw [IntKind.wrap_i64]; omega
    have e6 : IntKind.i64.wrap (y * y) = y * y := by rw [IntKind.wrap_i64]; omega
    have e7 : IntKind.i64.wrap (d * d) = d * d := by rw [IntKind.wrap_i64]; omega
    have e8 : IntKind.i64.wrap (x * x + y * y) = x * x + y * y := by rw [IntKind.wrap_i64]; omega
    have e9 : (x * x + y * y == d * d) = true := by rw [HEQ.out]; simp
    have e10 : IntKind.i64.wrap t = t := by rw [IntKind.wrap_i64]; omega
    clear m1 m2 m3 hbx hby hd1 hd2 h1 t0 t1 h2
    go_wp2_with fail
    have c0v := B_v.out.c0
    have c1v := B_v.out.c1
    have c2v := B_v.out.c2
    have tk2x0 : True := trivial
    go_region_held3 (fun w' => w'.cell? ⟨w2.heap.size, 0, none⟩ = some (.int .i64 x) ∧ w'.cell? ⟨w2.heap.size, 1, none⟩ = some (.int .i64 y) ∧ w'.cell? ⟨w2.heap.size, 2, none⟩ = some (.int .i64 d)) (((try dsimp only); (repeat' apply And.intro) <;> (first | (with_reducible assumption) | ((repeat (first | (with_reducible refine Eq.trans (cell_drew1 _ _) ?_) | (with_reducible refine Eq.trans (World.cell?_alloc_lt _ _ _ (by first | (dsimp only; omega) | (simp only [World.size_alloc, World.size_setCell]; omega))) ?_))); with_reducible assumption) | assumption | go_keep)))
    (first
      | (clear tk2x0; go_at_call 14; refine (H6.out _).mono ?_; rintro e w5 ⟨rfl, bb⟩; replace bb := nextw (w0 := wc4) (by exact ⟨rfl, rfl, rfl, Nat.le_refl _, fun _ _ => rfl⟩) bb; replace B_v := Lib.hid (Box3.below B_v.out bb B_v.out.lt); replace HB := Lib.hid (nextw HB.out bb); clear bb c0v c1v c2v; have c0v := B_v.out.c0; have c1v := B_v.out.c1; have c2v := B_v.out.c2; have tk2x1 : True := trivial)
      | (clear tk2x1; go_at_call 14; refine (H2.out _).mono ?_; rintro e w6 ⟨rfl, bb⟩; replace bb := nextw (w0 := w5) (by exact ⟨rfl, rfl, rfl, Nat.le_refl _, fun _ _ => rfl⟩) bb; replace B_v := Lib.hid (Box3.below B_v.out bb B_v.out.lt); replace HB := Lib.hid (nextw HB.out bb); clear bb c0v c1v c2v; have c0v := B_v.out.c0; have c1v := B_v.out.c1; have c2v := B_v.out.c2; have tk2x2 : True := trivial))
    clear c0v c1v c2v
    go_wp2
    go_ret
    exact ⟨rfl, nextw HB.out (by exact ⟨rfl, rfl, rfl, Nat.le_refl _, fun _ _ => rfl⟩)⟩

set_option maxRecDepth 100000 in
set_option maxHeartbeats 4000000 in
theorem Rises_most (h t : Int) (h0 : 0 ≤ h) (h1 : h < 255) (t0 : -128 ≤ t) (t1 : t ≤ 127) (w : World) :
    Calls Try.prog 4 #[.int .u8 h, .int .i8 t] w fun e w' => e = .returned (.bool true) ∧ Below w.heap.size w w' := by
  obtain ⟨V, hV⟩ : ∃ V, dir h = V := ⟨_, rfl⟩
  have hok := (dir_ok h).1
  rw [hV] at hok
  have h64 := dir_64 h
  have h256 := dir_256 h t
  rw [hV] at h64 h256
  obtain ⟨U, hU⟩ : ∃ U, dir (h + 1) = U := ⟨_, rfl⟩
  have hoku := (dir_ok (h + 1)).1
  have hr := rise h h0 (by omega)
  rw [hU] at hoku
  rw [hV, hU] at hr
  have HU := Lib.hid (fun w => Dir_at hU w)
  have HC := Lib.hid (fun w => Cmp_at hok hoku hr w)
  have HV := Lib.hid (fun w => Dir_at hV w)
  have H6 := Lib.hid (fun w => Dir_at h64 w)
  have H2 := Lib.hid (fun w => Dir_at h256 w)
  have HOK := Lib.hid (fun w => Valid_yes V hok w)
  have hbx := hok.bx
  have hby := hok.by_
  have hd1 := hok.lo
  have hd2 := hok.hi
  have HEQ := Lib.hid hok.eq
  clear hok hV h64 h256 hU hoku hr
  have HA := Lib.hid (fun w => awake_any w)
  obtain ⟨x, y, d⟩ := V
  obtain ⟨u, v, f⟩ := U
  simp only [rot] at hbx hby hd1 hd2 HEQ H6
  have HB := Lib.hid (Below.refl w.heap.size w)
  go_enter Try.func4, Try.ntmps4
  go_wp2_with fail
  refine (HA.out _).mono ?_
  rintro e w1 ⟨rfl, bb⟩
  replace bb := nextw (w0 := w) (by exact ⟨rfl, rfl, rfl, Nat.le_refl _, fun _ _ => rfl⟩) bb
  replace HB := Lib.hid (nextw HB.out bb)
  clear bb
  go_wp2_with fail
  refine (HV.out _).mono ?_
  rintro e w2 ⟨rfl, bb⟩
  replace bb := nextw (w0 := w1) (by exact ⟨rfl, rfl, rfl, Nat.le_refl _, fun _ _ => rfl⟩) bb
  replace HB := Lib.hid (nextw HB.out bb)
  clear bb
  have B_v := Lib.hid (Box3.new w2 x y d)
  replace HB := Lib.hid (nextw HB.out ((Below.refl w2.heap.size w2).alloc (Nat.le_refl _) (.cells #[.int .i64 x, .int .i64 y, .int .i64 d] 24)))
  go_upto_region 5 with (fail)
  generalize w2.alloc (.cells #[.int .i64 x, .int .i64 y, .int .i64 d] 24) = W1 at *
  clear HA HV
  have hl : decide (h < 255) = true := decide_eq_true (by omega)
  have hw : IntKind.i64.wrap (h + 1) = h + 1 := by rw [IntKind.wrap_i64]; omega
  go_wp2_with fail
  have c0v := B_v.out.c0
  have c1v := B_v.out.c1
  have c2v := B_v.out.c2
  have tk1x0 : True := trivial
  go_region_held3 (fun w' => w'.cell? ⟨w2.heap.size, 0, none⟩ = some (.int .i64 x) ∧ w'.cell? ⟨w2.heap.size, 1, none⟩ = some (.int .i64 y) ∧ w'.cell? ⟨w2.heap.size, 2, none⟩ = some (.int .i64 d)) (((try dsimp only); (repeat' apply And.intro) <;> (first | (with_reducible assumption) | ((repeat (first | (with_reducible refine Eq.trans (cell_drew1 _ _) ?_) | (with_reducible refine Eq.trans (World.cell?_alloc_lt _ _ _ (by first | (dsimp only; omega) | (simp only [World.size_alloc, World.size_setCell]; omega))) ?_))); with_reducible assumption) | assumption | go_keep)))
    (first
      | (clear tk1x0; go_at_call 20; refine (HOK.out _).mono ?_; rintro e w3 ⟨rfl, bb⟩; replace bb := nextw (w0 := W1) (by exact ⟨rfl, rfl, rfl, Nat.le_refl _, fun _ _ => rfl⟩) bb; replace B_v := Lib.hid (Box3.below B_v.out bb B_v.out.lt); replace HB := Lib.hid (nextw HB.out bb); clear bb c0v c1v c2v; have c0v := B_v.out.c0; have c1v := B_v.out.c1; have c2v := B_v.out.c2; have tk1x1 : True := trivial)
      | (clear tk1x1; go_at_call 14; refine (HU.out _).mono ?_; rintro e w4 ⟨rfl, bb⟩; replace bb := nextw (w0 := w3) (by exact ⟨rfl, rfl, rfl, Nat.le_refl _, fun _ _ => rfl⟩) bb; replace B_v := Lib.hid (Box3.below B_v.out bb B_v.out.lt); replace HB := Lib.hid (nextw HB.out bb); clear bb c0v c1v c2v; have c0v := B_v.out.c0; have c1v := B_v.out.c1; have c2v := B_v.out.c2; have tk1x2 : True := trivial)
      | (clear tk1x2; go_at_call 21; refine (HC.out _).mono ?_; rintro e w5 ⟨rfl, bb⟩; replace bb := nextw (w0 := w4) (by exact ⟨rfl, rfl, rfl, Nat.le_refl _, fun _ _ => rfl⟩) bb; replace B_v := Lib.hid (Box3.below B_v.out bb B_v.out.lt); replace HB := Lib.hid (nextw HB.out bb); clear bb c0v c1v c2v; have c0v := B_v.out.c0; have c1v := B_v.out.c1; have c2v := B_v.out.c2; have tk1x3 : True := trivial))
  clear HOK hl HU HC hw
  clear c0v c1v c2v
  go_upto_region 7 with (fail)
  have e1 : IntKind.i64.wrap (h + 64) = h + 64 := by rw [IntKind.wrap_i64]; omega
  have e2 : IntKind.i64.wrap (256 * t) = 256 * t := by rw [IntKind.wrap_i64]; omega
  have e3 : IntKind.i64.wrap (h + 256 * t) = h + 256 * t := by rw [IntKind.wrap_i64]; omega
  have e4 : IntKind.i64.wrap (-y) = -y := by rw [IntKind.wrap_i64]; omega
  have m1 := sq_bound (x := x) (d := d) (by omega) (by omega) (by omega)
  have m2 := sq_bound (x := y) (d := d) (by omega) (by omega) (by omega)
  have m3 := sq_bound (x := d) (d := d) (by omega) (by omega) (by omega)
  have e5 : IntKind.i64.wrap (x * x) = x * x := by rw [IntKind.wrap_i64]; omega
  have e6 : IntKind.i64.wrap (y * y) = y * y := by rw [IntKind.wrap_i64]; omega
  have e7 : IntKind.i64.wrap (d * d) = d * d := by rw [IntKind.wrap_i64]; omega
  have e8 : IntKind.i64.wrap (x * x + y * y) = x * x + y * y := by rw [IntKind.wrap_i64]; omega
  have e9 : (x * x + y * y == d * d) = true := by rw [HEQ.out]; simp
  have e10 : IntKind.i64.wrap t = t := by rw [IntKind.wrap_i64]; omega
  clear m1 m2 m3 hbx hby hd1 hd2 h1 t0 t1 h0
  go_wp2_with fail
  have c0v := B_v.out.c0
  have c1v := B_v.out.c1
  have c2v := B_v.out.c2
  have tk2x0 : True := trivial
  go_region_held3 (fun w' => w'.cell? ⟨w2.heap.size, 0, none⟩ = some (.int .i64 x) ∧ w'.cell? ⟨w2.heap.size, 1, none⟩ = some (.int .i64 y) ∧ w'.cell? ⟨w2.heap.size, 2, none⟩ = some (.int .i64 d)) (((try dsimp only); (repeat' apply And.intro) <;> (first | (with_reducible assumption) | ((repeat (first | (with_reducible refine Eq.trans (cell_drew1 _ _) ?_) | (with_reducible refine Eq.trans (World.cell?_alloc_lt _ _ _ (by first | (dsimp only; omega) | (simp only [World.size_alloc, World.size_setCell]; omega))) ?_))); with_reducible assumption) | assumption | go_keep)))
    (first
      | (clear tk2x0; go_at_call 14; refine (H6.out _).mono ?_; rintro e w6 ⟨rfl, bb⟩; replace bb := nextw (w0 := w5) (by exact ⟨rfl, rfl, rfl, Nat.le_refl _, fun _ _ => rfl⟩) bb; replace B_v := Lib.hid (Box3.below B_v.out bb B_v.out.lt); replace HB := Lib.hid (nextw HB.out bb); clear bb c0v c1v c2v; have c0v := B_v.out.c0; have c1v := B_v.out.c1; have c2v := B_v.out.c2; have tk2x1 : True := trivial)
      | (clear tk2x1; go_at_call 14; refine (H2.out _).mono ?_; rintro e w7 ⟨rfl, bb⟩; replace bb := nextw (w0 := w6) (by exact ⟨rfl, rfl, rfl, Nat.le_refl _, fun _ _ => rfl⟩) bb; replace B_v := Lib.hid (Box3.below B_v.out bb B_v.out.lt); replace HB := Lib.hid (nextw HB.out bb); clear bb c0v c1v c2v; have c0v := B_v.out.c0; have c1v := B_v.out.c1; have c2v := B_v.out.c2; have tk2x2 : True := trivial))
  clear c0v c1v c2v
  go_wp2
  go_ret
  exact ⟨rfl, nextw HB.out (by exact ⟨rfl, rfl, rfl, Nat.le_refl _, fun _ _ => rfl⟩)⟩

theorem Rises_any (h t : Int) (h0 : 0 ≤ h) (h1 : h ≤ 255) (t0 : -128 ≤ t) (t1 : t ≤ 127) (w : World) :
    Calls Try.prog 4 #[.int .u8 h, .int .i8 t] w fun e w' => e = .returned (.bool true) ∧ Below w.heap.size w w' := by
  by_cases h2 : h < 255
  · exact Rises_most h t h0 h2 t0 t1 w
  · exact Rises_last h t (by omega) h1 t0 t1 w
end Go.Proofs.Ytincejndchdcdaa
