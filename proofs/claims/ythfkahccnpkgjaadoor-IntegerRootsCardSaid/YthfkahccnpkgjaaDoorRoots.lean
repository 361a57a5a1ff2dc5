/- The law IntegerRoots: the walk. -/
import Derived.Test.YthfkahccnpkgjaaDoorLarges
import Derived.Test.YthfkahccnpkgjaaDoorSqrt

set_option linter.unusedVariables false
set_option linter.unusedSimpArgs false

namespace Go.Proofs.YthfkahccnpkgjaaDoor
open Go Go.RowKit Num

theorem root_facts {z : Int} {s : Nat} (h0 : 0 ≤ z) (h : IsRoot z.natAbs s) : (s : Int) * s ≤ z ∧ z < ((s : Int) + 1) * ((s : Int) + 1) := by
  have e : (z.natAbs : Int) = z := Int.natAbs_of_nonneg h0
  have h1 : ((s * s : Nat) : Int) ≤ (z.natAbs : Int) := Int.ofNat_le.2 h.1
  have h2 : (z.natAbs : Int) < (((s + 1) * (s + 1) : Nat) : Int) := Int.ofNat_lt.2 h.2
  rw [e, Int.natCast_mul] at h1 h2
  rw [Int.natCast_add] at h2
  exact ⟨h1, h2⟩
theorem Cmp_rd_le {v1 v2 : Value} {z1 z2 : Int} {n1 n2 : Nat} {w : World} (h1 : Rd w v1 z1 n1) (h2 : Rd w v2 z2 n2) (f1 : n1 ≤ 50000) (f2 : n2 ≤ 50000) (h : z1 ≤ z2) :
    Calls Tryd.prog 16 #[v1, v2] w fun e w' => ∃ c : Int, c ≤ 0 ∧ e = .returned (.int .i64 c) ∧ Below w.heap.size w w' :=
  (Cmp_rd h1 h2 f1 f2).mono fun e w' ⟨he, hb⟩ => ⟨_, by unfold cmpI; repeat' split <;> omega, he, hb⟩

set_option maxRecDepth 100000 in
set_option maxHeartbeats 8000000 in
theorem Roots_long {sx : Bool} {Ax : Option Addr} {kx cx : Nat} {zx : Int} {w : World} (hx : Rd w (.agg #[.bool sx, .slice Ax kx cx]) zx kx) (htab : Tab10 w) (hkx : 6 < kx) :
    Calls Tryd.prog 8 #[.agg #[.bool sx, .slice Ax kx cx]] w fun e w' => e = .returned (.bool true) ∧ Below w.heap.size w w' := by
  have V_x := Lib.hid hx
  have V_tab := Lib.hid htab
  clear hx htab
  have hb0 : Below w.heap.size w (w.alloc (.cells #[.bool sx, (.slice Ax kx cx)] 24)) := (Below.alloc (Below.refl w.heap.size w) (by simp <;> omega) _)
  have B_x : Box (w.alloc (.cells #[.bool sx, (.slice Ax kx cx)] 24)) (w.heap.size) sx (.slice Ax kx cx) := by have h := Box.new w sx (.slice Ax kx cx); simpa using h
  replace B_x := Lib.hid B_x
  replace V_x := Lib.hid (Rd.below V_x.out hb0)
  replace V_tab := Lib.hid (tab_below V_tab.out hb0)
  have HB := Lib.hid hb0
  clear hb0
  have c0x := B_x.out.c0
  have c1x := B_x.out.c1
  go_enter Tryd.func8, Tryd.ntmps8
  go_wp2_with fail
  clear c0x c1x
  generalize (w.alloc (.cells #[.bool sx, (.slice Ax kx cx)] 24)) = W0 at *
  refine (awake_any _ (tab_below V_tab.out (by exact ⟨rfl, rfl, rfl, Nat.le_refl _, fun _ _ => rfl⟩))).mono ?_
  rintro e w1 ⟨rfl, bb⟩
  replace bb := nextw (w0 := W0) (by exact ⟨rfl, rfl, rfl, Nat.le_refl _, fun _ _ => rfl⟩) bb
  replace B_x := Lib.hid (Box.below B_x.out bb B_x.out.lt)
  replace V_x := Lib.hid (Rd.below V_x.out bb)
  replace V_tab := Lib.hid (tab_below V_tab.out bb)
  replace HB := Lib.hid (nextw HB.out bb)
  clear bb
  have c0x := B_x.out.c0
  have c1x := B_x.out.c1
  go_wp2_with fail
  refine (awake_any _ (tab_below V_tab.out (by exact ⟨rfl, rfl, rfl, Nat.le_refl _, fun _ _ => rfl⟩))).mono ?_
  rintro e w2 ⟨rfl, bb⟩
  replace bb := nextw (w0 := w1) (by exact ⟨rfl, rfl, rfl, Nat.le_refl _, fun _ _ => rfl⟩) bb
  clear c0x c1x
  replace B_x := Lib.hid (Box.below B_x.out bb B_x.out.lt)
  replace V_x := Lib.hid (Rd.below V_x.out bb)
  replace V_tab := Lib.hid (tab_below V_tab.out bb)
  replace HB := Lib.hid (nextw HB.out bb)
  clear bb
  have HBo := HB.out
  go_wp2
  go_ret
  exact ⟨rfl, nextw HBo (by exact ⟨rfl, rfl, rfl, Nat.le_refl _, fun _ _ => rfl⟩)⟩

set_option maxRecDepth 100000 in
set_option maxHeartbeats 8000000 in
theorem Roots_neg {sx : Bool} {Ax : Option Addr} {kx cx : Nat} {zx : Int} {w : World} (hx : Rd w (.agg #[.bool sx, .slice Ax kx cx]) zx kx) (htab : Tab10 w) (hkx : ¬ 6 < kx) (h0 : zx < 0) :
    Calls Tryd.prog 8 #[.agg #[.bool sx, .slice Ax kx cx]] w fun e w' => e = .returned (.bool true) ∧ Below w.heap.size w w' := by
  have V_x := Lib.hid hx
  have V_tab := Lib.hid htab
  clear hx htab
  have hb0 : Below w.heap.size w (w.alloc (.cells #[.bool sx, (.slice Ax kx cx)] 24)) := (Below.alloc (Below.refl w.heap.size w) (by simp <;> omega) _)
  have B_x : Box (w.alloc (.cells #[.bool sx, (.slice Ax kx cx)] 24)) (w.heap.size) sx (.slice Ax kx cx) := by have h := Box.new w sx (.slice Ax kx cx); simpa using h
  replace B_x := Lib.hid B_x
  replace V_x := Lib.hid (Rd.below V_x.out hb0)
  replace V_tab := Lib.hid (tab_below V_tab.out hb0)
  have HB := Lib.hid hb0
  clear hb0
  have c0x := B_x.out.c0
  have c1x := B_x.out.c1
  go_enter Tryd.func8, Tryd.ntmps8
  go_wp2_with fail
  clear c0x c1x
  generalize (w.alloc (.cells #[.bool sx, (.slice Ax kx cx)] 24)) = W0 at *
  refine (awake_any _ (tab_below V_tab.out (by exact ⟨rfl, rfl, rfl, Nat.le_refl _, fun _ _ => rfl⟩))).mono ?_
  rintro e w1 ⟨rfl, bb⟩
  replace bb := nextw (w0 := W0) (by exact ⟨rfl, rfl, rfl, Nat.le_refl _, fun _ _ => rfl⟩) bb
  replace B_x := Lib.hid (Box.below B_x.out bb B_x.out.lt)
  replace V_x := Lib.hid (Rd.below V_x.out bb)
  replace V_tab := Lib.hid (tab_below V_tab.out bb)
  replace HB := Lib.hid (nextw HB.out bb)
  clear bb
  clear V_tab
  have c0x := B_x.out.c0
  have c1x := B_x.out.c1
  go_wp2_with fail
  refine (Sqrt_rd_neg (Rd.below V_x.out (by exact ⟨rfl, rfl, rfl, Nat.le_refl _, fun _ _ => rfl⟩)) (by omega) h0).mono ?_
  rintro e w2 ⟨rfl, bb⟩
  replace bb := nextw (w0 := w1) (by exact ⟨rfl, rfl, rfl, Nat.le_refl _, fun _ _ => rfl⟩) bb
  clear c0x c1x
  replace B_x := Lib.hid (Box.below B_x.out bb B_x.out.lt)
  replace V_x := Lib.hid (Rd.below V_x.out bb)
  replace HB := Lib.hid (nextw HB.out bb)
  clear bb
  have hb0 : Below w2.heap.size w2 (w2.alloc (.cells #[.bool false, (.slice none 0 0)] 24)) := (Below.alloc (Below.refl w2.heap.size w2) (by simp <;> omega) _)
  have B_s : Box (w2.alloc (.cells #[.bool false, (.slice none 0 0)] 24)) (w2.heap.size) false (.slice none 0 0) := by have h := Box.new w2 false (.slice none 0 0); simpa using h
  replace B_s := Lib.hid B_s
  replace B_x := Lib.hid (Box.below B_x.out hb0 B_x.out.lt)
  replace V_x := Lib.hid (Rd.below V_x.out hb0)
  replace HB := Lib.hid (nextw HB.out hb0)
  clear hb0
  have c0x := B_x.out.c0
  have c1x := B_x.out.c1
  have c0s := B_s.out.c0
  have c1s := B_s.out.c1
  go_wp2_with fail
  clear c0x c1x c0s c1s
  generalize (w2.alloc (.cells #[.bool false, (.slice none 0 0)] 24)) = W1 at *
  refine (Sign_rd_lt (Rd.below V_x.out (by exact ⟨rfl, rfl, rfl, Nat.le_refl _, fun _ _ => rfl⟩)) h0).mono ?_
  rintro e w5 ⟨rfl, bb⟩
  replace bb := nextw (w0 := W1) (by exact ⟨rfl, rfl, rfl, Nat.le_refl _, fun _ _ => rfl⟩) bb
  replace B_x := Lib.hid (Box.below B_x.out bb B_x.out.lt)
  replace B_s := Lib.hid (Box.below B_s.out bb B_s.out.lt)
  replace V_x := Lib.hid (Rd.below V_x.out bb)
  replace HB := Lib.hid (nextw HB.out bb)
  clear bb h0
  have c0s := B_s.out.c0
  have c1s := B_s.out.c1
  have HBo := HB.out
  go_wp2
  go_ret
  exact ⟨rfl, nextw HBo (by exact ⟨rfl, rfl, rfl, Nat.le_refl _, fun _ _ => rfl⟩)⟩

theorem below_push {w w' : World} {o : Obj} (h1 : w'.os = w.os) (h2 : w'.tape = w.tape) (h3 : w'.output = w.output) (h4 : w'.heap = w.heap.push o) : Below w.heap.size w w' :=
  ⟨h1, h2, h3, by rw [h4]; simp, fun k hk => by rw [h4, Array.getElem?_push_lt hk]; simp [hk]⟩
theorem box_push {w w' : World} {s : Bool} {m : Value} (h4 : w'.heap = w.heap.push (.cells #[.bool s, m] 24)) : Box w' w.heap.size s m := by
  unfold Box; rw [h4]; simp

set_option maxRecDepth 100000 in
set_option maxHeartbeats 16000000 in
theorem Roots_main {sx : Bool} {Ax : Option Addr} {kx cx : Nat} {zx : Int} {w : World} (hx : Rd w (.agg #[.bool sx, .slice Ax kx cx]) zx kx) (htab : Tab10 w) (hkx : ¬ 6 < kx) (h0 : 0 ≤ zx) :
    Calls Tryd.prog 8 #[.agg #[.bool sx, .slice Ax kx cx]] w fun e w' => e = .returned (.bool true) ∧ Below w.heap.size w w' := by
  have V_x := Lib.hid hx
  have V_tab := Lib.hid htab
  clear hx htab
  have hb0 : Below w.heap.size w (w.alloc (.cells #[.bool sx, (.slice Ax kx cx)] 24)) := (Below.alloc (Below.refl w.heap.size w) (by simp <;> omega) _)
  have B_x : Box (w.alloc (.cells #[.bool sx, (.slice Ax kx cx)] 24)) (w.heap.size) sx (.slice Ax kx cx) := by have h := Box.new w sx (.slice Ax kx cx); simpa using h
  replace B_x := Lib.hid B_x
  replace V_x := Lib.hid (Rd.below V_x.out hb0)
  replace V_tab := Lib.hid (tab_below V_tab.out hb0)
  have HB := Lib.hid hb0
  clear hb0
  have c0x := B_x.out.c0
  have c1x := B_x.out.c1
  go_enter Tryd.func8, Tryd.ntmps8
  go_wp2_with fail
  clear c0x c1x
  generalize (w.alloc (.cells #[.bool sx, (.slice Ax kx cx)] 24)) = W0 at *
  refine (awake_any _ (tab_below V_tab.out (by exact ⟨rfl, rfl, rfl, Nat.le_refl _, fun _ _ => rfl⟩))).mono ?_
  rintro e w1 ⟨rfl, bb⟩
  replace bb := nextw (w0 := W0) (by exact ⟨rfl, rfl, rfl, Nat.le_refl _, fun _ _ => rfl⟩) bb
  replace B_x := Lib.hid (Box.below B_x.out bb B_x.out.lt)
  replace V_x := Lib.hid (Rd.below V_x.out bb)
  replace V_tab := Lib.hid (tab_below V_tab.out bb)
  replace HB := Lib.hid (nextw HB.out bb)
  clear bb
  clear V_tab
  have c0x := B_x.out.c0
  have c1x := B_x.out.c1
  go_wp2_with fail
  refine (Sqrt_rd (Rd.below V_x.out (by exact ⟨rfl, rfl, rfl, Nat.le_refl _, fun _ _ => rfl⟩)) (by omega) h0).mono ?_
  rintro e w2 ⟨vs, s, rfl, rs, hr, bb⟩
  replace bb := nextw (w0 := w1) (by exact ⟨rfl, rfl, rfl, Nat.le_refl _, fun _ _ => rfl⟩) bb
  clear c0x c1x
  replace B_x := Lib.hid (Box.below B_x.out bb B_x.out.lt)
  replace V_x := Lib.hid (Rd.below V_x.out bb)
  replace HB := Lib.hid (nextw HB.out bb)
  clear bb
  obtain ⟨ss, As, ks, cs, rfl⟩ := rs.shape
  obtain ⟨q1, q2⟩ := root_facts h0 hr
  have HQ := Lib.hid (And.intro h0 (And.intro q1 q2))
  clear hr q1 q2 h0
  have V_s := Lib.hid rs
  clear rs
  have hb0 : Below w2.heap.size w2 (w2.alloc (.cells #[.bool ss, (.slice As ks cs)] 24)) := (Below.alloc (Below.refl w2.heap.size w2) (by simp <;> omega) _)
  have B_s : Box (w2.alloc (.cells #[.bool ss, (.slice As ks cs)] 24)) (w2.heap.size) ss (.slice As ks cs) := by have h := Box.new w2 ss (.slice As ks cs); simpa using h
  replace B_s := Lib.hid B_s
  replace B_x := Lib.hid (Box.below B_x.out hb0 B_x.out.lt)
  replace V_x := Lib.hid (Rd.below V_x.out hb0)
  replace V_s := Lib.hid (Rc.below V_s.out hb0)
  replace HB := Lib.hid (nextw HB.out hb0)
  clear hb0
  have c0x := B_x.out.c0
  have c1x := B_x.out.c1
  have c0s := B_s.out.c0
  have c1s := B_s.out.c1
  go_wp2_with fail
  clear c0x c1x c0s c1s
  generalize (w2.alloc (.cells #[.bool ss, (.slice As ks cs)] 24)) = W1 at *
  refine (Sign_rd_nn (Rd.below V_x.out (by exact ⟨rfl, rfl, rfl, Nat.le_refl _, fun _ _ => rfl⟩)) HQ.out.1).mono ?_
  rintro e w5 ⟨cg, hcg, rfl, bb⟩
  replace bb := nextw (w0 := W1) (by exact ⟨rfl, rfl, rfl, Nat.le_refl _, fun _ _ => rfl⟩) bb
  replace B_x := Lib.hid (Box.below B_x.out bb B_x.out.lt)
  replace B_s := Lib.hid (Box.below B_s.out bb B_s.out.lt)
  replace V_x := Lib.hid (Rd.below V_x.out bb)
  replace V_s := Lib.hid (Rc.below V_s.out bb)
  replace HB := Lib.hid (nextw HB.out bb)
  clear bb
  have c0x := B_x.out.c0
  have c1x := B_x.out.c1
  have c0s := B_s.out.c0
  have c1s := B_s.out.c1
  go_wp2_with fail
  clear c0x c1x c0s c1s
  have c0x := B_x.out.c0
  have c1x := B_x.out.c1
  have c0s := B_s.out.c0
  have c1s := B_s.out.c1
  have lx5 := B_x.out.lt
  have ls5 := B_s.out.lt
  have tk0 : True := trivial
  go_region_held3 (fun w' => w'.cell? ⟨w.heap.size, 0, none⟩ = some (.bool sx) ∧ w'.cell? ⟨w.heap.size, 1, none⟩ = some (.slice Ax kx cx) ∧ w'.cell? ⟨w2.heap.size, 0, none⟩ = some (.bool ss) ∧ w'.cell? ⟨w2.heap.size, 1, none⟩ = some (.slice As ks cs)) (((try dsimp only); (repeat' apply And.intro) <;> (first | assumption | go_keep | (rw [far2 (by omega)]; assumption))))
    (first | (have _t := tk0; clear _t tk0; go_at_call 22; refine (Of_rc 1 (by omega) (by omega)).mono ?_; rintro e w6 ⟨vo, rfl, ro, bb0⟩; have bb := nextw (w0 := w5) (by first | exact ⟨rfl, rfl, rfl, Nat.le_refl _, fun _ _ => rfl⟩ | exact below_push rfl rfl rfl rfl) bb0; (first | (have B_n := Lib.hid (Box.below (box_push rfl) bb0 (by simp))) | skip); replace B_x := Lib.hid (Box.below B_x.out bb B_x.out.lt); replace B_s := Lib.hid (Box.below B_s.out bb B_s.out.lt); replace V_x := Lib.hid (Rd.below V_x.out bb); replace V_s := Lib.hid (Rc.below V_s.out bb); replace HB := Lib.hid (nextw HB.out bb); have V_o := Lib.hid ro; clear bb bb0 ro; have c0x := B_x.out.c0; have c1x := B_x.out.c1; have c0s := B_s.out.c0; have c1s := B_s.out.c1; have lx6 := B_x.out.lt; have ls6 := B_s.out.lt; have tk1 : True := trivial) | (have _t := tk1; clear _t tk1; go_at_call 17; refine (Add_rd (Rc.rd (Rc.below V_s.out (by first | exact ⟨rfl, rfl, rfl, Nat.le_refl _, fun _ _ => rfl⟩ | exact below_push rfl rfl rfl rfl))) (Rc.rd (Rc.below V_o.out (by first | exact ⟨rfl, rfl, rfl, Nat.le_refl _, fun _ _ => rfl⟩ | exact below_push rfl rfl rfl rfl))) (by omega) (by omega)).mono ?_; rintro e w7 ⟨vn, rfl, rn, bb0⟩; have bb := nextw (w0 := w6) (by first | exact ⟨rfl, rfl, rfl, Nat.le_refl _, fun _ _ => rfl⟩ | exact below_push rfl rfl rfl rfl) bb0; obtain ⟨sn, An, kn, cn, rfl⟩ := rn.shape; (first | (have B_n := Lib.hid (Box.below B_n.out bb B_n.out.lt)) | (have B_n := Lib.hid (Box.below (box_push rfl) bb0 (by simp))) | skip); replace B_x := Lib.hid (Box.below B_x.out bb B_x.out.lt); replace B_s := Lib.hid (Box.below B_s.out bb B_s.out.lt); replace V_x := Lib.hid (Rd.below V_x.out bb); replace V_s := Lib.hid (Rc.below V_s.out bb); replace HB := Lib.hid (nextw HB.out bb); have V_n := Lib.hid rn; clear bb bb0 rn V_o; have c0x := B_x.out.c0; have c1x := B_x.out.c1; have c0s := B_s.out.c0; have c1s := B_s.out.c1; (first | (have c0n := B_n.out.c0; have c1n := B_n.out.c1; have f0n := B_n.out.f0; have f1n := B_n.out.f1) | skip); have tk2 : True := trivial))
  · have hb7 : Below w7.heap.size w7 (w7.alloc (.cells #[.bool sn, .slice An kn cn] 24)) := (Below.refl _ _).alloc (Nat.le_refl _) _
    have B_n := Lib.hid (Box.new w7 sn (.slice An kn cn))
    replace B_x := Lib.hid (Box.below B_x.out hb7 B_x.out.lt)
    replace B_s := Lib.hid (Box.below B_s.out hb7 B_s.out.lt)
    replace V_x := Lib.hid (Rd.below V_x.out hb7)
    replace V_s := Lib.hid (Rc.below V_s.out hb7)
    replace V_n := Lib.hid (Rc.below V_n.out hb7)
    replace HB := Lib.hid (nextw HB.out hb7)
    clear hb7
    clear c0x c1x c0s c1s tk2
    generalize w7.alloc (.cells #[.bool sn, .slice An kn cn] 24) = W at *
    generalize w7.heap.size = p at *
    have c0x := B_x.out.c0
    have c1x := B_x.out.c1
    have c0s := B_s.out.c0
    have c1s := B_s.out.c1
    have c0n := B_n.out.c0
    have c1n := B_n.out.c1
    go_wp2
    have c0x := B_x.out.c0
    have c1x := B_x.out.c1
    have c0s := B_s.out.c0
    have c1s := B_s.out.c1
    have c0n := B_n.out.c0
    have c1n := B_n.out.c1
    have tk0 : True := trivial
    first | (go_region_held3 (fun w' => w'.cell? ⟨w.heap.size, 0, none⟩ = some (.bool sx) ∧ w'.cell? ⟨w.heap.size, 1, none⟩ = some (.slice Ax kx cx) ∧ w'.cell? ⟨w2.heap.size, 0, none⟩ = some (.bool ss) ∧ w'.cell? ⟨w2.heap.size, 1, none⟩ = some (.slice As ks cs) ∧ w'.cell? ⟨p, 0, none⟩ = some (.bool sn) ∧ w'.cell? ⟨p, 1, none⟩ = some (.slice An kn cn)) (((try dsimp only); (repeat' apply And.intro) <;> (first | assumption | go_keep)))
    (first
      | (have _t := tk0; clear _t tk0; go_at_call 15; refine (Sign_rd_nn (Rc.rd (Rc.below V_s.out (by exact ⟨rfl, rfl, rfl, Nat.le_refl _, fun _ _ => rfl⟩))) (by omega)).mono ?_; rintro e w21 ⟨cs, hcs, rfl, bb⟩; replace bb := nextw (w0 := W) (by exact ⟨rfl, rfl, rfl, Nat.le_refl _, fun _ _ => rfl⟩) bb; replace B_x := Lib.hid (Box.below B_x.out bb B_x.out.lt); replace B_s := Lib.hid (Box.below B_s.out bb B_s.out.lt); replace B_n := Lib.hid (Box.below B_n.out bb B_n.out.lt); replace V_x := Lib.hid (Rd.below V_x.out bb); replace V_s := Lib.hid (Rc.below V_s.out bb); replace V_n := Lib.hid (Rc.below V_n.out bb); replace HB := Lib.hid (nextw HB.out bb); clear bb; have hdc : decide (0 ≤ cs) = true := decide_eq_true hcs; have c0x := B_x.out.c0; have c1x := B_x.out.c1; have c0s := B_s.out.c0; have c1s := B_s.out.c1; have c0n := B_n.out.c0; have c1n := B_n.out.c1; have tk1 : True := trivial)
      | (have _t := tk1; clear _t tk1; go_at_call 18; refine (Mul_rd (Rc.rd (Rc.below V_s.out (by exact ⟨rfl, rfl, rfl, Nat.le_refl _, fun _ _ => rfl⟩))) (Rc.rd (Rc.below V_s.out (by exact ⟨rfl, rfl, rfl, Nat.le_refl _, fun _ _ => rfl⟩))) (by omega) (by omega)).mono ?_; rintro e w22 ⟨va1, rfl, ra1, bb⟩; replace bb := nextw (w0 := w21) (by exact ⟨rfl, rfl, rfl, Nat.le_refl _, fun _ _ => rfl⟩) bb; replace B_x := Lib.hid (Box.below B_x.out bb B_x.out.lt); replace B_s := Lib.hid (Box.below B_s.out bb B_s.out.lt); replace B_n := Lib.hid (Box.below B_n.out bb B_n.out.lt); replace V_x := Lib.hid (Rd.below V_x.out bb); replace V_s := Lib.hid (Rc.below V_s.out bb); replace V_n := Lib.hid (Rc.below V_n.out bb); replace HB := Lib.hid (nextw HB.out bb); clear bb; replace ra1 := Lib.hid ra1; have V_a1 := ra1; clear ra1; have c0x := B_x.out.c0; have c1x := B_x.out.c1; have c0s := B_s.out.c0; have c1s := B_s.out.c1; have c0n := B_n.out.c0; have c1n := B_n.out.c1; have tk2 : True := trivial)
      | (have _t := tk2; clear _t tk2; go_at_call 16; refine (Cmp_rd_le (Rc.rd (Rc.below V_a1.out (by exact ⟨rfl, rfl, rfl, Nat.le_refl _, fun _ _ => rfl⟩))) (Rd.below V_x.out (by exact ⟨rfl, rfl, rfl, Nat.le_refl _, fun _ _ => rfl⟩)) (by omega) (by omega) HQ.out.2.1).mono ?_; rintro e w23 ⟨cl, hcl, rfl, bb⟩; replace bb := nextw (w0 := w22) (by exact ⟨rfl, rfl, rfl, Nat.le_refl _, fun _ _ => rfl⟩) bb; clear V_a1; replace B_x := Lib.hid (Box.below B_x.out bb B_x.out.lt); replace B_s := Lib.hid (Box.below B_s.out bb B_s.out.lt); replace B_n := Lib.hid (Box.below B_n.out bb B_n.out.lt); replace V_x := Lib.hid (Rd.below V_x.out bb); replace V_s := Lib.hid (Rc.below V_s.out bb); replace V_n := Lib.hid (Rc.below V_n.out bb); replace HB := Lib.hid (nextw HB.out bb); clear bb; have hdl : decide (cl ≤ 0) = true := decide_eq_true hcl; have c0x := B_x.out.c0; have c1x := B_x.out.c1; have c0s := B_s.out.c0; have c1s := B_s.out.c1; have c0n := B_n.out.c0; have c1n := B_n.out.c1; have tk3 : True := trivial)
      | (have _t := tk3; clear _t tk3; go_at_call 18; refine (Mul_rd (Rc.rd (Rc.below V_n.out (by exact ⟨rfl, rfl, rfl, Nat.le_refl _, fun _ _ => rfl⟩))) (Rc.rd (Rc.below V_n.out (by exact ⟨rfl, rfl, rfl, Nat.le_refl _, fun _ _ => rfl⟩))) (by omega) (by omega)).mono ?_; rintro e w24 ⟨vb1, rfl, rb1, bb⟩; replace bb := nextw (w0 := w23) (by exact ⟨rfl, rfl, rfl, Nat.le_refl _, fun _ _ => rfl⟩) bb; replace B_x := Lib.hid (Box.below B_x.out bb B_x.out.lt); replace B_s := Lib.hid (Box.below B_s.out bb B_s.out.lt); replace B_n := Lib.hid (Box.below B_n.out bb B_n.out.lt); replace V_x := Lib.hid (Rd.below V_x.out bb); replace V_s := Lib.hid (Rc.below V_s.out bb); replace V_n := Lib.hid (Rc.below V_n.out bb); replace HB := Lib.hid (nextw HB.out bb); clear bb; replace rb1 := Lib.hid rb1; have V_b1 := rb1; clear rb1; have c0x := B_x.out.c0; have c1x := B_x.out.c1; have c0s := B_s.out.c0; have c1s := B_s.out.c1; have c0n := B_n.out.c0; have c1n := B_n.out.c1; have tk4 : True := trivial)
      | (have _t := tk4; clear _t tk4; go_at_call 16; refine (Cmp_rd_gt (Rc.rd (Rc.below V_b1.out (by exact ⟨rfl, rfl, rfl, Nat.le_refl _, fun _ _ => rfl⟩))) (Rd.below V_x.out (by exact ⟨rfl, rfl, rfl, Nat.le_refl _, fun _ _ => rfl⟩)) (by omega) (by omega) (HQ.out.2.2)).mono ?_; rintro e w25 ⟨rfl, bb⟩; replace bb := nextw (w0 := w24) (by exact ⟨rfl, rfl, rfl, Nat.le_refl _, fun _ _ => rfl⟩) bb; clear V_b1; replace B_x := Lib.hid (Box.below B_x.out bb B_x.out.lt); replace B_s := Lib.hid (Box.below B_s.out bb B_s.out.lt); replace B_n := Lib.hid (Box.below B_n.out bb B_n.out.lt); replace V_x := Lib.hid (Rd.below V_x.out bb); replace V_s := Lib.hid (Rc.below V_s.out bb); replace V_n := Lib.hid (Rc.below V_n.out bb); replace HB := Lib.hid (nextw HB.out bb); clear bb; have c0x := B_x.out.c0; have c1x := B_x.out.c1; have c0s := B_s.out.c0; have c1s := B_s.out.c1; have c0n := B_n.out.c0; have c1n := B_n.out.c1; have tk5 : True := trivial))) | fail
    have HBo := HB.out
    go_wp2
    go_ret
    exact ⟨rfl, nextw HBo (by exact ⟨rfl, rfl, rfl, Nat.le_refl _, fun _ _ => rfl⟩)⟩

  · replace V_x := Lib.hid (Box.keepsRd B_n.out V_x.out sn (.slice An kn cn))
    replace V_s := Lib.hid (Box.keepsRc B_n.out V_s.out sn (.slice An kn cn))
    replace V_n := Lib.hid (Box.keepsRc B_n.out V_n.out sn (.slice An kn cn))
    replace B_x := Lib.hid (Box.far (y := w6.heap.size) B_x.out (by omega) (.bool sn) (.slice An kn cn))
    replace B_s := Lib.hid (Box.far (y := w6.heap.size) B_s.out (by omega) (.bool sn) (.slice An kn cn))
    replace HB := Lib.hid (Below.store HB.out (x := w6.heap.size) (by omega) (.bool sn) (.slice An kn cn))
    replace B_n := Lib.hid (Box.store B_n.out sn (.slice An kn cn))
    clear c0x c1x c0s c1s tk2 c0n c1n f0n f1n
    generalize (w7.setCell ⟨w6.heap.size, 0, none⟩ (.bool sn)).setCell ⟨w6.heap.size, 1, none⟩ (.slice An kn cn) = W at *
    generalize w6.heap.size = p at *
    have c0x := B_x.out.c0
    have c1x := B_x.out.c1
    have c0s := B_s.out.c0
    have c1s := B_s.out.c1
    have c0n := B_n.out.c0
    have c1n := B_n.out.c1
    go_wp2
    have c0x := B_x.out.c0
    have c1x := B_x.out.c1
    have c0s := B_s.out.c0
    have c1s := B_s.out.c1
    have c0n := B_n.out.c0
    have c1n := B_n.out.c1
    have tk0 : True := trivial
    first | (go_region_held3 (fun w' => w'.cell? ⟨w.heap.size, 0, none⟩ = some (.bool sx) ∧ w'.cell? ⟨w.heap.size, 1, none⟩ = some (.slice Ax kx cx) ∧ w'.cell? ⟨w2.heap.size, 0, none⟩ = some (.bool ss) ∧ w'.cell? ⟨w2.heap.size, 1, none⟩ = some (.slice As ks cs) ∧ w'.cell? ⟨p, 0, none⟩ = some (.bool sn) ∧ w'.cell? ⟨p, 1, none⟩ = some (.slice An kn cn)) (((try dsimp only); (repeat' apply And.intro) <;> (first | assumption | go_keep)))
    (first
      | (have _t := tk0; clear _t tk0; go_at_call 15; refine (Sign_rd_nn (Rc.rd (Rc.below V_s.out (by exact ⟨rfl, rfl, rfl, Nat.le_refl _, fun _ _ => rfl⟩))) (by omega)).mono ?_; rintro e w21 ⟨cs, hcs, rfl, bb⟩; replace bb := nextw (w0 := W) (by exact ⟨rfl, rfl, rfl, Nat.le_refl _, fun _ _ => rfl⟩) bb; replace B_x := Lib.hid (Box.below B_x.out bb B_x.out.lt); replace B_s := Lib.hid (Box.below B_s.out bb B_s.out.lt); replace B_n := Lib.hid (Box.below B_n.out bb B_n.out.lt); replace V_x := Lib.hid (Rd.below V_x.out bb); replace V_s := Lib.hid (Rc.below V_s.out bb); replace V_n := Lib.hid (Rc.below V_n.out bb); replace HB := Lib.hid (nextw HB.out bb); clear bb; have hdc : decide (0 ≤ cs) = true := decide_eq_true hcs; have c0x := B_x.out.c0; have c1x := B_x.out.c1; have c0s := B_s.out.c0; have c1s := B_s.out.c1; have c0n := B_n.out.c0; have c1n := B_n.out.c1; have tk1 : True := trivial)
      | (have _t := tk1; clear _t tk1; go_at_call 18; refine (Mul_rd (Rc.rd (Rc.below V_s.out (by exact ⟨rfl, rfl, rfl, Nat.le_refl _, fun _ _ => rfl⟩))) (Rc.rd (Rc.below V_s.out (by exact ⟨rfl, rfl, rfl, Nat.le_refl _, fun _ _ => rfl⟩))) (by omega) (by omega)).mono ?_; rintro e w22 ⟨va1, rfl, ra1, bb⟩; replace bb := nextw (w0 := w21) (by exact ⟨rfl, rfl, rfl, Nat.le_refl _, fun _ _ => rfl⟩) bb; replace B_x := Lib.hid (Box.below B_x.out bb B_x.out.lt); replace B_s := Lib.hid (Box.below B_s.out bb B_s.out.lt); replace B_n := Lib.hid (Box.below B_n.out bb B_n.out.lt); replace V_x := Lib.hid (Rd.below V_x.out bb); replace V_s := Lib.hid (Rc.below V_s.out bb); replace V_n := Lib.hid (Rc.below V_n.out bb); replace HB := Lib.hid (nextw HB.out bb); clear bb; replace ra1 := Lib.hid ra1; have V_a1 := ra1; clear ra1; have c0x := B_x.out.c0; have c1x := B_x.out.c1; have c0s := B_s.out.c0; have c1s := B_s.out.c1; have c0n := B_n.out.c0; have c1n := B_n.out.c1; have tk2 : True := trivial)
      | (have _t := tk2; clear _t tk2; go_at_call 16; refine (Cmp_rd_le (Rc.rd (Rc.below V_a1.out (by exact ⟨rfl, rfl, rfl, Nat.le_refl _, fun _ _ => rfl⟩))) (Rd.below V_x.out (by exact ⟨rfl, rfl, rfl, Nat.le_refl _, fun _ _ => rfl⟩)) (by omega) (by omega) HQ.out.2.1).mono ?_; rintro e w23 ⟨cl, hcl, rfl, bb⟩; replace bb := nextw (w0 := w22) (by exact ⟨rfl, rfl, rfl, Nat.le_refl _, fun _ _ => rfl⟩) bb; clear V_a1; replace B_x := Lib.hid (Box.below B_x.out bb B_x.out.lt); replace B_s := Lib.hid (Box.below B_s.out bb B_s.out.lt); replace B_n := Lib.hid (Box.below B_n.out bb B_n.out.lt); replace V_x := Lib.hid (Rd.below V_x.out bb); replace V_s := Lib.hid (Rc.below V_s.out bb); replace V_n := Lib.hid (Rc.below V_n.out bb); replace HB := Lib.hid (nextw HB.out bb); clear bb; have hdl : decide (cl ≤ 0) = true := decide_eq_true hcl; have c0x := B_x.out.c0; have c1x := B_x.out.c1; have c0s := B_s.out.c0; have c1s := B_s.out.c1; have c0n := B_n.out.c0; have c1n := B_n.out.c1; have tk3 : True := trivial)
      | (have _t := tk3; clear _t tk3; go_at_call 18; refine (Mul_rd (Rc.rd (Rc.below V_n.out (by exact ⟨rfl, rfl, rfl, Nat.le_refl _, fun _ _ => rfl⟩))) (Rc.rd (Rc.below V_n.out (by exact ⟨rfl, rfl, rfl, Nat.le_refl _, fun _ _ => rfl⟩))) (by omega) (by omega)).mono ?_; rintro e w24 ⟨vb1, rfl, rb1, bb⟩; replace bb := nextw (w0 := w23) (by exact ⟨rfl, rfl, rfl, Nat.le_refl _, fun _ _ => rfl⟩) bb; replace B_x := Lib.hid (Box.below B_x.out bb B_x.out.lt); replace B_s := Lib.hid (Box.below B_s.out bb B_s.out.lt); replace B_n := Lib.hid (Box.below B_n.out bb B_n.out.lt); replace V_x := Lib.hid (Rd.below V_x.out bb); replace V_s := Lib.hid (Rc.below V_s.out bb); replace V_n := Lib.hid (Rc.below V_n.out bb); replace HB := Lib.hid (nextw HB.out bb); clear bb; replace rb1 := Lib.hid rb1; have V_b1 := rb1; clear rb1; have c0x := B_x.out.c0; have c1x := B_x.out.c1; have c0s := B_s.out.c0; have c1s := B_s.out.c1; have c0n := B_n.out.c0; have c1n := B_n.out.c1; have tk4 : True := trivial)
      | (have _t := tk4; clear _t tk4; go_at_call 16; refine (Cmp_rd_gt (Rc.rd (Rc.below V_b1.out (by exact ⟨rfl, rfl, rfl, Nat.le_refl _, fun _ _ => rfl⟩))) (Rd.below V_x.out (by exact ⟨rfl, rfl, rfl, Nat.le_refl _, fun _ _ => rfl⟩)) (by omega) (by omega) (HQ.out.2.2)).mono ?_; rintro e w25 ⟨rfl, bb⟩; replace bb := nextw (w0 := w24) (by exact ⟨rfl, rfl, rfl, Nat.le_refl _, fun _ _ => rfl⟩) bb; clear V_b1; replace B_x := Lib.hid (Box.below B_x.out bb B_x.out.lt); replace B_s := Lib.hid (Box.below B_s.out bb B_s.out.lt); replace B_n := Lib.hid (Box.below B_n.out bb B_n.out.lt); replace V_x := Lib.hid (Rd.below V_x.out bb); replace V_s := Lib.hid (Rc.below V_s.out bb); replace V_n := Lib.hid (Rc.below V_n.out bb); replace HB := Lib.hid (nextw HB.out bb); clear bb; have c0x := B_x.out.c0; have c1x := B_x.out.c1; have c0s := B_s.out.c0; have c1s := B_s.out.c1; have c0n := B_n.out.c0; have c1n := B_n.out.c1; have tk5 : True := trivial))) | fail
    have HBo := HB.out
    go_wp2
    go_ret
    exact ⟨rfl, nextw HBo (by exact ⟨rfl, rfl, rfl, Nat.le_refl _, fun _ _ => rfl⟩)⟩

  · replace V_x := Lib.hid (Box.keepsRd B_n.out V_x.out sn (.slice An kn cn))
    replace V_s := Lib.hid (Box.keepsRc B_n.out V_s.out sn (.slice An kn cn))
    replace V_n := Lib.hid (Box.keepsRc B_n.out V_n.out sn (.slice An kn cn))
    replace B_x := Lib.hid (Box.far (y := w5.heap.size) B_x.out (by omega) (.bool sn) (.slice An kn cn))
    replace B_s := Lib.hid (Box.far (y := w5.heap.size) B_s.out (by omega) (.bool sn) (.slice An kn cn))
    replace HB := Lib.hid (Below.store HB.out (x := w5.heap.size) (by omega) (.bool sn) (.slice An kn cn))
    replace B_n := Lib.hid (Box.store B_n.out sn (.slice An kn cn))
    clear c0x c1x c0s c1s tk2 c0n c1n f0n f1n
    generalize (w7.setCell ⟨w5.heap.size, 0, none⟩ (.bool sn)).setCell ⟨w5.heap.size, 1, none⟩ (.slice An kn cn) = W at *
    generalize w5.heap.size = p at *
    have c0x := B_x.out.c0
    have c1x := B_x.out.c1
    have c0s := B_s.out.c0
    have c1s := B_s.out.c1
    have c0n := B_n.out.c0
    have c1n := B_n.out.c1
    go_wp2
    have c0x := B_x.out.c0
    have c1x := B_x.out.c1
    have c0s := B_s.out.c0
    have c1s := B_s.out.c1
    have c0n := B_n.out.c0
    have c1n := B_n.out.c1
    have tk0 : True := trivial
    first | (go_region_held3 (fun w' => w'.cell? ⟨w.heap.size, 0, none⟩ = some (.bool sx) ∧ w'.cell? ⟨w.heap.size, 1, none⟩ = some (.slice Ax kx cx) ∧ w'.cell? ⟨w2.heap.size, 0, none⟩ = some (.bool ss) ∧ w'.cell? ⟨w2.heap.size, 1, none⟩ = some (.slice As ks cs) ∧ w'.cell? ⟨p, 0, none⟩ = some (.bool sn) ∧ w'.cell? ⟨p, 1, none⟩ = some (.slice An kn cn)) (((try dsimp only); (repeat' apply And.intro) <;> (first | assumption | go_keep)))
    (first
      | (have _t := tk0; clear _t tk0; go_at_call 15; refine (Sign_rd_nn (Rc.rd (Rc.below V_s.out (by exact ⟨rfl, rfl, rfl, Nat.le_refl _, fun _ _ => rfl⟩))) (by omega)).mono ?_; rintro e w21 ⟨cs, hcs, rfl, bb⟩; replace bb := nextw (w0 := W) (by exact ⟨rfl, rfl, rfl, Nat.le_refl _, fun _ _ => rfl⟩) bb; replace B_x := Lib.hid (Box.below B_x.out bb B_x.out.lt); replace B_s := Lib.hid (Box.below B_s.out bb B_s.out.lt); replace B_n := Lib.hid (Box.below B_n.out bb B_n.out.lt); replace V_x := Lib.hid (Rd.below V_x.out bb); replace V_s := Lib.hid (Rc.below V_s.out bb); replace V_n := Lib.hid (Rc.below V_n.out bb); replace HB := Lib.hid (nextw HB.out bb); clear bb; have hdc : decide (0 ≤ cs) = true := decide_eq_true hcs; have c0x := B_x.out.c0; have c1x := B_x.out.c1; have c0s := B_s.out.c0; have c1s := B_s.out.c1; have c0n := B_n.out.c0; have c1n := B_n.out.c1; have tk1 : True := trivial)
      | (have _t := tk1; clear _t tk1; go_at_call 18; refine (Mul_rd (Rc.rd (Rc.below V_s.out (by exact ⟨rfl, rfl, rfl, Nat.le_refl _, fun _ _ => rfl⟩))) (Rc.rd (Rc.below V_s.out (by exact ⟨rfl, rfl, rfl, Nat.le_refl _, fun _ _ => rfl⟩))) (by omega) (by omega)).mono ?_; rintro e w22 ⟨va1, rfl, ra1, bb⟩; replace bb := nextw (w0 := w21) (by exact ⟨rfl, rfl, rfl, Nat.le_refl _, fun _ _ => rfl⟩) bb; replace B_x := Lib.hid (Box.below B_x.out bb B_x.out.lt); replace B_s := Lib.hid (Box.below B_s.out bb B_s.out.lt); replace B_n := Lib.hid (Box.below B_n.out bb B_n.out.lt); replace V_x := Lib.hid (Rd.below V_x.out bb); replace V_s := Lib.hid (Rc.below V_s.out bb); replace V_n := Lib.hid (Rc.below V_n.out bb); replace HB := Lib.hid (nextw HB.out bb); clear bb; replace ra1 := Lib.hid ra1; have V_a1 := ra1; clear ra1; have c0x := B_x.out.c0; have c1x := B_x.out.c1; have c0s := B_s.out.c0; have c1s := B_s.out.c1; have c0n := B_n.out.c0; have c1n := B_n.out.c1; have tk2 : True := trivial)
      | (have _t := tk2; clear _t tk2; go_at_call 16; refine (Cmp_rd_le (Rc.rd (Rc.below V_a1.out (by exact ⟨rfl, rfl, rfl, Nat.le_refl _, fun _ _ => rfl⟩))) (Rd.below V_x.out (by exact ⟨rfl, rfl, rfl, Nat.le_refl _, fun _ _ => rfl⟩)) (by omega) (by omega) HQ.out.2.1).mono ?_; rintro e w23 ⟨cl, hcl, rfl, bb⟩; replace bb := nextw (w0 := w22) (by exact ⟨rfl, rfl, rfl, Nat.le_refl _, fun _ _ => rfl⟩) bb; clear V_a1; replace B_x := Lib.hid (Box.below B_x.out bb B_x.out.lt); replace B_s := Lib.hid (Box.below B_s.out bb B_s.out.lt); replace B_n := Lib.hid (Box.below B_n.out bb B_n.out.lt); replace V_x := Lib.hid (Rd.below V_x.out bb); replace V_s := Lib.hid (Rc.below V_s.out bb); replace V_n := Lib.hid (Rc.below V_n.out bb); replace HB := Lib.hid (nextw HB.out bb); clear bb; have hdl : decide (cl ≤ 0) = true := decide_eq_true hcl; have c0x := B_x.out.c0; have c1x := B_x.out.c1; have c0s := B_s.out.c0; have c1s := B_s.out.c1; have c0n := B_n.out.c0; have c1n := B_n.out.c1; have tk3 : True := trivial)
      | (have _t := tk3; clear _t tk3; go_at_call 18; refine (Mul_rd (Rc.rd (Rc.below V_n.out (by exact ⟨rfl, rfl, rfl, Nat.le_refl _, fun _ _ => rfl⟩))) (Rc.rd (Rc.below V_n.out (by exact ⟨rfl, rfl, rfl, Nat.le_refl _, fun _ _ => rfl⟩))) (by omega) (by omega)).mono ?_; rintro e w24 ⟨vb1, rfl, rb1, bb⟩; replace bb := nextw (w0 := w23) (by exact ⟨rfl, rfl, rfl, Nat.le_refl _, fun _ _ => rfl⟩) bb; replace B_x := Lib.hid (Box.below B_x.out bb B_x.out.lt); replace B_s := Lib.hid (Box.below B_s.out bb B_s.out.lt); replace B_n := Lib.hid (Box.below B_n.out bb B_n.out.lt); replace V_x := Lib.hid (Rd.below V_x.out bb); replace V_s := Lib.hid (Rc.below V_s.out bb); replace V_n := Lib.hid (Rc.below V_n.out bb); replace HB := Lib.hid (nextw HB.out bb); clear bb; replace rb1 := Lib.hid rb1; have V_b1 := rb1; clear rb1; have c0x := B_x.out.c0; have c1x := B_x.out.c1; have c0s := B_s.out.c0; have c1s := B_s.out.c1; have c0n := B_n.out.c0; have c1n := B_n.out.c1; have tk4 : True := trivial)
      | (have _t := tk4; clear _t tk4; go_at_call 16; refine (Cmp_rd_gt (Rc.rd (Rc.below V_b1.out (by exact ⟨rfl, rfl, rfl, Nat.le_refl _, fun _ _ => rfl⟩))) (Rd.below V_x.out (by exact ⟨rfl, rfl, rfl, Nat.le_refl _, fun _ _ => rfl⟩)) (by omega) (by omega) (HQ.out.2.2)).mono ?_; rintro e w25 ⟨rfl, bb⟩; replace bb := nextw (w0 := w24) (by exact ⟨rfl, rfl, rfl, Nat.le_refl _, fun _ _ => rfl⟩) bb; clear V_b1; replace B_x := Lib.hid (Box.below B_x.out bb B_x.out.lt); replace B_s := Lib.hid (Box.below B_s.out bb B_s.out.lt); replace B_n := Lib.hid (Box.below B_n.out bb B_n.out.lt); replace V_x := Lib.hid (Rd.below V_x.out bb); replace V_s := Lib.hid (Rc.below V_s.out bb); replace V_n := Lib.hid (Rc.below V_n.out bb); replace HB := Lib.hid (nextw HB.out bb); clear bb; have c0x := B_x.out.c0; have c1x := B_x.out.c1; have c0s := B_s.out.c0; have c1s := B_s.out.c1; have c0n := B_n.out.c0; have c1n := B_n.out.c1; have tk5 : True := trivial))) | fail
    have HBo := HB.out
    go_wp2
    go_ret
    exact ⟨rfl, nextw HBo (by exact ⟨rfl, rfl, rfl, Nat.le_refl _, fun _ _ => rfl⟩)⟩


theorem Roots_any {sx : Bool} {Ax : Option Addr} {kx cx : Nat} {zx : Int} {w : World} (hx : Rd w (.agg #[.bool sx, .slice Ax kx cx]) zx kx) (htab : Tab10 w) :
    Calls Tryd.prog 8 #[.agg #[.bool sx, .slice Ax kx cx]] w fun e w' => e = .returned (.bool true) ∧ Below w.heap.size w w' := by
  by_cases h1 : 6 < kx
  · exact Roots_long hx htab h1
  rcases Int.lt_or_le zx 0 with h0 | h0
  · exact Roots_neg hx htab h1 h0
  · exact Roots_main hx htab h1 h0
end Go.Proofs.YthfkahccnpkgjaaDoor
