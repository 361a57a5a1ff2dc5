/- heading.Floor. -/
import Derived.Test.YtincejndchdcdaaHCmp
namespace Go.Proofs.Ytincejndchdcdaa
open Go Go.RowKit Hd

/-- The quadrant of a direction. -/
def quad (v : V3) : Nat := if 0 < v.x ∧ 0 ≤ v.y then 0 else if v.x ≤ 0 ∧ 0 < v.y then 1 else if v.x < 0 ∧ v.y ≤ 0 then 2 else 3
/-- The mark h is the one of v's quadrant, and the floor in it. -/
def FloorAt (v : V3) (h : Int) : Prop := ∃ (n : Nat) (u : V3), n ≤ 3 ∧ rots n u = v ∧ Ok u ∧ 0 < u.x ∧ 0 ≤ u.y ∧ h = 64 * n + 64 * u.y / (u.x + u.d)
def unrot (u : V3) : V3 := ⟨u.y, -u.x, u.d⟩
theorem rot_unrot (u : V3) : rot (unrot u) = u := V3.eq (by show - -u.x = u.x; omega) rfl rfl
theorem ok_unrot {u : V3} (h : Ok u) : Ok (unrot u) := ⟨h.lo, h.hi, by have := h.eq; show u.y * u.y + -u.x * -u.x = u.d * u.d; grind⟩
theorem rots_succ' (n : Nat) (u : V3) : rots (n + 1) u = rots n (rot u) := by
  induction n with
  | zero => rfl
  | succ n ih => show rot (rots (n + 1) u) = rot (rots n (rot u)); rw [ih]
theorem quad_le (v : V3) : quad v ≤ 3 := by unfold quad; split <;> (try split) <;> (try split) <;> omega
theorem quad_zero {v : V3} (h : 0 < v.x ∧ 0 ≤ v.y) : quad v = 0 := if_pos h
theorem not_origin {u : V3} (h : Ok u) : ¬ (u.x = 0 ∧ u.y = 0) := by
  rintro ⟨h1, h2⟩
  have e := h.eq
  have l := mul_pos1 h.lo h.lo
  rw [h1, h2] at e; omega
theorem quad_next {u : V3} (h : Ok u) (hn : ¬ (0 < u.x ∧ 0 ≤ u.y)) : quad u = quad (unrot u) + 1 := by
  have ho := not_origin h
  unfold quad
  show (if _ then _ else _) = (if 0 < u.y ∧ 0 ≤ -u.x then 0 else if u.y ≤ 0 ∧ 0 < -u.x then 1 else if u.y < 0 ∧ -u.x ≤ 0 then 2 else 3) + 1
  repeat' split
  all_goals omega
/-- What holds at the head of the loop. -/
structure FlAt (v : V3) (n : Nat) (u : V3) : Prop where
  ok : Ok u
  at_ : rots n u = v
  quad : quad u + n = quad v
theorem FlAt.next {v : V3} {n : Nat} {u : V3} (h : FlAt v n u) (hn : ¬ (0 < u.x ∧ 0 ≤ u.y)) : FlAt v (n + 1) (unrot u) ∧ Go.Proofs.Ytincejndchdcdaa.quad (unrot u) < Go.Proofs.Ytincejndchdcdaa.quad u := by
  have hq := quad_next h.ok hn
  exact ⟨⟨ok_unrot h.ok, by rw [rots_succ', rot_unrot]; exact h.at_, by have := h.quad; omega⟩, by omega⟩
theorem FlAt.n_le {v : V3} {n : Nat} {u : V3} (h : FlAt v n u) : n ≤ 3 := by have := h.quad; have := quad_le v; omega

set_option maxRecDepth 100000 in
set_option maxHeartbeats 1000000 in
theorem Floor_bad (v : V3) (hf : Fit v) (hn : ¬ Ok v) (w : World) :
    Calls Try.prog 29 #[vv v] w fun e w' => e = .returned (.tuple #[.int .i64 0, .int .i64 1]) ∧ Below w.heap.size w w' := by
  have HV := Lib.hid (fun w => Valid_no v hf hn w)
  obtain ⟨x, y, d⟩ := v
  clear hf hn
  have HB := Lib.hid (show Below w.heap.size w (w.alloc (.cells #[.int .i64 x, .int .i64 y, .int .i64 d] 24)) from ((Below.refl _ _).alloc (by simp <;> omega) _))
  have B_a : Box3 (w.alloc (.cells #[.int .i64 x, .int .i64 y, .int .i64 d] 24)) (w.heap.size) x y d := by have h := (Box3.new w x y d); simpa using h
  replace B_a := Lib.hid B_a
  go_enter Try.func29, Try.ntmps29
  go_wp2_with fail
  generalize w.alloc (.cells #[.int .i64 x, .int .i64 y, .int .i64 d] 24) = W0 at *
  have c0a := B_a.out.c0
  have c1a := B_a.out.c1
  have c2a := B_a.out.c2
  refine (HV.out _).mono ?_
  clear c0a c1a c2a
  rintro e w1 ⟨rfl, bb⟩
  replace bb := nextw (w0 := W0) (by exact ⟨rfl, rfl, rfl, Nat.le_refl _, fun _ _ => rfl⟩) bb
  replace B_a := Lib.hid (Box3.below B_a.out bb B_a.out.lt)
  replace HB := Lib.hid (nextw HB.out bb)
  clear bb
  go_wp2
  go_ret2
  exact ⟨rfl, nextw HB.out (by exact ⟨rfl, rfl, rfl, Nat.le_refl _, fun _ _ => rfl⟩)⟩

/-- An answer and the world. -/
def Floored (v : V3) (w : World) (e : Ending) (w' : World) : Prop := ∃ h : Int, e = .returned (.tuple #[.int .i64 h, .int .i64 0]) ∧ FloorAt v h ∧ Below w.heap.size w w'

set_option maxRecDepth 100000 in
set_option maxHeartbeats 1000000 in
theorem Floor_ok (v : V3) (hv : Ok v) (w : World) :
    Calls Try.prog 29 #[vv v] w fun e w' => Floored v w e w' := by
  have HV := Lib.hid (fun w => Valid_yes v hv w)
  obtain ⟨V, hV⟩ : ∃ V, v = V := ⟨_, rfl⟩
  have HS : Hid (FlAt V 0 v) := ⟨hv, hV, by rw [hV]; omega⟩
  rw [show Floored v = Floored V by rw [hV]]
  clear hV hv
  obtain ⟨x, y, d⟩ := v
  have HB := Lib.hid (show Below w.heap.size w (w.alloc (.cells #[.int .i64 x, .int .i64 y, .int .i64 d] 24)) from ((Below.refl _ _).alloc (by simp <;> omega) _))
  have B_a : Box3 (w.alloc (.cells #[.int .i64 x, .int .i64 y, .int .i64 d] 24)) (w.heap.size) x y d := by have h := (Box3.new w x y d); simpa using h
  replace B_a := Lib.hid B_a
  go_enter Try.func29, Try.ntmps29
  go_wp2_with fail
  generalize w.alloc (.cells #[.int .i64 x, .int .i64 y, .int .i64 d] 24) = W0 at *
  have c0a := B_a.out.c0
  have c1a := B_a.out.c1
  have c2a := B_a.out.c2
  refine (HV.out _).mono ?_
  clear c0a c1a c2a
  rintro e w1 ⟨rfl, bb⟩
  replace bb := nextw (w0 := W0) (by exact ⟨rfl, rfl, rfl, Nat.le_refl _, fun _ _ => rfl⟩) bb
  replace B_a := Lib.hid (Box3.below B_a.out bb B_a.out.lt)
  replace HB := Lib.hid (nextw HB.out bb)
  clear bb
  have hlt := B_a.out.lt
  clear hlt HV
  go_wp2_with fail
  go_loopw [4] (fun m wr => ∃ (n : Nat) (u : V3), m = .int .i64 (64 * n) ∧ Hid (FlAt V n u) ∧ Hid (Box3 wr w.heap.size u.x u.y u.d) ∧ Hid (Below w.heap.size w wr)) (fun m _ => (256 - intOf m).toNat)
  case atStart => exact ⟨0, ⟨x, y, d⟩, rfl, HS, B_a, HB⟩
  case round =>
    clear HS B_a HB
    obtain ⟨n, u, rfl, hs, ba, hb⟩ := hrel
    have hn := hs.out.n_le
    have hbx := hs.out.ok.bx
    have hby := hs.out.ok.by_
    have hd1 := hs.out.ok.lo
    have hd2 := hs.out.ok.hi
    by_cases hq : 0 < u.x ∧ 0 ≤ u.y
    · obtain ⟨q1, q2⟩ := hq
      have HQ : Hid (FloorAt V (64 * n + 64 * u.y / (u.x + u.d))) := ⟨n, u, hn, hs.out.at_, hs.out.ok, q1, q2, rfl⟩
      have hle : 64 * u.y / (u.x + u.d) ≤ 64 := by have := Int.ediv_le_of_le_mul (show 0 < u.x + u.d by omega) (show 64 * u.y ≤ 64 * (u.x + u.d) by omega); omega
      have hge : 0 ≤ 64 * u.y / (u.x + u.d) := Int.ediv_nonneg (by omega) (by omega)
      have hz : (u.x + u.d == 0) = false := by rw [beq_eq_false_iff_ne]; omega
      obtain ⟨x, y, d⟩ := u
      simp only at hbx hby hd1 hd2 q1 q2 HQ hle hge hz
      have c0 := ba.out.c0
      have c1 := ba.out.c1
      have c2 := ba.out.c2
      simp only at c0 c1 c2
      go_wp2
      go_ret2
      exact ⟨_, rfl, HQ.out, nextw hb.out (by exact ⟨rfl, rfl, rfl, Nat.le_refl _, fun _ _ => rfl⟩)⟩
    · have HN := Lib.hid (hs.out.next hq).1
      have hq2 : u.x ≤ 0 ∨ u.y < 0 := by omega
      have hn2 := HN.out.n_le
      obtain ⟨x, y, d⟩ := u
      simp only at hbx hby hd1 hd2 hq2 hq
      have BS := Lib.hid (ba.out.set01 y (-x))
      have HS := Lib.hid (Below.store2 hb.out (y := w.heap.size) (Nat.le_refl _) (.int .i64 y) (.int .i64 (-x)))
      have c0 := ba.out.c0
      have c1 := ba.out.c1
      have f0 := ba.out.f0
      have f1 := ba.out.f1
      simp only at c0 c1 f0 f1
      clear hq
      by_cases hx : x ≤ 0
      · clear hq2
        go_wp2
        go_roundw
        case rel => exact ⟨n + 1, ⟨y, -x, d⟩, by go_num, HN, BS, HS⟩
        case measure => simp only [intOf]; omega
      · have hy : y < 0 := by omega
        clear hq2
        go_wp2
        go_roundw
        case rel => exact ⟨n + 1, ⟨y, -x, d⟩, by go_num, HN, BS, HS⟩
        case measure => simp only [intOf]; omega
end Go.Proofs.Ytincejndchdcdaa
