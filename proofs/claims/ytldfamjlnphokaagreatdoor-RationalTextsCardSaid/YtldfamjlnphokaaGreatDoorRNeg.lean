/- The reference: Neg, Sign, bit, Bits, Sub. -/
import Derived.Test.YtldfamjlnphokaaGreatDoorRAdd3
import Derived.Test.YtldfamjlnphokaaGreatDoorMagn

set_option linter.unusedVariables false
set_option linter.unusedSimpArgs false

namespace Go.Proofs.YtldfamjlnphokaaGreatDoor
open Go Go.RowKit Num


set_option maxRecDepth 100000 in
set_option maxHeartbeats 2000000 in
theorem RNeg_rd {v1 : Value} {z1 : Int} {n1 : Nat} {w : World} (h1 : Rd w v1 z1 n1) (f1 : n1 ≤ 50000) :
    Calls Tryz.prog 64 #[v1] w fun e w' => ∃ v, e = .returned v ∧ Rc w' v (-z1) n1 ∧ Below w.heap.size w w' := by
  obtain ⟨s1, A1, k1, c1, rfl, -⟩ := h1.shape
  have HA := Lib.hid h1.abs
  have V_x := Lib.hid h1
  clear h1
  have hb0 : Below w.heap.size w ((w.alloc (.cells #[.bool s1, (.slice A1 k1 c1)] 24)).alloc (.cells #[.bool false, (.slice none 0 0)] 24)) := (Below.alloc (Below.alloc (Below.refl w.heap.size w) (by simp <;> omega) _) (by simp <;> omega) _)
  have B_x : Box ((w.alloc (.cells #[.bool s1, (.slice A1 k1 c1)] 24)).alloc (.cells #[.bool false, (.slice none 0 0)] 24)) (w.heap.size) s1 (.slice A1 k1 c1) := by have h := Box.alloc (Box.new w s1 (.slice A1 k1 c1)) (.cells #[.bool false, (.slice none 0 0)] 24); simpa using h
  replace B_x := Lib.hid B_x
  have B_r : Box ((w.alloc (.cells #[.bool s1, (.slice A1 k1 c1)] 24)).alloc (.cells #[.bool false, (.slice none 0 0)] 24)) (w.heap.size + 1) false (.slice none 0 0) := by have h := Box.new (w.alloc (.cells #[.bool s1, (.slice A1 k1 c1)] 24)) false (.slice none 0 0); simpa using h
  replace B_r := Lib.hid B_r
  replace V_x := Lib.hid (Rd.below V_x.out hb0)
  have HB := Lib.hid hb0
  clear hb0
  have c0x := B_x.out.c0
  have c1x := B_x.out.c1
  have f0x := B_x.out.f0
  have f1x := B_x.out.f1
  have c0r := B_r.out.c0
  have c1r := B_r.out.c1
  have f0r := B_r.out.f0
  have f1r := B_r.out.f1
  go_enter Tryz.func64, Tryz.ntmps64
  go_wp2_with fail
  clear c0x c1x f0x f1x c0r c1r f0r f1r
  generalize (w.alloc (.cells #[.bool s1, (.slice A1 k1 c1)] 24)).alloc (.cells #[.bool false, (.slice none 0 0)] 24) = W0 at *
  obtain ⟨l, hu, hi, hl⟩ := Rd.u32 V_x.out
  have hd : Rd W0 (.agg #[.bool (!s1), .slice A1 k1 c1]) (-z1) n1 := ⟨_, _, l, rfl, hu, by rw [ival_not, hi], hl⟩
  have V_d := Lib.hid hd
  clear hd hu hl hi
  refine (RNorm_rd (Rd.below V_d.out (by exact ⟨rfl, rfl, rfl, Nat.le_refl _, fun _ _ => rfl⟩)) f1).mono ?_
  rintro e w1 ⟨v, rfl, rr, bb⟩
  replace bb := nextw (w0 := W0) (by exact ⟨rfl, rfl, rfl, Nat.le_refl _, fun _ _ => rfl⟩) bb
  replace B_x := Lib.hid (Box.below B_x.out bb B_x.out.lt)
  replace B_r := Lib.hid (Box.below B_r.out bb B_r.out.lt)
  replace V_x := Lib.hid (Rd.below V_x.out bb)
  replace V_d := Lib.hid (Rd.below V_d.out bb)
  replace HB := Lib.hid (nextw HB.out bb)
  clear bb
  obtain ⟨sr, Ar, kr, cr, rfl⟩ := rr.shape
  have V_r := Lib.hid rr
  clear rr
  have bS := Box.store B_r.out sr (.slice Ar kr cr)
  have s0 := bS.c0
  have s1 := bS.c1
  have K_r := Lib.hid (Box.keepsRc B_r.out V_r.out sr (.slice Ar kr cr))
  have HBF := Lib.hid (Below.store HB.out (x := w.heap.size + 1) (by omega) (.bool sr) (.slice Ar kr cr))
  clear bS
  have c0r := B_r.out.c0
  have c1r := B_r.out.c1
  have f0r := B_r.out.f0
  have f1r := B_r.out.f1
  go_wp2_with fail
  generalize (w1.setCell ⟨w.heap.size + 1, 0, none⟩ (.bool sr)).setCell ⟨w.heap.size + 1, 1, none⟩ (.slice Ar kr cr) = WF at *
  go_wp2
  exact bodyPost_ret (v := .agg #[.bool sr, (.slice Ar kr cr)]) (by simp [results, Tryz.results64, go_sem, s0, s1]) rfl ⟨_, rfl, K_r.out, HBF.out⟩

set_option maxRecDepth 100000 in
set_option maxHeartbeats 2000000 in
theorem RSign_rd {v1 : Value} {z1 : Int} {n1 : Nat} {w : World} (h1 : Rd w v1 z1 n1) (f1 : n1 ≤ 50000) :
    Calls Tryz.prog 58 #[v1] w fun e w' => e = .returned (.int .i64 (sgn z1)) ∧ Below w.heap.size w w' := by
  obtain ⟨s1, A1, k1, c1, rfl, -⟩ := h1.shape
  have V_x := Lib.hid h1
  clear h1
  have hb0 : Below w.heap.size w (w.alloc (.cells #[.bool s1, (.slice A1 k1 c1)] 24)) := (Below.alloc (Below.refl w.heap.size w) (by simp <;> omega) _)
  have B_x : Box (w.alloc (.cells #[.bool s1, (.slice A1 k1 c1)] 24)) (w.heap.size) s1 (.slice A1 k1 c1) := by have h := Box.new w s1 (.slice A1 k1 c1); simpa using h
  replace B_x := Lib.hid B_x
  replace V_x := Lib.hid (Rd.below V_x.out hb0)
  have HB := Lib.hid hb0
  clear hb0
  have c0x := B_x.out.c0
  have c1x := B_x.out.c1
  go_enter Tryz.func58, Tryz.ntmps58
  go_wp2_with fail
  clear c0x c1x
  generalize w.alloc (.cells #[.bool s1, (.slice A1 k1 c1)] 24) = W0 at *
  obtain ⟨l, hu, hi, hl⟩ := Rd.u32 V_x.out
  have hv := ival_abs s1 l
  rw [hi] at hv
  have HV := Lib.hid hv
  have HI := Lib.hid hi
  clear hi hv
  refine (rtrim_any _ l _ hu (by omega)).mono ?_
  rintro e w1 ⟨Am, cm, rfl, -, bb⟩
  rw [← HV.out]
  clear hu hl
  replace B_x := Lib.hid (Box.below B_x.out bb B_x.out.lt)
  replace V_x := Lib.hid (Rd.below V_x.out bb)
  replace HB := Lib.hid (nextw HB.out bb)
  clear bb
  by_cases h0 : z1 = 0
  · subst h0
    rw [show (digs (0 : Int).natAbs).length = 0 from by rw [Int.natAbs_zero, digs_zero]; rfl]
    have c0x := B_x.out.c0
    have c1x := B_x.out.c1
    have HBo := HB.out
    go_wp2
    go_ret
    exact ⟨rfl, nextw HBo (by exact ⟨rfl, rfl, rfl, Nat.le_refl _, fun _ _ => rfl⟩)⟩
  · have hz : (((digs z1.natAbs).length : Int) == 0) = false := by rw [beq_eq_false_iff_ne]; intro h1; exact h0 (by have := nat_len_zero.1 (by omega : (digs z1.natAbs).length = 0); omega)
    have hs : sgn z1 = if s1 then -1 else 1 := by
      have h1 := HI.out
      unfold ival at h1
      unfold sgn
      cases s1
      · simp only [Bool.false_eq_true, if_false] at h1 ⊢; rw [if_neg (by omega), if_neg (by omega)]
      · simp only [if_true] at h1 ⊢; rw [if_pos (by omega)]
    have HS := Lib.hid hs
    generalize (digs z1.natAbs).length = q at *
    clear hs h0 HI HV
    cases s1
    all_goals
      have c0x := B_x.out.c0
      have c1x := B_x.out.c1
      have HBo := HB.out
      go_wp2
      go_ret
      exact ⟨ret_int (by rw [HS.out]; rfl), nextw HBo (by exact ⟨rfl, rfl, rfl, Nat.le_refl _, fun _ _ => rfl⟩)⟩

/-- The bit i of N. -/
theorem bit_word {l : List Nat} (hl : ∀ x ∈ l, x < 4294967296) (i : Nat) : val l / 2 ^ i % 2 = l.getD (i / 32) 0 / 2 ^ (i % 32) % 2 := by
  have h1 : val (l.drop (i / 32)) / 2 ^ (i % 32) = val l / 2 ^ i := by
    rw [val_drop_div hl, Nat.div_div_eq_div_mul, show 4294967296 ^ (i / 32) = 2 ^ (32 * (i / 32)) from by rw [Nat.pow_mul], ← Nat.pow_add, Nat.div_add_mod]
  rw [← h1]
  have hr : i % 32 < 32 := Nat.mod_lt _ (by omega)
  generalize i % 32 = r at *
  generalize i / 32 = k at *
  rcases Nat.lt_or_ge k l.length with h | h
  · have e : l.drop k = l.getD k 0 :: l.drop (k + 1) := by rw [List.drop_eq_getElem_cons h]; simp [List.getD, h]
    rw [e, val]
    have hp : (4294967296 : Nat) = 2 ^ r * (2 * 2 ^ (31 - r)) := by
      rw [← Nat.pow_succ', ← Nat.pow_add, show r + (31 - r + 1) = 32 by omega]
    rw [hp, Nat.mul_assoc, Nat.add_mul_div_left _ _ (Nat.pow_pos (by omega)), Nat.mul_assoc, Nat.add_mul_mod_self_left]
  · rw [List.drop_eq_nil_of_le h]
    simp [val, List.getD, List.getElem?_eq_none h]
set_option maxRecDepth 100000 in
set_option maxHeartbeats 2000000 in
theorem rbit_any (v : Value) (l : List Nat) (i : Nat) (w : World) (h : U32 w v l) (hn : l.length ≤ 500000) (hi : i < 32 * l.length) :
    Calls Tryz.prog 144 #[v, .int .i64 i] w fun e w' => e = .returned (.int .u32 ((val l / 2 ^ i % 2 : Nat) : Int)) ∧ w = w' := by
  have hb := bit_word h.lt i
  have HBT := Lib.hid hb
  clear hb
  obtain ⟨A1, cap1, rfl, hc1, hm1, hf1⟩ := id h.form
  obtain ⟨b1, o1, rfl, hb1, hcell1⟩ := hf1 (by intro h; rw [h] at hi; simp at hi)
  have hx := hcell1 (i / 32) (by omega)
  have a1 := getD_lt h.lt (i / 32)
  have hk : i / 32 < l.length := by omega
  have hr : i % 32 < 32 := Nat.mod_lt _ (by omega)
  have hpos : 0 < 2 ^ (i % 32) := Nat.pow_pos (by omega)
  have a2 : l.getD (i / 32) 0 / 2 ^ (i % 32) < 4294967296 := Nat.lt_of_le_of_lt (Nat.div_le_self _ _) a1
  rw [HBT.out]
  generalize l.getD (i / 32) 0 = x at *
  obtain ⟨y, hy⟩ : ∃ y, x / 2 ^ (i % 32) = y := ⟨_, rfl⟩
  have hyI : (x : Int) / 2 ^ (i % 32) = (y : Int) := by rw [← hy, Int.natCast_ediv, Int.natCast_pow]; rfl
  rw [hy] at a2 ⊢
  have HY : Hid (((y % 2 : Nat) : Int) = (y : Int) % 2) := by unfold Hid; omega
  rw [HY.out]
  clear hcell1 hf1 h HBT hy HY hpos
  go_enter Tryz.func144, Tryz.ntmps144
  go_wp2
  go_ret
  exact ⟨rfl, rfl⟩

theorem rbit_at {v : Value} {l : List Nat} {N k : Nat} {b i : Int} {w : World} (h : U32 w v l) (hN : val l = N) (hn : l.length ≤ 500000) (hk : k < 32 * l.length) (hb : ((N / 2 ^ k % 2 : Nat) : Int) = b) (hi : i = (k : Int)) :
    Calls Tryz.prog 144 #[v, .int .i64 i] w fun e w' => e = .returned (.int .u32 b) ∧ w = w' := by
  subst hi hb hN
  exact rbit_any v l k w h hn hk

theorem lt_top (n : Nat) : n < 2 ^ (32 * (digs n).length) := by
  have h := lt_pow_length n
  rw [Nat.pow_mul]
  exact h
set_option maxRecDepth 100000 in
set_option maxHeartbeats 4000000 in
theorem RSub_rd {v1 v2 : Value} {z1 z2 : Int} {n1 n2 : Nat} {w : World} (h1 : Rd w v1 z1 n1) (h2 : Rd w v2 z2 n2) (f1 : n1 ≤ 20000) (f2 : n2 ≤ 20000) :
    Calls Tryz.prog 126 #[v1, v2] w fun e w' => ∃ v, e = .returned v ∧ Rc w' v (z1 - z2) (n1 + n2 + 1) ∧ Below w.heap.size w w' := by
  obtain ⟨s1, A1, k1, c1, rfl, -⟩ := h1.shape
  obtain ⟨s2, A2, k2, c2, rfl, -⟩ := h2.shape
  have HA := Lib.hid (And.intro h1.abs h2.abs)
  have V_x := Lib.hid h1
  have V_y := Lib.hid h2
  clear h1 h2
  have hb0 : Below w.heap.size w (((w.alloc (.cells #[.bool s1, (.slice A1 k1 c1)] 24)).alloc (.cells #[.bool s2, (.slice A2 k2 c2)] 24)).alloc (.cells #[.bool false, (.slice none 0 0)] 24)) := (Below.alloc (Below.alloc (Below.alloc (Below.refl w.heap.size w) (by simp <;> omega) _) (by simp <;> omega) _) (by simp <;> omega) _)
  have B_x : Box (((w.alloc (.cells #[.bool s1, (.slice A1 k1 c1)] 24)).alloc (.cells #[.bool s2, (.slice A2 k2 c2)] 24)).alloc (.cells #[.bool false, (.slice none 0 0)] 24)) (w.heap.size) s1 (.slice A1 k1 c1) := by have h := Box.alloc (Box.alloc (Box.new w s1 (.slice A1 k1 c1)) (.cells #[.bool s2, (.slice A2 k2 c2)] 24)) (.cells #[.bool false, (.slice none 0 0)] 24); simpa using h
  replace B_x := Lib.hid B_x
  have B_y : Box (((w.alloc (.cells #[.bool s1, (.slice A1 k1 c1)] 24)).alloc (.cells #[.bool s2, (.slice A2 k2 c2)] 24)).alloc (.cells #[.bool false, (.slice none 0 0)] 24)) (w.heap.size + 1) s2 (.slice A2 k2 c2) := by have h := Box.alloc (Box.new (w.alloc (.cells #[.bool s1, (.slice A1 k1 c1)] 24)) s2 (.slice A2 k2 c2)) (.cells #[.bool false, (.slice none 0 0)] 24); simpa using h
  replace B_y := Lib.hid B_y
  have B_r : Box (((w.alloc (.cells #[.bool s1, (.slice A1 k1 c1)] 24)).alloc (.cells #[.bool s2, (.slice A2 k2 c2)] 24)).alloc (.cells #[.bool false, (.slice none 0 0)] 24)) (w.heap.size + 2) false (.slice none 0 0) := by have h := Box.new ((w.alloc (.cells #[.bool s1, (.slice A1 k1 c1)] 24)).alloc (.cells #[.bool s2, (.slice A2 k2 c2)] 24)) false (.slice none 0 0); simpa using h
  replace B_r := Lib.hid B_r
  replace V_x := Lib.hid (Rd.below V_x.out hb0)
  replace V_y := Lib.hid (Rd.below V_y.out hb0)
  have HB := Lib.hid hb0
  clear hb0
  have c0x := B_x.out.c0
  have c1x := B_x.out.c1
  have f0x := B_x.out.f0
  have f1x := B_x.out.f1
  have c0y := B_y.out.c0
  have c1y := B_y.out.c1
  have f0y := B_y.out.f0
  have f1y := B_y.out.f1
  have c0r := B_r.out.c0
  have c1r := B_r.out.c1
  have f0r := B_r.out.f0
  have f1r := B_r.out.f1
  go_enter Tryz.func126, Tryz.ntmps126
  go_wp2
  clear c0x c1x f0x f1x c0y c1y f0y f1y c0r c1r f0r f1r
  generalize ((w.alloc (.cells #[.bool s1, (.slice A1 k1 c1)] 24)).alloc (.cells #[.bool s2, (.slice A2 k2 c2)] 24)).alloc (.cells #[.bool false, (.slice none 0 0)] 24) = W0 at *
  have c0x := B_x.out.c0
  have c1x := B_x.out.c1
  have c0y := B_y.out.c0
  have c1y := B_y.out.c1
  have tk0 : True := trivial
  first | (go_region_held3 (fun w' => w'.cell? ⟨w.heap.size, 0, none⟩ = some (.bool s1) ∧ w'.cell? ⟨w.heap.size, 1, none⟩ = some (.slice A1 k1 c1) ∧ w'.cell? ⟨w.heap.size + 1, 0, none⟩ = some (.bool s2) ∧ w'.cell? ⟨w.heap.size + 1, 1, none⟩ = some (.slice A2 k2 c2)) (((try dsimp only); (repeat' apply And.intro) <;> (first | assumption | (refine Eq.trans (far2 (by omega) _ _) ?_; assumption) | go_keep)))
    (first
      | (have _t := tk0; clear _t tk0; go_at_call 64; refine (RNeg_rd (Rd.below V_y.out (by exact ⟨rfl, rfl, rfl, Nat.le_refl _, fun _ _ => rfl⟩)) (by omega)).mono ?_; rintro e w1 ⟨vd, rfl, rd, bb⟩; replace bb := nextw (w0 := W0) (by exact ⟨rfl, rfl, rfl, Nat.le_refl _, fun _ _ => rfl⟩) bb; replace B_x := Lib.hid (Box.below B_x.out bb B_x.out.lt); replace B_y := Lib.hid (Box.below B_y.out bb B_y.out.lt); replace B_r := Lib.hid (Box.below B_r.out bb B_r.out.lt); replace V_x := Lib.hid (Rd.below V_x.out bb); replace V_y := Lib.hid (Rd.below V_y.out bb); replace HB := Lib.hid (nextw HB.out bb); clear bb; replace rd := Lib.hid rd; have V_d := rd; clear rd; have c0x := B_x.out.c0; have c1x := B_x.out.c1; have c0y := B_y.out.c0; have c1y := B_y.out.c1; have tk1 : True := trivial)
      | (have _t := tk1; clear _t tk1; go_at_call 61; refine (RAdd_rd (Rd.below V_x.out (by exact ⟨rfl, rfl, rfl, Nat.le_refl _, fun _ _ => rfl⟩)) (Rc.rd (Rc.below V_d.out (by exact ⟨rfl, rfl, rfl, Nat.le_refl _, fun _ _ => rfl⟩))) (by omega) (by omega)).mono ?_; rintro e w2 ⟨vr, rfl, rr, bb⟩; replace bb := nextw (w0 := w1) (by exact ⟨rfl, rfl, rfl, Nat.le_refl _, fun _ _ => rfl⟩) bb; replace B_x := Lib.hid (Box.below B_x.out bb B_x.out.lt); replace B_y := Lib.hid (Box.below B_y.out bb B_y.out.lt); replace B_r := Lib.hid (Box.below B_r.out bb B_r.out.lt); replace V_x := Lib.hid (Rd.below V_x.out bb); replace V_y := Lib.hid (Rd.below V_y.out bb); replace V_d := Lib.hid (Rc.below V_d.out bb); replace HB := Lib.hid (nextw HB.out bb); clear bb; replace rr := Lib.hid rr; have V_r := rr; clear rr; obtain ⟨sr, Ar, kr, cr, rfl⟩ := V_r.out.shape; have c0r := B_r.out.c0; have c1r := B_r.out.c1; have f0r := B_r.out.f0; have f1r := B_r.out.f1; have c0x := B_x.out.c0; have c1x := B_x.out.c1; have c0y := B_y.out.c0; have c1y := B_y.out.c1; have tk2 : True := trivial))) | fail
  all_goals
    have bS := Box.store B_r.out sr (.slice Ar kr cr)
    have s0 := bS.c0
    have s1 := bS.c1
    have K_r := Lib.hid (Box.keepsRc B_r.out V_r.out sr (.slice Ar kr cr))
    have HBF := Lib.hid (Below.store HB.out (x := w.heap.size + 2) (by omega) (.bool sr) (.slice Ar kr cr))
    clear bS
    have c0r := B_r.out.c0
    have c1r := B_r.out.c1
    have f0r := B_r.out.f0
    have f1r := B_r.out.f1
    go_wp2_with fail
    generalize (w2.setCell ⟨w.heap.size + 2, 0, none⟩ (.bool sr)).setCell ⟨w.heap.size + 2, 1, none⟩ (.slice Ar kr cr) = WF at *
    go_wp2
    exact bodyPost_ret (v := .agg #[.bool sr, (.slice Ar kr cr)]) (by simp [results, Tryz.results126, go_sem, s0, s1]) rfl ⟨_, rfl, ⟨K_r.out.1, sub_words HA.out.1 HA.out.2⟩, HBF.out⟩
end Go.Proofs.YtldfamjlnphokaaGreatDoor
