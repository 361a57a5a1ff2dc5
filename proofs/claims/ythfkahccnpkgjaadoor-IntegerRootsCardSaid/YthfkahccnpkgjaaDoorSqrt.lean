/- integer.Sqrt, in general. -/
import Derived.Test.YthfkahccnpkgjaaDoorRootG
import Derived.Test.YthfkahccnpkgjaaDoorRefC
import Derived.Test.YthfkahccnpkgjaaDoorDivides

set_option linter.unusedVariables false
set_option linter.unusedSimpArgs false

namespace Go.Proofs.YthfkahccnpkgjaaDoor
open Go Go.RowKit Num

theorem root_words {n s k : Nat} (h : IsRoot n s) (hn : n < 4294967296 ^ k) : s < 4294967296 ^ k := by
  refine Nat.lt_of_le_of_lt ?_ hn
  rcases Nat.eq_zero_or_pos s with h0 | h0
  · omega
  · exact Nat.le_trans (Nat.le_mul_of_pos_left s h0) h.1

set_option maxRecDepth 100000 in
set_option maxHeartbeats 2000000 in
theorem Sqrt_rd {v1 : Value} {z1 : Int} {n1 : Nat} {w : World} (h1 : Rd w v1 z1 n1) (f1 : n1 ≤ 40000) (h0 : 0 ≤ z1) :
    Calls Tryd.prog 30 #[v1] w fun e w' => ∃ v s, e = .returned (.tuple #[v, .int .i64 0]) ∧ Rc w' v (s : Nat) n1 ∧ IsRoot z1.natAbs s ∧ Below w.heap.size w w' := by
  have H1a := h1.abs
  have HA := Lib.hid H1a
  clear H1a
  obtain ⟨s1, A1, k1, c1, rfl, -⟩ := h1.shape
  have V_x := Lib.hid h1
  clear h1
  have hb0 : Below w.heap.size w ((w.alloc (.cells #[.bool s1, (.slice A1 k1 c1)] 24)).alloc (.cells #[.bool false, (.slice none 0 0)] 24)) := (Below.alloc (Below.alloc (Below.refl w.heap.size w) (by simp <;> omega) _) (by simp <;> omega) _)
  have B_x : Box ((w.alloc (.cells #[.bool s1, (.slice A1 k1 c1)] 24)).alloc (.cells #[.bool false, (.slice none 0 0)] 24)) (w.heap.size) s1 (.slice A1 k1 c1) := by have h := Box.alloc (Box.new w s1 (.slice A1 k1 c1)) (.cells #[.bool false, (.slice none 0 0)] 24); simpa using h
  replace B_x := Lib.hid B_x
  have B_r : Box ((w.alloc (.cells #[.bool s1, (.slice A1 k1 c1)] 24)).alloc (.cells #[.bool false, (.slice none 0 0)] 24)) (w.heap.size + 1) false (.slice none 0 0) := by have h := Box.new (w.alloc (.cells #[.bool s1, (.slice A1 k1 c1)] 24)) false (.slice none 0 0); simpa using h
  replace B_r := Lib.hid B_r
  replace V_x := Lib.hid (Rd.below V_x.out hb0)
  have HB := Lib.hid hb0
  clear hb0
  have c0x := B_x.out.c0
  have c1x := B_x.out.c1
  go_enter Tryd.func30, Tryd.ntmps30
  go_wp2_with fail
  clear c0x c1x
  generalize (w.alloc (.cells #[.bool s1, (.slice A1 k1 c1)] 24)).alloc (.cells #[.bool false, (.slice none 0 0)] 24) = W0 at *
  refine (Sign_rd_nn (Rd.below V_x.out (by exact ⟨rfl, rfl, rfl, Nat.le_refl _, fun _ _ => rfl⟩)) h0).mono ?_
  rintro e w1 ⟨cs, hcs, rfl, bb⟩
  replace bb := nextw (w0 := W0) (by exact ⟨rfl, rfl, rfl, Nat.le_refl _, fun _ _ => rfl⟩) bb
  replace B_x := Lib.hid (Box.below B_x.out bb B_x.out.lt)
  replace B_r := Lib.hid (Box.below B_r.out bb B_r.out.lt)
  replace V_x := Lib.hid (Rd.below V_x.out bb)
  replace HB := Lib.hid (nextw HB.out bb)
  clear bb
  clear h0
  have c0x := B_x.out.c0
  have c1x := B_x.out.c1
  obtain ⟨l, hu, hi, hl⟩ := Rd.u32 V_x.out
  have hv := ival_abs s1 l
  rw [hi] at hv
  have HV := Lib.hid hv
  have HU := Lib.hid hu
  have HL := Lib.hid hl
  clear hi hv hu hl
  go_wp2_with fail
  refine (trim_eq _ l _ HU.out).mono ?_
  rintro e w1 ⟨rfl, rfl⟩
  have hm := trimV_mag HU.out
  have HM := Lib.hid hm
  clear hm
  clear c0x c1x
  go_wp2_with fail
  refine (root_ind 49999 (by omega) _ _ _ HM.out (Nat.le_trans (length_val_le HU.out.lt) (by have := HL.out; omega))).mono ?_
  rintro e w2 ⟨v3, s, rfl, m3, hr, bb⟩
  replace bb := nextw (w0 := w1) (by exact ⟨rfl, rfl, rfl, Nat.le_refl _, fun _ _ => rfl⟩) bb
  replace B_x := Lib.hid (Box.below B_x.out bb B_x.out.lt)
  replace B_r := Lib.hid (Box.below B_r.out bb B_r.out.lt)
  replace V_x := Lib.hid (Rd.below V_x.out bb)
  replace HB := Lib.hid (nextw HB.out bb)
  clear bb
  have M3 := Lib.hid m3
  have HR := Lib.hid hr
  clear m3 hr HM HU HL
  go_wp2_with fail
  refine (signed_can false _ (digs s) _ M3.out).mono ?_
  rintro e w9 ⟨sr, Ar, kr, cr, rfl, hc, bb⟩
  replace bb := nextw (w0 := w2) (by exact ⟨rfl, rfl, rfl, Nat.le_refl _, fun _ _ => rfl⟩) bb
  replace B_x := Lib.hid (Box.below B_x.out bb B_x.out.lt)
  replace B_r := Lib.hid (Box.below B_r.out bb B_r.out.lt)
  replace V_x := Lib.hid (Rd.below V_x.out bb)
  replace HB := Lib.hid (nextw HB.out bb)
  rw [ival_digs, if_neg (by simp)] at hc
  rw [← HV.out] at HR
  have rr : Rc w9 (.agg #[.bool sr, .slice Ar kr cr]) (s : Nat) n1 := ⟨hc, by rw [Int.natAbs_natCast]; exact root_words HR.out HA.out⟩
  clear hc bb M3
  have V_r := Lib.hid rr
  clear rr
  have bS := Box.store B_r.out sr (.slice Ar kr cr)
  have s0 := bS.c0
  have s1' := bS.c1
  have K_r := Lib.hid (Box.keepsRc B_r.out V_r.out sr (.slice Ar kr cr))
  have HBF := Lib.hid (Below.store HB.out (x := w.heap.size + 1) (by omega) (.bool sr) (.slice Ar kr cr))
  clear bS
  have c0r := B_r.out.c0
  have c1r := B_r.out.c1
  have f0r := B_r.out.f0
  have f1r := B_r.out.f1
  go_wp2_with fail
  generalize (w9.setCell ⟨w.heap.size + 1, 0, none⟩ (.bool sr)).setCell ⟨w.heap.size + 1, 1, none⟩ (.slice Ar kr cr) = WF at *
  exact bodyPost_ret (v := .tuple #[.agg #[.bool sr, (.slice Ar kr cr)], .int .i64 0]) (by simp [results, Tryd.results30, go_sem, s0, s1']) rfl ⟨_, s, rfl, K_r.out, HR.out, HBF.out⟩

set_option maxRecDepth 100000 in
set_option maxHeartbeats 2000000 in
theorem Sqrt_rd_neg {v1 : Value} {z1 : Int} {n1 : Nat} {w : World} (h1 : Rd w v1 z1 n1) (f1 : n1 ≤ 40000) (h0 : z1 < 0) :
    Calls Tryd.prog 30 #[v1] w fun e w' => e = .returned (.tuple #[.agg #[.bool false, .slice none 0 0], .int .i64 2]) ∧ Below w.heap.size w w' := by
  have H1a := h1.abs
  have HA := Lib.hid H1a
  clear H1a
  obtain ⟨s1, A1, k1, c1, rfl, -⟩ := h1.shape
  have V_x := Lib.hid h1
  clear h1
  have hb0 : Below w.heap.size w ((w.alloc (.cells #[.bool s1, (.slice A1 k1 c1)] 24)).alloc (.cells #[.bool false, (.slice none 0 0)] 24)) := (Below.alloc (Below.alloc (Below.refl w.heap.size w) (by simp <;> omega) _) (by simp <;> omega) _)
  have B_x : Box ((w.alloc (.cells #[.bool s1, (.slice A1 k1 c1)] 24)).alloc (.cells #[.bool false, (.slice none 0 0)] 24)) (w.heap.size) s1 (.slice A1 k1 c1) := by have h := Box.alloc (Box.new w s1 (.slice A1 k1 c1)) (.cells #[.bool false, (.slice none 0 0)] 24); simpa using h
  replace B_x := Lib.hid B_x
  have B_r : Box ((w.alloc (.cells #[.bool s1, (.slice A1 k1 c1)] 24)).alloc (.cells #[.bool false, (.slice none 0 0)] 24)) (w.heap.size + 1) false (.slice none 0 0) := by have h := Box.new (w.alloc (.cells #[.bool s1, (.slice A1 k1 c1)] 24)) false (.slice none 0 0); simpa using h
  replace B_r := Lib.hid B_r
  replace V_x := Lib.hid (Rd.below V_x.out hb0)
  have HB := Lib.hid hb0
  clear hb0
  have c0x := B_x.out.c0
  have c1x := B_x.out.c1
  go_enter Tryd.func30, Tryd.ntmps30
  go_wp2_with fail
  clear c0x c1x
  generalize (w.alloc (.cells #[.bool s1, (.slice A1 k1 c1)] 24)).alloc (.cells #[.bool false, (.slice none 0 0)] 24) = W0 at *
  refine (Sign_rd_lt (Rd.below V_x.out (by exact ⟨rfl, rfl, rfl, Nat.le_refl _, fun _ _ => rfl⟩)) h0).mono ?_
  rintro e w1 ⟨rfl, bb⟩
  replace bb := nextw (w0 := W0) (by exact ⟨rfl, rfl, rfl, Nat.le_refl _, fun _ _ => rfl⟩) bb
  replace B_x := Lib.hid (Box.below B_x.out bb B_x.out.lt)
  replace B_r := Lib.hid (Box.below B_r.out bb B_r.out.lt)
  replace V_x := Lib.hid (Rd.below V_x.out bb)
  replace HB := Lib.hid (nextw HB.out bb)
  clear bb
  clear h0
  have bS := Box.store B_r.out false (.slice none 0 0)
  have s0 := bS.c0
  have s1' := bS.c1
  have HBF := Lib.hid (Below.store HB.out (x := w.heap.size + 1) (by omega) (.bool false) (.slice none 0 0))
  clear bS
  have c0r := B_r.out.c0
  have c1r := B_r.out.c1
  have f0r := B_r.out.f0
  have f1r := B_r.out.f1
  go_wp2_with fail
  generalize (w1.setCell ⟨w.heap.size + 1, 0, none⟩ (.bool false)).setCell ⟨w.heap.size + 1, 1, none⟩ (.slice none 0 0) = WF at *
  exact bodyPost_ret (v := .tuple #[.agg #[.bool false, .slice none 0 0], .int .i64 2]) (by simp [results, Tryd.results30, go_sem, s0, s1']) rfl ⟨rfl, HBF.out⟩
end Go.Proofs.YthfkahccnpkgjaaDoor
