/- integer.Parse, in general. -/
import Derived.Test.YtccndofafljaaaaDoorDec

set_option linter.unusedVariables false
set_option linter.unusedSimpArgs false

namespace Go.Proofs.YtccndofafljaaaaDoor
open Go Go.RowKit Num Go.Lib

theorem ival_numD (l : List UInt8) (L : List Nat) (h : val L = valD (bodyD l)) : ival (negD l) L = numD l := by
  unfold ival numD
  rw [h]
theorem cut_minus (l : List UInt8) (w : World) :
    Calls Tryd.prog 66 #[.string ⟨l.toArray⟩, .string ⟨#[45]⟩] w fun e w' => e = .returned (.tuple #[.string ⟨(bodyD l).toArray⟩, .bool (negD l)]) ∧ w = w' := by
  refine (Tryd.strings_CutPrefix ⟨l.toArray⟩ ⟨#[45]⟩ w).mono ?_
  intro e w' h
  exact ⟨h.1, h.2.symm⟩
theorem numD_words (l : List UInt8) (hn : l.length ≤ 2000) (h : decOK (bodyD l)) : (numD l).natAbs < 4294967296 ^ 223 := by
  have h1 := valD_lt _ h.2.2
  have h2 := bodyD_len l
  have h3 := pow_chain (bodyD l).length 223 (by omega)
  have h4 : (numD l).natAbs = valD (bodyD l) := by unfold numD; split <;> simp
  rw [h4]
  exact Nat.lt_of_lt_of_le h1 h3
theorem str_ne {l : List UInt8} (h : l ≠ [48]) : (l == [48]) = false := by
  rw [beq_eq_false_iff_ne]
  exact h

set_option maxRecDepth 100000 in
set_option maxHeartbeats 4000000 in
theorem Parse_full (l : List UInt8) (w : World) (h : 2000 < l.length) :
    Calls Tryd.prog 32 #[.string ⟨l.toArray⟩] w fun e w' => e = .returned (.tuple #[.agg #[.bool false, .slice none 0 0], .int .i64 6]) ∧ Below w.heap.size w w' := by
  have hb0 : Below w.heap.size w (w.alloc (.cells #[.bool false, (.slice none 0 0)] 24)) := (Below.alloc (Below.refl w.heap.size w) (by simp <;> omega) _)
  have B_r : Box (w.alloc (.cells #[.bool false, (.slice none 0 0)] 24)) (w.heap.size) false (.slice none 0 0) := by have h := Box.new w false (.slice none 0 0); simpa using h
  replace B_r := Lib.hid B_r
  have HB := Lib.hid hb0
  clear hb0
  have s0 := B_r.out.c0
  have s1 := B_r.out.c1
  have HBF := HB
  have c0r := B_r.out.c0
  have c1r := B_r.out.c1
  have f0r := B_r.out.f0
  have f1r := B_r.out.f1
  go_enter Tryd.func32, Tryd.ntmps32
  go_wp2_with fail
  exact bodyPost_ret (v := .tuple #[.agg #[.bool false, .slice none 0 0], .int .i64 6]) (by simp [results, Tryd.results32, go_sem, s0, s1]) rfl ⟨rfl, HBF.out⟩

set_option maxRecDepth 100000 in
set_option maxHeartbeats 4000000 in
theorem Parse_bad1 (l : List UInt8) (w : World) (hn : l.length ≤ 2000) (h : ¬ decOK (bodyD l)) :
    Calls Tryd.prog 32 #[.string ⟨l.toArray⟩] w fun e w' => e = .returned (.tuple #[.agg #[.bool false, .slice none 0 0], .int .i64 3]) ∧ Below w.heap.size w w' := by
  have hb0 : Below w.heap.size w (w.alloc (.cells #[.bool false, (.slice none 0 0)] 24)) := (Below.alloc (Below.refl w.heap.size w) (by simp <;> omega) _)
  have B_r : Box (w.alloc (.cells #[.bool false, (.slice none 0 0)] 24)) (w.heap.size) false (.slice none 0 0) := by have h := Box.new w false (.slice none 0 0); simpa using h
  replace B_r := Lib.hid B_r
  have HB := Lib.hid hb0
  clear hb0
  have s0 := B_r.out.c0
  have s1 := B_r.out.c1
  have HBF := HB
  have hcut := fun w => cut_minus l w
  have hdl := bodyD_len l
  have HC := Lib.hid hcut
  clear hcut
  have hdec := fun w => decimal_any (bodyD l) w (by omega)
  have hf : decide (decOK (bodyD l)) = false := decide_eq_false h
  rw [hf] at hdec
  have HD := Lib.hid hdec
  clear hdec hf h
  generalize bodyD l = d at *
  generalize negD l = s at *
  have c0r := B_r.out.c0
  have c1r := B_r.out.c1
  have f0r := B_r.out.f0
  have f1r := B_r.out.f1
  go_enter Tryd.func32, Tryd.ntmps32
  go_wp2_with fail
  refine (HC.out _).mono ?_
  rintro e w1 ⟨rfl, rfl⟩
  go_wp2_with ((go_at_call 67; refine (HD.out _).mono ?_; rintro e w1 ⟨rfl, rfl⟩))
  exact bodyPost_ret (v := .tuple #[.agg #[.bool false, .slice none 0 0], .int .i64 3]) (by simp [results, Tryd.results32, go_sem, s0, s1]) rfl ⟨rfl, HBF.out⟩

set_option maxRecDepth 100000 in
set_option maxHeartbeats 4000000 in
theorem Parse_bad2 (l : List UInt8) (w : World) (hn : l.length ≤ 2000) (h : decOK (bodyD l)) (h1 : negD l = true) (h2 : bodyD l = [48]) :
    Calls Tryd.prog 32 #[.string ⟨l.toArray⟩] w fun e w' => e = .returned (.tuple #[.agg #[.bool false, .slice none 0 0], .int .i64 3]) ∧ Below w.heap.size w w' := by
  have hb0 : Below w.heap.size w (w.alloc (.cells #[.bool false, (.slice none 0 0)] 24)) := (Below.alloc (Below.refl w.heap.size w) (by simp <;> omega) _)
  have B_r : Box (w.alloc (.cells #[.bool false, (.slice none 0 0)] 24)) (w.heap.size) false (.slice none 0 0) := by have h := Box.new w false (.slice none 0 0); simpa using h
  replace B_r := Lib.hid B_r
  have HB := Lib.hid hb0
  clear hb0
  have s0 := B_r.out.c0
  have s1 := B_r.out.c1
  have HBF := HB
  have hcut := fun w => cut_minus l w
  have hdl := bodyD_len l
  have HC := Lib.hid hcut
  clear hcut
  have hdec := fun w => decimal_any (bodyD l) w (by omega)
  have hf : decide (decOK (bodyD l)) = true := decide_eq_true h
  rw [hf] at hdec
  rw [h1] at HC
  rw [h2] at hdec HC
  have HD := Lib.hid hdec
  clear hdec hf h h1 h2 hdl
  have c0r := B_r.out.c0
  have c1r := B_r.out.c1
  have f0r := B_r.out.f0
  have f1r := B_r.out.f1
  go_enter Tryd.func32, Tryd.ntmps32
  go_wp2_with fail
  refine (HC.out _).mono ?_
  rintro e w1 ⟨rfl, rfl⟩
  go_wp2_with ((go_at_call 67; refine (HD.out _).mono ?_; rintro e w1 ⟨rfl, rfl⟩))
  exact bodyPost_ret (v := .tuple #[.agg #[.bool false, .slice none 0 0], .int .i64 3]) (by simp [results, Tryd.results32, go_sem, s0, s1]) rfl ⟨rfl, HBF.out⟩

set_option maxRecDepth 100000 in
set_option maxHeartbeats 4000000 in
theorem Parse_good (l : List UInt8) (w : World) (hn : l.length ≤ 2000) (h : goodD l) :
    Calls Tryd.prog 32 #[.string ⟨l.toArray⟩] w fun e w' => ∃ v, e = .returned (.tuple #[v, .int .i64 0]) ∧ Rc w' v (numD l) 223 ∧ Below w.heap.size w w' := by
  have hb0 : Below w.heap.size w (w.alloc (.cells #[.bool false, (.slice none 0 0)] 24)) := (Below.alloc (Below.refl w.heap.size w) (by simp <;> omega) _)
  have B_r : Box (w.alloc (.cells #[.bool false, (.slice none 0 0)] 24)) (w.heap.size) false (.slice none 0 0) := by have h := Box.new w false (.slice none 0 0); simpa using h
  replace B_r := Lib.hid B_r
  have HB := Lib.hid hb0
  clear hb0
  have hcut := fun w => cut_minus l w
  have hdl := bodyD_len l
  have HC := Lib.hid hcut
  have hdec := fun w => decimal_any (bodyD l) w (by omega)
  have hf : decide (decOK (bodyD l)) = true := decide_eq_true h.1
  rw [hf] at hdec
  have HD := Lib.hid hdec
  have HW := Lib.hid (numD_words l hn h.1)
  have HV := Lib.hid (fun w => value_any (bodyD l) w (by omega) h.1.2.2)
  have HI := Lib.hid (fun L => ival_numD l L)
  have h2 := h.2
  clear hdec hcut hf h
  generalize numD l = z at *
  generalize bodyD l = d at *
  have main : ∀ (s : Bool), negD l = s → (s = false ∨ (s = true ∧ d ≠ [48])) → Calls Tryd.prog 32 #[.string ⟨l.toArray⟩] w fun e w' => ∃ v, e = .returned (.tuple #[v, .int .i64 0]) ∧ Rc w' v z 223 ∧ Below w.heap.size w w' := by
    intro s hs hor
    rw [hs] at HC HI
    clear h2 hs
    have c0r := B_r.out.c0
    have c1r := B_r.out.c1
    have f0r := B_r.out.f0
    have f1r := B_r.out.f1
    rcases hor with rfl | ⟨rfl, hne⟩
    · skip
      go_enter Tryd.func32, Tryd.ntmps32
      go_wp2_with fail
      refine (HC.out _).mono ?_
      rintro e w1 ⟨rfl, rfl⟩
      go_wp2_with ((go_at_call 67; refine (HD.out _).mono ?_; rintro e w1 ⟨rfl, rfl⟩))
      clear c0r c1r f0r f1r
      generalize w.alloc (.cells #[.bool false, (.slice none 0 0)] 24) = W0 at *
      refine (HV.out _).mono ?_
      rintro e w2 ⟨v2, L, rfl, hva⟩
      have hu := U32.of_own hva.lt hva.row
      have hz := HI.out L (by rw [hva.eq, List.take_length])
      have bb := hva.below
      have B2 := Lib.hid (Box.below B_r.out bb B_r.out.lt)
      have HB2 := Lib.hid (nextw HB.out bb)
      have HU := Lib.hid hu
      have HZ := Lib.hid hz
      clear hva hu hz bb
      go_wp2_with fail
      refine (signed_can _ _ L _ HU.out).mono ?_
      rintro e w3 ⟨sr, Ar, kr, cr, rfl, hc, bb⟩
      rw [HZ.out] at hc
      have B3 := Lib.hid (Box.below B2.out bb B2.out.lt)
      have HB3 := Lib.hid (nextw HB2.out bb)
      have V_r := Lib.hid (show Rc w3 (.agg #[.bool sr, .slice Ar kr cr]) z 223 from ⟨hc, HW.out⟩)
      clear hc bb HU HZ B2 HB2 HB B_r
      have bS := Box.store B3.out sr (.slice Ar kr cr)
      have s0 := bS.c0
      have s1 := bS.c1
      have K_r := Lib.hid (Box.keepsRc B3.out V_r.out sr (.slice Ar kr cr))
      have HBF := Lib.hid (Below.store HB3.out (x := w.heap.size) (by omega) (.bool sr) (.slice Ar kr cr))
      clear bS
      have c0r := B3.out.c0
      have c1r := B3.out.c1
      have f0r := B3.out.f0
      have f1r := B3.out.f1
      go_wp2_with fail
      generalize (w3.setCell ⟨w.heap.size, 0, none⟩ (.bool sr)).setCell ⟨w.heap.size, 1, none⟩ (.slice Ar kr cr) = WF at *
      exact bodyPost_ret (v := .tuple #[.agg #[.bool sr, .slice Ar kr cr], .int .i64 0]) (by simp [results, Tryd.results32, go_sem, s0, s1]) rfl ⟨_, rfl, K_r.out, HBF.out⟩
    · have hstr := str_ne hne
      go_enter Tryd.func32, Tryd.ntmps32
      go_wp2_with fail
      refine (HC.out _).mono ?_
      rintro e w1 ⟨rfl, rfl⟩
      go_wp2_with ((go_at_call 67; refine (HD.out _).mono ?_; rintro e w1 ⟨rfl, rfl⟩))
      clear c0r c1r f0r f1r
      generalize w.alloc (.cells #[.bool false, (.slice none 0 0)] 24) = W0 at *
      refine (HV.out _).mono ?_
      rintro e w2 ⟨v2, L, rfl, hva⟩
      have hu := U32.of_own hva.lt hva.row
      have hz := HI.out L (by rw [hva.eq, List.take_length])
      have bb := hva.below
      have B2 := Lib.hid (Box.below B_r.out bb B_r.out.lt)
      have HB2 := Lib.hid (nextw HB.out bb)
      have HU := Lib.hid hu
      have HZ := Lib.hid hz
      clear hva hu hz bb
      go_wp2_with fail
      refine (signed_can _ _ L _ HU.out).mono ?_
      rintro e w3 ⟨sr, Ar, kr, cr, rfl, hc, bb⟩
      rw [HZ.out] at hc
      have B3 := Lib.hid (Box.below B2.out bb B2.out.lt)
      have HB3 := Lib.hid (nextw HB2.out bb)
      have V_r := Lib.hid (show Rc w3 (.agg #[.bool sr, .slice Ar kr cr]) z 223 from ⟨hc, HW.out⟩)
      clear hc bb HU HZ B2 HB2 HB B_r
      have bS := Box.store B3.out sr (.slice Ar kr cr)
      have s0 := bS.c0
      have s1 := bS.c1
      have K_r := Lib.hid (Box.keepsRc B3.out V_r.out sr (.slice Ar kr cr))
      have HBF := Lib.hid (Below.store HB3.out (x := w.heap.size) (by omega) (.bool sr) (.slice Ar kr cr))
      clear bS
      have c0r := B3.out.c0
      have c1r := B3.out.c1
      have f0r := B3.out.f0
      have f1r := B3.out.f1
      go_wp2_with fail
      generalize (w3.setCell ⟨w.heap.size, 0, none⟩ (.bool sr)).setCell ⟨w.heap.size, 1, none⟩ (.slice Ar kr cr) = WF at *
      exact bodyPost_ret (v := .tuple #[.agg #[.bool sr, .slice Ar kr cr], .int .i64 0]) (by simp [results, Tryd.results32, go_sem, s0, s1]) rfl ⟨_, rfl, K_r.out, HBF.out⟩
  rcases hneg : negD l with _ | _
  · exact main false hneg (Or.inl rfl)
  · exact main true hneg (Or.inr ⟨rfl, fun e => h2 ⟨hneg, e⟩⟩)

theorem Parse_bad (l : List UInt8) (w : World) (hn : l.length ≤ 2000) (h : ¬ goodD l) :
    Calls Tryd.prog 32 #[.string ⟨l.toArray⟩] w fun e w' => e = .returned (.tuple #[.agg #[.bool false, .slice none 0 0], .int .i64 3]) ∧ Below w.heap.size w w' := by
  by_cases h1 : decOK (bodyD l)
  · rcases hneg : negD l with _ | _
    · exact absurd ⟨h1, by rw [hneg]; simp⟩ h
    · by_cases h2 : bodyD l = [48]
      · exact Parse_bad2 l w hn h1 hneg h2
      · exact absurd ⟨h1, fun hh => h2 hh.2⟩ h
  · exact Parse_bad1 l w hn h1
end Go.Proofs.YtccndofafljaaaaDoor
