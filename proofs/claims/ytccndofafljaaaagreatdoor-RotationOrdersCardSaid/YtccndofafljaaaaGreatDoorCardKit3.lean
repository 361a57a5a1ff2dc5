/- The cards of laws over Rationals: opening an argument. -/
import Derived.Test.YtccndofafljaaaaGreatDoorKit
import Derived.Test.YtccndofafljaaaaGreatDoorQBox

set_option linter.unusedVariables false
set_option linter.unusedSimpArgs false

namespace Go.Proofs.YtccndofafljaaaaGreatDoor
open Go Go.ChangeShapes Go.WideShapes Go.ChangeAt Go.RowKit Num Go.Joins Go.Deep Go.WideElems Go.Maps

theorem cellsRat : Tryz.prog.cellsOf 35 = 4 := by kernel_rfl

section
variable {H : Type} {enc : TypeId × Value → H} {P : Program} {w : World} {base : Nat} {spare : Nat → Bool} {held : Bool}
theorem open_cells2 {t : TypeId} {f0 f1 : Field} {c0 c1 : Value} {n : Nat} {y : DataW H × List MemPlace} (hs : P.underlying t = some (.struct #[f0, f1])) (hone : oneCellFields P #[f0, f1] = true)
    (h : DataW.trod enc P w base spare held n t [c0, c1] = some y) :
    ∃ (y0 y1 : DataW H × List MemPlace) (m : Nat), DataW.trod enc P w base spare held m f0.type [c0] = some y0 ∧ DataW.trod enc P w base spare held m f1.type [c1] = some y1 := by
  obtain ⟨y0, y1, m, -, -, h0, h1⟩ := trod_struct2 hs h
  obtain ⟨o0, k0⟩ := hone_of hone 0 f0 rfl
  obtain ⟨o1, k1⟩ := hone_of hone 1 f1 rfl
  exact ⟨y0, y1, m, by simpa [o0, k0] using h0, by simpa [o1, k1] using h1⟩
theorem open_agg22 {r : Reach} {b0 : Nat} {t : TypeId} {f0 f1 : Field} {v : Value} {d : DataW H} {p : List MemPlace} (hs : P.underlying t = some (.struct #[f0, f1])) (ho0 : f0.offset = 0) (ho1 : f1.offset = 2)
    (hc0 : P.cellsOf f0.type = 2) (hc1 : P.cellsOf f1.type = 2) (hC : P.cellsOf t = 4) (hv : Value.okWide P w r b0 t v) (h : DataW.Trod enc P w base spare held t v d p) :
    ∃ (v0 v1 v2 v3 : Value) (y0 y1 : DataW H × List MemPlace) (n : Nat), v = .agg #[v0, v1, v2, v3] ∧
      DataW.trod enc P w base spare held n f0.type [v0, v1] = some y0 ∧ DataW.trod enc P w base spare held n f1.type [v2, v3] = some y1 := by
  obtain ⟨cs, rfl, hsz⟩ := okWide_struct hs hv
  obtain ⟨c0, c1, c2, c3, rfl⟩ := array4 (hsz.trans hC)
  obtain ⟨fuel, hf⟩ := h
  obtain ⟨y0, y1, n, -, -, h0, h1⟩ := trod_struct2 hs hf
  exact ⟨c0, c1, c2, c3, y0, y1, n, rfl, by simpa [Value.cells, ho0, hc0] using h0, by simpa [Value.cells, ho1, hc1] using h1⟩
end

set_option maxRecDepth 100000 in
theorem open_IntCells {H : Type} {enc : TypeId × Value → H} {W : World} {sp : Nat → Bool} {hd : Bool} {c0 c1 : Value} {n : Nat} {y : DataW H × List MemPlace}
    (h : DataW.trod enc Tryz.prog W 0 sp hd n 24 [c0, c1] = some y) :
    ∃ s A k c, c0 = .bool s ∧ c1 = .slice A k c ∧ k ≤ 9223372036854775807 ∧ ∃ z, Rd W (.agg #[.bool s, .slice A k c]) z k := by
  obtain ⟨y0, y1, m, hy0, hy1⟩ := open_cells2 Tryz.underlying24 (by kernel_rfl) h
  obtain ⟨s, e0, rfl⟩ := DataW.trod_bool Tryz.underlying4 hy0
  simp only [List.cons.injEq, and_true] at e0
  subst e0
  rcases open_ints Tryz.underlying22 Tryz.underlying69 cellsU32 hy1 with ⟨hcs, -⟩ | ⟨a, len, cap, zs, hcs, _, hl, hm, hz, -, hcell, hwz⟩
  · simp only [List.cons.injEq, and_true] at hcs
    subst hcs
    exact ⟨s, none, 0, 0, rfl, rfl, by omega, _, s, _, [], rfl, U32.nil none (by unfold maxLen; omega), rfl, Nat.le_refl _⟩
  · simp only [List.cons.injEq, and_true] at hcs
    subst hcs
    have hm' := hm
    unfold maxLen at hm'
    have hlz : len ≤ zs.length := by rw [hz]; split <;> omega
    refine ⟨s, some a, len, cap, rfl, rfl, by omega, _, s, _, (zs.take len).map Int.toNat, rfl, ?_, rfl, by simp; omega⟩
    have hlen : ((zs.take len).map Int.toNat).length = len := by simp; omega
    refine ⟨fun x hx => ?_, some a, cap, by rw [hlen], by omega, hm, fun hne => ?_⟩
    · simp only [List.mem_map] at hx
      obtain ⟨z, hzm, rfl⟩ := hx
      have := bounds_u32 (hwz z (List.mem_of_mem_take hzm))
      omega
    · have hpos : 0 < len := by
        rcases Nat.eq_zero_or_pos len with h0 | h0
        · subst h0; exact absurd rfl hne
        · exact h0
      obtain ⟨b, off, rfl, hc⟩ := ints_at hcell (by omega)
      refine ⟨b, off, rfl, lt_of_cell (hc 0 (by omega)), fun i hi => ?_⟩
      rw [hlen] at hi
      rw [hc i (by omega)]
      have hb := range_u32 hwz i
      congr 2
      have h1 : i < zs.length := by omega
      have h2 : i < (zs.take len).length := by simp; omega
      simp only [List.getD_eq_getElem?_getD, List.getElem?_map, List.getElem?_take, hi, if_true, List.getElem?_eq_getElem h1, Option.map_some, Option.getD_some] at hb ⊢
      omega

set_option maxRecDepth 100000 in
/-- An argument of the type Rational. -/
theorem open_Rat {H : Type} {enc : TypeId × Value → H} {r : Reach} {b0 : Nat} {W : World} {sp : Nat → Bool} {hd : Bool} {v : Value} {d : DataW H} {p : List MemPlace} (hv : Value.okWide Tryz.prog W r b0 35 v)
    (h : DataW.Trod enc Tryz.prog W 0 sp hd 35 v d p) :
    ∃ s A k c t C l d, v = .agg #[.bool s, .slice A k c, .bool t, .slice C l d] ∧ (k ≤ 9223372036854775807 ∧ l ≤ 9223372036854775807) ∧ ∃ r, Qd W (.agg #[.bool s, .slice A k c, .bool t, .slice C l d]) r (max k l) := by
  obtain ⟨c0, c1, c2, c3, y0, y1, n, rfl, h0, h1⟩ := open_agg22 Tryz.underlying35 rfl rfl cellsInt cellsInt cellsRat hv h
  obtain ⟨s, A, k, c, rfl, rfl, hk, z, hz⟩ := open_IntCells h0
  obtain ⟨t, C, l, d', rfl, rfl, hl, y, hy⟩ := open_IntCells h1
  exact ⟨s, A, k, c, t, C, l, d', rfl, ⟨hk, hl⟩, _, z, y, ⟨s, _, t, _, rfl, hz.more (Nat.le_max_left ..), hy.more (Nat.le_max_right ..)⟩, rfl⟩
end Go.Proofs.YtccndofafljaaaaGreatDoor
