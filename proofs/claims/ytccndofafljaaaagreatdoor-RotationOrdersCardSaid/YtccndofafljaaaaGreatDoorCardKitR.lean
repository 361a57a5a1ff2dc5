/- The cards of laws over Rots, Spots and Transforms: opening an argument. -/
import Derived.Test.YtccndofafljaaaaGreatDoorCardKit3
import Derived.Deep.Strs

set_option linter.unusedVariables false
set_option linter.unusedSimpArgs false

namespace Go.Proofs.YtccndofafljaaaaGreatDoor
open Go Go.ChangeShapes Go.WideShapes Go.ChangeAt Go.RowKit Num Go.Joins Go.Deep Go.WideElems Go.Maps

theorem cellsRot : Tryz.prog.cellsOf 26 = 4 := by kernel_rfl
set_option maxRecDepth 100000 in
/-- An argument of the type Rot. -/
theorem open_Rot {H : Type} {enc : TypeId × Value → H} {r : Reach} {b0 : Nat} {W : World} {sp : Nat → Bool} {hd : Bool} {v : Value} {d : DataW H} {p : List MemPlace} (hv : Value.okWide Tryz.prog W r b0 26 v)
    (h : DataW.Trod enc Tryz.prog W 0 sp hd 26 v d p) :
    ∃ s A k c t C l d, v = .agg #[.bool s, .slice A k c, .bool t, .slice C l d] ∧ (k ≤ 9223372036854775807 ∧ l ≤ 9223372036854775807) ∧ ∃ x y, Fd W (.agg #[.bool s, .slice A k c, .bool t, .slice C l d]) x y (max k l) := by
  obtain ⟨c0, c1, c2, c3, y0, y1, n, rfl, h0, h1⟩ := open_agg22 Tryz.underlying26 rfl rfl cellsInt cellsInt cellsRot hv h
  obtain ⟨s, A, k, c, rfl, rfl, hk, z, hz⟩ := open_IntCells h0
  obtain ⟨t, C, l, d', rfl, rfl, hl, y, hy⟩ := open_IntCells h1
  exact ⟨s, A, k, c, t, C, l, d', rfl, ⟨hk, hl⟩, z, y, ⟨s, _, t, _, rfl, hz.more (Nat.le_max_left ..), hy.more (Nat.le_max_right ..)⟩⟩
theorem arrayOf8 (T : Array Value) (h : T.size = 8) : ∃ v0 v1 v2 v3 v4 v5 v6 v7, T = #[v0, v1, v2, v3, v4, v5, v6, v7] := by
  obtain ⟨l⟩ := T
  simp only [List.size_toArray] at h
  match l, h with
  | [v0, v1, v2, v3, v4, v5, v6, v7], _ => exact ⟨v0, v1, v2, v3, v4, v5, v6, v7, rfl⟩
theorem arrayOf12 (T : Array Value) (h : T.size = 12) : ∃ v0 v1 v2 v3 v4 v5 v6 v7 v8 v9 v10 v11, T = #[v0, v1, v2, v3, v4, v5, v6, v7, v8, v9, v10, v11] := by
  obtain ⟨l⟩ := T
  simp only [List.size_toArray] at h
  match l, h with
  | [v0, v1, v2, v3, v4, v5, v6, v7, v8, v9, v10, v11], _ => exact ⟨v0, v1, v2, v3, v4, v5, v6, v7, v8, v9, v10, v11, rfl⟩
set_option maxRecDepth 100000 in
theorem open_RationalCells {H : Type} {enc : TypeId × Value → H} {W : World} {sp : Nat → Bool} {hd : Bool} {c0 c1 c2 c3 : Value} {n : Nat} {y : DataW H × List MemPlace}
    (h : DataW.trod enc Tryz.prog W 0 sp hd n 35 [c0, c1, c2, c3] = some y) :
    ∃ s0 A0 k0 e0 t0 C0 l0 d0, (c0 = .bool s0 ∧ c1 = .slice A0 k0 e0 ∧ c2 = .bool t0 ∧ c3 = .slice C0 l0 d0) ∧ (k0 ≤ 9223372036854775807 ∧ l0 ≤ 9223372036854775807) ∧ ∃ r, Qd W (.agg #[.bool s0, .slice A0 k0 e0, .bool t0, .slice C0 l0 d0]) r (max k0 l0) := by
  obtain ⟨y0, y1, m, -, -, h0, h1⟩ := trod_struct2 Tryz.underlying35 h
  obtain ⟨s, A, k, c, rfl, rfl, hk, z, hz⟩ := open_IntCells (c0 := c0) (c1 := c1) (by simpa [cellsInt] using h0)
  obtain ⟨t, C, l, d', rfl, rfl, hl, y, hy⟩ := open_IntCells (c0 := c2) (c1 := c3) (by simpa [cellsInt] using h1)
  exact ⟨s, A, k, c, t, C, l, d', ⟨rfl, rfl, rfl, rfl⟩, ⟨hk, hl⟩, ⟨_, z, y, ⟨s, _, t, _, rfl, hz.more (Nat.le_max_left ..), hy.more (Nat.le_max_right ..)⟩, rfl⟩⟩
set_option maxRecDepth 100000 in
theorem open_RotCells {H : Type} {enc : TypeId × Value → H} {W : World} {sp : Nat → Bool} {hd : Bool} {c0 c1 c2 c3 : Value} {n : Nat} {y : DataW H × List MemPlace}
    (h : DataW.trod enc Tryz.prog W 0 sp hd n 26 [c0, c1, c2, c3] = some y) :
    ∃ s0 A0 k0 e0 t0 C0 l0 d0, (c0 = .bool s0 ∧ c1 = .slice A0 k0 e0 ∧ c2 = .bool t0 ∧ c3 = .slice C0 l0 d0) ∧ (k0 ≤ 9223372036854775807 ∧ l0 ≤ 9223372036854775807) ∧ ∃ x y, Fd W (.agg #[.bool s0, .slice A0 k0 e0, .bool t0, .slice C0 l0 d0]) x y (max k0 l0) := by
  obtain ⟨y0, y1, m, -, -, h0, h1⟩ := trod_struct2 Tryz.underlying26 h
  obtain ⟨s, A, k, c, rfl, rfl, hk, z, hz⟩ := open_IntCells (c0 := c0) (c1 := c1) (by simpa [cellsInt] using h0)
  obtain ⟨t, C, l, d', rfl, rfl, hl, y, hy⟩ := open_IntCells (c0 := c2) (c1 := c3) (by simpa [cellsInt] using h1)
  exact ⟨s, A, k, c, t, C, l, d', ⟨rfl, rfl, rfl, rfl⟩, ⟨hk, hl⟩, ⟨z, y, ⟨s, _, t, _, rfl, hz.more (Nat.le_max_left ..), hy.more (Nat.le_max_right ..)⟩⟩⟩
theorem cellsSpot : Tryz.prog.cellsOf 46 = 8 := by kernel_rfl
set_option maxRecDepth 100000 in
/-- An argument of the type Spot. -/
theorem open_Spot {H : Type} {enc : TypeId × Value → H} {r : Reach} {b0 : Nat} {W : World} {sp : Nat → Bool} {hd : Bool} {v : Value} {d : DataW H} {p : List MemPlace} (hv : Value.okWide Tryz.prog W r b0 46 v)
    (h : DataW.Trod enc Tryz.prog W 0 sp hd 46 v d p) :
    ∃ s0 A0 k0 e0 t0 C0 l0 d0 s1 A1 k1 e1 t1 C1 l1 d1, v = .agg #[.bool s0, .slice A0 k0 e0, .bool t0, .slice C0 l0 d0, .bool s1, .slice A1 k1 e1, .bool t1, .slice C1 l1 d1] ∧ (k0 ≤ 9223372036854775807 ∧ l0 ≤ 9223372036854775807) ∧ (k1 ≤ 9223372036854775807 ∧ l1 ≤ 9223372036854775807) ∧ (∃ r, Qd W (.agg #[.bool s0, .slice A0 k0 e0, .bool t0, .slice C0 l0 d0]) r (max k0 l0)) ∧ (∃ r, Qd W (.agg #[.bool s1, .slice A1 k1 e1, .bool t1, .slice C1 l1 d1]) r (max k1 l1)) := by
  obtain ⟨cs, rfl, hsz⟩ := okWide_struct Tryz.underlying46 hv
  obtain ⟨c0, c1, c2, c3, c4, c5, c6, c7, rfl⟩ := arrayOf8 _ (hsz.trans cellsSpot)
  obtain ⟨fuel, hf⟩ := h
  obtain ⟨y0, y1, n, -, -, h0, h1⟩ := trod_struct2 Tryz.underlying46 hf
  obtain ⟨s0, A0, k0, e0, t0, C0, l0, d0, ⟨rfl, rfl, rfl, rfl⟩, m0, g0⟩ := open_RationalCells (c0 := c0) (c1 := c1) (c2 := c2) (c3 := c3) (by simpa [Value.cells, cellsRat, cellsRot] using h0)
  obtain ⟨s1, A1, k1, e1, t1, C1, l1, d1, ⟨rfl, rfl, rfl, rfl⟩, m1, g1⟩ := open_RationalCells (c0 := c4) (c1 := c5) (c2 := c6) (c3 := c7) (by simpa [Value.cells, cellsRat, cellsRot] using h1)
  exact ⟨_, _, _, _, _, _, _, _, _, _, _, _, _, _, _, _, rfl, m0, m1, g0, g1⟩
theorem cellsTransform : Tryz.prog.cellsOf 44 = 12 := by kernel_rfl
set_option maxRecDepth 100000 in
/-- An argument of the type Transform. -/
theorem open_Transform {H : Type} {enc : TypeId × Value → H} {r : Reach} {b0 : Nat} {W : World} {sp : Nat → Bool} {hd : Bool} {v : Value} {d : DataW H} {p : List MemPlace} (hv : Value.okWide Tryz.prog W r b0 44 v)
    (h : DataW.Trod enc Tryz.prog W 0 sp hd 44 v d p) :
    ∃ s0 A0 k0 e0 t0 C0 l0 d0 s1 A1 k1 e1 t1 C1 l1 d1 s2 A2 k2 e2 t2 C2 l2 d2, v = .agg #[.bool s0, .slice A0 k0 e0, .bool t0, .slice C0 l0 d0, .bool s1, .slice A1 k1 e1, .bool t1, .slice C1 l1 d1, .bool s2, .slice A2 k2 e2, .bool t2, .slice C2 l2 d2] ∧ (k0 ≤ 9223372036854775807 ∧ l0 ≤ 9223372036854775807) ∧ (k1 ≤ 9223372036854775807 ∧ l1 ≤ 9223372036854775807) ∧ (k2 ≤ 9223372036854775807 ∧ l2 ≤ 9223372036854775807) ∧ (∃ x y, Fd W (.agg #[.bool s0, .slice A0 k0 e0, .bool t0, .slice C0 l0 d0]) x y (max k0 l0)) ∧ (∃ r, Qd W (.agg #[.bool s1, .slice A1 k1 e1, .bool t1, .slice C1 l1 d1]) r (max k1 l1)) ∧ (∃ r, Qd W (.agg #[.bool s2, .slice A2 k2 e2, .bool t2, .slice C2 l2 d2]) r (max k2 l2)) := by
  obtain ⟨cs, rfl, hsz⟩ := okWide_struct Tryz.underlying44 hv
  obtain ⟨c0, c1, c2, c3, c4, c5, c6, c7, c8, c9, c10, c11, rfl⟩ := arrayOf12 _ (hsz.trans cellsTransform)
  obtain ⟨fuel, hf⟩ := h
  obtain ⟨y0, y1, y2, n, -, -, h0, h1, h2⟩ := trod_struct3 Tryz.underlying44 hf
  obtain ⟨s0, A0, k0, e0, t0, C0, l0, d0, ⟨rfl, rfl, rfl, rfl⟩, m0, g0⟩ := open_RotCells (c0 := c0) (c1 := c1) (c2 := c2) (c3 := c3) (by simpa [Value.cells, cellsRat, cellsRot] using h0)
  obtain ⟨s1, A1, k1, e1, t1, C1, l1, d1, ⟨rfl, rfl, rfl, rfl⟩, m1, g1⟩ := open_RationalCells (c0 := c4) (c1 := c5) (c2 := c6) (c3 := c7) (by simpa [Value.cells, cellsRat, cellsRot] using h1)
  obtain ⟨s2, A2, k2, e2, t2, C2, l2, d2, ⟨rfl, rfl, rfl, rfl⟩, m2, g2⟩ := open_RationalCells (c0 := c8) (c1 := c9) (c2 := c10) (c3 := c11) (by simpa [Value.cells, cellsRat, cellsRot] using h2)
  exact ⟨_, _, _, _, _, _, _, _, _, _, _, _, _, _, _, _, _, _, _, _, _, _, _, _, rfl, m0, m1, m2, g0, g1, g2⟩
end Go.Proofs.YtccndofafljaaaaGreatDoor
