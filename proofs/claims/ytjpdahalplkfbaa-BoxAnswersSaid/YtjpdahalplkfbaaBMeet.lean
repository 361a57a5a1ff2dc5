/- box.Meet. -/
import Derived.Test.YtjpdahalplkfbaaBRow
set_option linter.unusedVariables false
set_option linter.unusedSimpArgs false
namespace Go.Proofs.Ytjpdahalplkfbaa
open Go Go.RowKit Hd

theorem row_keep6 {w w' : World} {base n : Nat} {v : Value} {xs : List Value} (h : w.ownsRow base 23 6 v n xs) (hb : Below w.heap.size w w') : w'.ownsRow base 23 6 v n xs :=
  h.kept (row := none) ⟨hb.os, hb.tape, hb.output, hb.size, fun k hk _ => hb.block k hk⟩ (by cases hv : v.ownBlock <;> simp)

set_option maxRecDepth 100000 in
set_option maxHeartbeats 8000000 in
theorem BMeet_in {x0 y0 x1 y1 f c u0 v0 u1 v1 g d : Int} (MX0 MX1 MX2 MX3 : Int) (mx0 : (if x0 < u0 then u0 else x0) = MX0) (mx1 : (if y0 < v0 then v0 else y0) = MX1) (mx2 : (if u1 < x1 then u1 else x1) = MX2) (mx3 : (if v1 < y1 then v1 else y1) = MX3) (h : OkB x0 y0 x1 y1 f c ∧ OkB u0 v0 u1 v1 g d) (hx : MX0 ≤ MX2) (hy : MX1 ≤ MX3) (w : World) :
    Calls Try.prog 22 #[.agg #[.int .i64 x0, .int .i64 y0, .int .i64 x1, .int .i64 y1, .int .i64 f, .int .i64 c], .agg #[.int .i64 u0, .int .i64 v0, .int .i64 u1, .int .i64 v1, .int .i64 g, .int .i64 d]] w fun e w' => ∃ v, e = .returned v ∧ AR6 w' v ((refAll f c g d).map (fun p : Int × Int => ((MX0, MX1, MX2, MX3, p.1, p.2) : I6))) ∧ Below w.heap.size w w' := by
  have H0 := Lib.hid (fun w => Valid_yes h.1 w)
  have H1 := Lib.hid (fun w => Valid_yes h.2 w)
  have H2 := Lib.hid (fun w => arcOf_any x0 y0 x1 y1 f c w)
  have H3 := Lib.hid (fun w => arcOf_any u0 v0 u1 v1 g d w)
  have H4 := Lib.hid (fun w => Meet_ok f c g d h.1.a h.2.a w)
  have HJ := Lib.hid (fun F N w => join_any MX0 MX1 MX2 MX3 F N w)
  have hlen := (all_fine h.1.a h.2.a 0).2.1
  replace mx0 := Lib.hid mx0
  replace mx1 := Lib.hid mx1
  replace mx2 := Lib.hid mx2
  replace mx3 := Lib.hid mx3
  clear h
  obtain ⟨i0, hi, hz0, hz1, hz2⟩ := info_parts info6
  have HI := Lib.hid hi
  clear hi
  obtain ⟨HB, B_z0, B_z1⟩ := box2 w 23 #[.int .i64 x0, .int .i64 y0, .int .i64 x1, .int .i64 y1, .int .i64 f, .int .i64 c] 23 #[.int .i64 u0, .int .i64 v0, .int .i64 u1, .int .i64 v1, .int .i64 g, .int .i64 d]
  go_enter Try.func22, Try.ntmps22
  go_upto_region 1 with (fail)
  generalize (w.alloc (.cells #[.int .i64 x0, .int .i64 y0, .int .i64 x1, .int .i64 y1, .int .i64 f, .int .i64 c] 23)).alloc (.cells #[.int .i64 u0, .int .i64 v0, .int .i64 u1, .int .i64 v1, .int .i64 g, .int .i64 d] 23) = W0 at *
  obtain ⟨c0z0, c1z0, c2z0, c3z0, c4z0, c5z0⟩ := cells6 B_z0
  go_wp2_with fail
  refine (H0.out _).mono ?_
  clear c0z0 c1z0 c2z0 c3z0 c4z0 c5z0
  rintro e w1 ⟨rfl, bb⟩
  replace bb := nextw (w0 := W0) (by exact sm) bb
  replace B_z0 := mv B_z0 bb
  replace B_z1 := mv B_z1 bb
  replace HB := nx HB bb
  clear bb
  obtain ⟨c0z1, c1z1, c2z1, c3z1, c4z1, c5z1⟩ := cells6 B_z1
  go_wp2_with fail
  refine (H1.out _).mono ?_
  clear c0z1 c1z1 c2z1 c3z1 c4z1 c5z1
  rintro e w2 ⟨rfl, bb⟩
  replace bb := nextw (w0 := w1) (by exact sm) bb
  replace B_z0 := mv B_z0 bb
  replace B_z1 := mv B_z1 bb
  replace HB := nx HB bb
  clear bb
  clear H0 H1
  have mxo0 := mx0.out
  have mxo1 := mx1.out
  have mxo2 := mx2.out
  have mxo3 := mx3.out
  obtain ⟨c0z0, c1z0, c2z0, c3z0, c4z0, c5z0⟩ := cells6 B_z0
  obtain ⟨c0z1, c1z1, c2z1, c3z1, c4z1, c5z1⟩ := cells6 B_z1
  have lt_z2z0 := B_z0.out.lt
  have lt_z2z1 := B_z1.out.lt
  obtain ⟨bb, B_z2⟩ := box1 w2 41 #[.int .i64 MX0, .int .i64 MX1, .int .i64 MX2, .int .i64 MX3]
  replace bb := bb.out
  replace B_z0 := mv B_z0 bb
  replace B_z1 := mv B_z1 bb
  replace HB := nx HB bb
  clear bb
  go_upto_region 4 with (fail)
  clear c0z0 c1z0 c2z0 c3z0 c4z0 c5z0 c0z1 c1z1 c2z1 c3z1 c4z1 c5z1
  generalize w2.alloc (.cells #[.int .i64 MX0, .int .i64 MX1, .int .i64 MX2, .int .i64 MX3] 41) = WN3 at *
  clear mxo0 mxo1 mxo2 mxo3
  obtain ⟨c0z2, c1z2, c2z2, c3z2⟩ := cells4 B_z2
  go_upto_region 7 with (fail)
  clear c0z2 c1z2 c2z2 c3z2
  obtain ⟨c0z0, c1z0, c2z0, c3z0, c4z0, c5z0⟩ := cells6 B_z0
  obtain ⟨c0z1, c1z1, c2z1, c3z1, c4z1, c5z1⟩ := cells6 B_z1
  have tk1x0 : True := trivial
  go_region_held3 (fun w' => w'.cell? ⟨w.heap.size, 0, none⟩ = some (.int .i64 x0) ∧ w'.cell? ⟨w.heap.size, 1, none⟩ = some (.int .i64 y0) ∧ w'.cell? ⟨w.heap.size, 2, none⟩ = some (.int .i64 x1) ∧ w'.cell? ⟨w.heap.size, 3, none⟩ = some (.int .i64 y1) ∧ w'.cell? ⟨w.heap.size, 4, none⟩ = some (.int .i64 f) ∧ w'.cell? ⟨w.heap.size, 5, none⟩ = some (.int .i64 c) ∧ w'.cell? ⟨w.heap.size + 1, 0, none⟩ = some (.int .i64 u0) ∧ w'.cell? ⟨w.heap.size + 1, 1, none⟩ = some (.int .i64 v0) ∧ w'.cell? ⟨w.heap.size + 1, 2, none⟩ = some (.int .i64 u1) ∧ w'.cell? ⟨w.heap.size + 1, 3, none⟩ = some (.int .i64 v1) ∧ w'.cell? ⟨w.heap.size + 1, 4, none⟩ = some (.int .i64 g) ∧ w'.cell? ⟨w.heap.size + 1, 5, none⟩ = some (.int .i64 d)) (((try dsimp only); (repeat' apply And.intro) <;> (first | (with_reducible assumption) | ((repeat (first | (with_reducible refine Eq.trans (cell_drew1 _ _) ?_) | (with_reducible refine Eq.trans (cell_far (by omega) _ _ _) ?_) | (with_reducible refine Eq.trans (World.cell?_alloc_lt _ _ _ (by first | (dsimp only; omega) | (simp only [World.size_alloc, World.size_setCell]; omega))) ?_))); with_reducible assumption) | assumption | go_keep)))
    (first
      | (clear tk1x0; go_at_call 42; refine (H2.out _).mono ?_; rintro e w3 ⟨rfl, bb⟩; replace bb := nextw (w0 := WN3) (by exact sm) bb; replace B_z0 := mv B_z0 bb; replace B_z1 := mv B_z1 bb; replace B_z2 := mv B_z2 bb; replace HB := nx HB bb; clear bb c0z0 c1z0 c2z0 c3z0 c4z0 c5z0 c0z1 c1z1 c2z1 c3z1 c4z1 c5z1; have c0z0 : w3.cell? ⟨w.heap.size, 0, none⟩ = some (.int .i64 x0) := B_z0.out.cell 0 rfl; have c1z0 : w3.cell? ⟨w.heap.size, 1, none⟩ = some (.int .i64 y0) := B_z0.out.cell 1 rfl; have c2z0 : w3.cell? ⟨w.heap.size, 2, none⟩ = some (.int .i64 x1) := B_z0.out.cell 2 rfl; have c3z0 : w3.cell? ⟨w.heap.size, 3, none⟩ = some (.int .i64 y1) := B_z0.out.cell 3 rfl; have c4z0 : w3.cell? ⟨w.heap.size, 4, none⟩ = some (.int .i64 f) := B_z0.out.cell 4 rfl; have c5z0 : w3.cell? ⟨w.heap.size, 5, none⟩ = some (.int .i64 c) := B_z0.out.cell 5 rfl; have c0z1 : w3.cell? ⟨w.heap.size + 1, 0, none⟩ = some (.int .i64 u0) := B_z1.out.cell 0 rfl; have c1z1 : w3.cell? ⟨w.heap.size + 1, 1, none⟩ = some (.int .i64 v0) := B_z1.out.cell 1 rfl; have c2z1 : w3.cell? ⟨w.heap.size + 1, 2, none⟩ = some (.int .i64 u1) := B_z1.out.cell 2 rfl; have c3z1 : w3.cell? ⟨w.heap.size + 1, 3, none⟩ = some (.int .i64 v1) := B_z1.out.cell 3 rfl; have c4z1 : w3.cell? ⟨w.heap.size + 1, 4, none⟩ = some (.int .i64 g) := B_z1.out.cell 4 rfl; have c5z1 : w3.cell? ⟨w.heap.size + 1, 5, none⟩ = some (.int .i64 d) := B_z1.out.cell 5 rfl; have tk1x1 : True := trivial)
      | (clear tk1x1; go_at_call 42; refine (H3.out _).mono ?_; rintro e w4 ⟨rfl, bb⟩; replace bb := nextw (w0 := w3) (by exact sm) bb; replace B_z0 := mv B_z0 bb; replace B_z1 := mv B_z1 bb; replace B_z2 := mv B_z2 bb; replace HB := nx HB bb; clear bb c0z0 c1z0 c2z0 c3z0 c4z0 c5z0 c0z1 c1z1 c2z1 c3z1 c4z1 c5z1; have c0z0 : w4.cell? ⟨w.heap.size, 0, none⟩ = some (.int .i64 x0) := B_z0.out.cell 0 rfl; have c1z0 : w4.cell? ⟨w.heap.size, 1, none⟩ = some (.int .i64 y0) := B_z0.out.cell 1 rfl; have c2z0 : w4.cell? ⟨w.heap.size, 2, none⟩ = some (.int .i64 x1) := B_z0.out.cell 2 rfl; have c3z0 : w4.cell? ⟨w.heap.size, 3, none⟩ = some (.int .i64 y1) := B_z0.out.cell 3 rfl; have c4z0 : w4.cell? ⟨w.heap.size, 4, none⟩ = some (.int .i64 f) := B_z0.out.cell 4 rfl; have c5z0 : w4.cell? ⟨w.heap.size, 5, none⟩ = some (.int .i64 c) := B_z0.out.cell 5 rfl; have c0z1 : w4.cell? ⟨w.heap.size + 1, 0, none⟩ = some (.int .i64 u0) := B_z1.out.cell 0 rfl; have c1z1 : w4.cell? ⟨w.heap.size + 1, 1, none⟩ = some (.int .i64 v0) := B_z1.out.cell 1 rfl; have c2z1 : w4.cell? ⟨w.heap.size + 1, 2, none⟩ = some (.int .i64 u1) := B_z1.out.cell 2 rfl; have c3z1 : w4.cell? ⟨w.heap.size + 1, 3, none⟩ = some (.int .i64 v1) := B_z1.out.cell 3 rfl; have c4z1 : w4.cell? ⟨w.heap.size + 1, 4, none⟩ = some (.int .i64 g) := B_z1.out.cell 4 rfl; have c5z1 : w4.cell? ⟨w.heap.size + 1, 5, none⟩ = some (.int .i64 d) := B_z1.out.cell 5 rfl; have tk1x2 : True := trivial)
      | (clear tk1x2; go_at_call 50; refine (H4.out _).mono ?_; rintro e w5 ⟨_, rfl, ⟨A, cap, rfl, hh⟩, bb⟩; replace bb := nextw (w0 := w4) (by exact sm) bb; replace B_z0 := mv B_z0 bb; replace B_z1 := mv B_z1 bb; replace B_z2 := mv B_z2 bb; replace HB := nx HB bb; clear bb c0z0 c1z0 c2z0 c3z0 c4z0 c5z0 c0z1 c1z1 c2z1 c3z1 c4z1 c5z1; have c0z0 : w5.cell? ⟨w.heap.size, 0, none⟩ = some (.int .i64 x0) := B_z0.out.cell 0 rfl; have c1z0 : w5.cell? ⟨w.heap.size, 1, none⟩ = some (.int .i64 y0) := B_z0.out.cell 1 rfl; have c2z0 : w5.cell? ⟨w.heap.size, 2, none⟩ = some (.int .i64 x1) := B_z0.out.cell 2 rfl; have c3z0 : w5.cell? ⟨w.heap.size, 3, none⟩ = some (.int .i64 y1) := B_z0.out.cell 3 rfl; have c4z0 : w5.cell? ⟨w.heap.size, 4, none⟩ = some (.int .i64 f) := B_z0.out.cell 4 rfl; have c5z0 : w5.cell? ⟨w.heap.size, 5, none⟩ = some (.int .i64 c) := B_z0.out.cell 5 rfl; have c0z1 : w5.cell? ⟨w.heap.size + 1, 0, none⟩ = some (.int .i64 u0) := B_z1.out.cell 0 rfl; have c1z1 : w5.cell? ⟨w.heap.size + 1, 1, none⟩ = some (.int .i64 v0) := B_z1.out.cell 1 rfl; have c2z1 : w5.cell? ⟨w.heap.size + 1, 2, none⟩ = some (.int .i64 u1) := B_z1.out.cell 2 rfl; have c3z1 : w5.cell? ⟨w.heap.size + 1, 3, none⟩ = some (.int .i64 v1) := B_z1.out.cell 3 rfl; have c4z1 : w5.cell? ⟨w.heap.size + 1, 4, none⟩ = some (.int .i64 g) := B_z1.out.cell 4 rfl; have c5z1 : w5.cell? ⟨w.heap.size + 1, 5, none⟩ = some (.int .i64 d) := B_z1.out.cell 5 rfl; have tk1x3 : True := trivial))
  clear c0z0 c1z0 c2z0 c3z0 c4z0 c5z0 c0z1 c1z1 c2z1 c3z1 c4z1 c5z1
  clear B_z0
  clear B_z1
  obtain ⟨L, hL⟩ : ∃ L, refAll f c g d = L := ⟨_, rfl⟩
  rw [hL] at hh hlen ⊢
  have HL := Lib.hid hL
  clear hL H4
  obtain ⟨n, hn⟩ : ∃ n, L.length = n := ⟨_, rfl⟩
  have HN := Lib.hid hn
  rw [hn] at hlen ⊢
  have HA : Hid (L ≠ [] → ∃ q, A = some ⟨q, 0, none⟩ ∧ q < w5.heap.size ∧ ∀ i, i < L.length → w5.cell? ⟨q, i * 2, none⟩ = some (.int .i64 (L.getD i (0, 0)).1) ∧ w5.cell? ⟨q, i * 2 + 1, none⟩ = some (.int .i64 (L.getD i (0, 0)).2)) := hh
  clear hh hn
  obtain ⟨base, hbase⟩ : ∃ base, w5.heap.size = base := ⟨_, rfl⟩
  have HBS : Hid (base ≤ w5.heap.size) := by unfold Hid; omega
  have LZ : Hid (w2.heap.size < base) := by unfold Hid; have := B_z2.out.lt; omega
  have LW : Hid (w.heap.size ≤ base) := by have := HB.out.size; unfold Hid; omega
  have HA2 : Hid (L ≠ [] → ∃ q, A = some ⟨q, 0, none⟩ ∧ q < base ∧ ∀ i, i < L.length → w5.cell? ⟨q, i * 2, none⟩ = some (.int .i64 (L.getD i (0, 0)).1) ∧ w5.cell? ⟨q, i * 2 + 1, none⟩ = some (.int .i64 (L.getD i (0, 0)).2)) := by rw [← hbase]; exact HA.out
  clear hbase HA
  go_wp2_with fail
  go_loopw [6, 56] (fun v kk wr => ∃ k : Nat, k ≤ n ∧ kk = .int .i64 k ∧ Hid (wr.ownsRow base 23 6 v ((L.take k).map (fun p : Int × Int => ((MX0, MX1, MX2, MX3, p.1, p.2) : I6))).length (bxs ((L.take k).map (fun p : Int × Int => ((MX0, MX1, MX2, MX3, p.1, p.2) : I6))))) ∧ Hid (base ≤ wr.heap.size) ∧ Hid (L ≠ [] → ∃ q, A = some ⟨q, 0, none⟩ ∧ q < base ∧ ∀ i, i < L.length → wr.cell? ⟨q, i * 2, none⟩ = some (.int .i64 (L.getD i (0, 0)).1) ∧ wr.cell? ⟨q, i * 2 + 1, none⟩ = some (.int .i64 (L.getD i (0, 0)).2)) ∧ Hid (Bx wr (w2.heap.size) 41 #[.int .i64 MX0, .int .i64 MX1, .int .i64 MX2, .int .i64 MX3]) ∧ Hid (Below w.heap.size w wr)) (fun _ kk _ => n - (intOf kk).toNat)
  case atStart => exact ⟨0, by omega, rfl, nil_row6 _ _, HBS, HA2, B_z2, HB⟩
  case round =>
    clear HBS HA2 B_z2 HB
    obtain ⟨k, hk, rfl, VR, HBS, HA2, B_z2, HB⟩ := hrel
    by_cases hlt : k < n
    · have hlt2 : k < L.length := by rw [HN.out]; exact hlt
      have B_w := B_z2
      obtain ⟨q, eA, hq, hc⟩ := HA2.out (fun e => by rw [e] at hlt2; exact absurd hlt2 (by simp))
      obtain ⟨e0, e1⟩ := hc k hlt2
      have HT := Lib.hid (take_map_snoc L (fun p : Int × Int => ((MX0, MX1, MX2, MX3, p.1, p.2) : I6)) (0, 0) hlt2)
      generalize (L.getD k (0, 0)) = p at *
      obtain ⟨F, N⟩ := p
      have hll : ((L.take k).map (fun p : Int × Int => ((MX0, MX1, MX2, MX3, p.1, p.2) : I6))).length ≤ 2 := by rw [List.length_map, List.length_take]; omega
      subst eA
      clear hc hlt2 hq
      have HR := Lib.hid (Below.refl wr.heap.size wr)
      have lt_z3z2 := B_z2.out.lt
      obtain ⟨bb, B_z3⟩ := box1 wr 59 #[.int .i64 F, .int .i64 N]
      replace bb := bb.out
      replace B_z2 := mv B_z2 bb
      replace HR := Lib.hid (nextw HR.out bb)
      replace VR := Lib.hid (row_keep6 VR.out bb)
      replace HB := nx HB bb
      clear bb
      go_upto_region 10 with (fail)
      generalize wr.alloc (.cells #[.int .i64 F, .int .i64 N] 59) = WA at *
      clear e0 e1
      obtain ⟨c0z2, c1z2, c2z2, c3z2⟩ := cells4 B_z2
      obtain ⟨c0z3, c1z3⟩ := cells2 B_z3
      go_wp2_with fail
      refine (HJ.out _ _ _).mono ?_
      clear c0z2 c1z2 c2z2 c3z2 c0z3 c1z3
      rintro e w6 ⟨rfl, bb⟩
      replace bb := nextw (w0 := WA) (by exact sm) bb
      replace B_z2 := mv B_z2 bb
      replace B_z3 := mv B_z3 bb
      replace HR := Lib.hid (nextw HR.out bb)
      replace VR := Lib.hid (row_keep6 VR.out bb)
      replace HB := nx HB bb
      clear bb
      have HBj : Hid (base ≤ w6.heap.size) := Nat.le_trans HBS.out HR.out.size
      have HG := Lib.hid (fun w3 (hg : (w6.alloc (.cells #[.int .i64 MX0, .int .i64 MX1, .int .i64 MX2, .int .i64 MX3, .int .i64 F, .int .i64 N] 23)).grownBy w3 (Value.ownBlock u6)) => ((Below.refl base w6).alloc HBj.out (.cells #[.int .i64 MX0, .int .i64 MX1, .int .i64 MX2, .int .i64 MX3, .int .i64 F, .int .i64 N] 23)).grown hg (by have := HBj.out; simp; omega) (fun j hj => (VR.out.lt j hj).1))
      go_wp2_with ((at_builtin; refine wpList_append_own _ rfl _ _ 34 rfl base 23 i0 (.agg #[.int .i64 0, .int .i64 0, .int .i64 0, .int .i64 0, .int .i64 0, .int .i64 0]) 6 48 Try.underlying34 HI.out hz0 hz1 hz2 rfl (by decide) u6 ((L.take k).map (fun p : Int × Int => ((MX0, MX1, MX2, MX3, p.1, p.2) : I6))).length (bxs ((L.take k).map (fun p : Int × Int => ((MX0, MX1, MX2, MX3, p.1, p.2) : I6)))) rfl (VR.out.alloc _) ⟨w6.heap.size, 0, none⟩ 1 1 [.int .i64 MX0, .int .i64 MX1, .int .i64 MX2, .int .i64 MX3, .int .i64 F, .int .i64 N] rfl rfl (new_box6 w6 _ _ _ _ _ _) (by intro u hu; simp at hu; rcases hu with rfl | rfl | rfl | rfl | rfl | rfl <;> rfl) (by simp only [maxLen]; omega) (by omega) (by have := HBj.out; simp; omega) ?_; intro v3 w3 hown3 hgrow3 hnil3; have HX3 := Lib.hid hown3; have HY3 := Lib.hid (HG.out _ hgrow3); clear hown3 hgrow3 hnil3))
      have VR3 : Hid (w3.ownsRow base 23 6 v3 ((L.take (k + 1)).map (fun p : Int × Int => ((MX0, MX1, MX2, MX3, p.1, p.2) : I6))).length (bxs ((L.take (k + 1)).map (fun p : Int × Int => ((MX0, MX1, MX2, MX3, p.1, p.2) : I6))))) := by have h := HX3.out; rw [bxs_snoc] at h; unfold Hid; rw [HT.out, List.length_append]; exact h
      have HBS3 : Hid (base ≤ w3.heap.size) := Nat.le_trans HBj.out HY3.out.size
      have HBb : Below base wr w3 := (HR.out.mono HBS.out).trans HY3.out
      have HA3 : Hid (L ≠ [] → ∃ r, (some ⟨q, 0, none⟩ : Option Addr) = some ⟨r, 0, none⟩ ∧ r < base ∧ ∀ i, i < L.length → w3.cell? ⟨r, i * 2, none⟩ = some (.int .i64 (L.getD i (0, 0)).1) ∧ w3.cell? ⟨r, i * 2 + 1, none⟩ = some (.int .i64 (L.getD i (0, 0)).2)) := fun hne => by obtain ⟨r, e, hr, hc⟩ := HA2.out hne; exact ⟨r, e, hr, fun i hi => ⟨(HBb.cell (p := ⟨r, i * 2, none⟩) hr).trans (hc i hi).1, (HBb.cell (p := ⟨r, i * 2 + 1, none⟩) hr).trans (hc i hi).2⟩⟩
      have B_z3' := Lib.hid (Bx.below B_w.out HBb LZ.out)
      have HB3 : Hid (Below w.heap.size w w3) := HB.out.trans (HY3.out.mono LW.out)
      clear HBb HG HBj
      go_roundw
      case rel => exact ⟨k + 1, by omega, by go_num, VR3, HBS3, HA3, B_z3', HB3⟩
      case measure => simp only [intOf]; omega
    · obtain rfl : k = n := by omega
      have VR2 := VR.out
      rw [List.take_of_length_le (Nat.le_of_eq HN.out)] at VR2
      have VR3 := Lib.hid VR2
      clear VR2 VR
      go_wp2
      go_ret
      exact ⟨_, rfl, by rw [HL.out]; exact ar6_of_row VR3.out rfl, HB.out⟩

set_option maxRecDepth 100000 in
set_option maxHeartbeats 4000000 in
theorem BMeet0_w0 (x0 y0 x1 y1 f c u0 v0 u1 v1 g d : Int) (MX0 MX1 MX2 MX3 : Int) (mx0 : (if x0 < u0 then u0 else x0) = MX0) (mx1 : (if y0 < v0 then v0 else y0) = MX1) (mx2 : (if u1 < x1 then u1 else x1) = MX2) (mx3 : (if v1 < y1 then v1 else y1) = MX3)  (dd0 : OkB x0 y0 x1 y1 f c) (dd1 : OkB u0 v0 u1 v1 g d) (dd2 : MX2 < MX0) (w : World) :
    Calls Try.prog 22 #[.agg #[.int .i64 x0, .int .i64 y0, .int .i64 x1, .int .i64 y1, .int .i64 f, .int .i64 c], .agg #[.int .i64 u0, .int .i64 v0, .int .i64 u1, .int .i64 v1, .int .i64 g, .int .i64 d]] w fun e w' => e = .returned (.slice none 0 0) ∧ Below w.heap.size w w' := by
  have H0 := Lib.hid (fun w => Valid_yes dd0 w)
  have H1 := Lib.hid (fun w => Valid_yes dd1 w)
  replace mx0 := Lib.hid mx0
  replace mx1 := Lib.hid mx1
  replace mx2 := Lib.hid mx2
  replace mx3 := Lib.hid mx3
  obtain ⟨HB, B_z0, B_z1⟩ := box2 w 23 #[.int .i64 x0, .int .i64 y0, .int .i64 x1, .int .i64 y1, .int .i64 f, .int .i64 c] 23 #[.int .i64 u0, .int .i64 v0, .int .i64 u1, .int .i64 v1, .int .i64 g, .int .i64 d]
  go_enter Try.func22, Try.ntmps22
  go_upto_region 1 with (fail)
  generalize (w.alloc (.cells #[.int .i64 x0, .int .i64 y0, .int .i64 x1, .int .i64 y1, .int .i64 f, .int .i64 c] 23)).alloc (.cells #[.int .i64 u0, .int .i64 v0, .int .i64 u1, .int .i64 v1, .int .i64 g, .int .i64 d] 23) = W0 at *
  obtain ⟨c0z0, c1z0, c2z0, c3z0, c4z0, c5z0⟩ := cells6 B_z0
  go_wp2_with fail
  refine (H0.out _).mono ?_
  clear c0z0 c1z0 c2z0 c3z0 c4z0 c5z0
  rintro e w1 ⟨rfl, bb⟩
  replace bb := nextw (w0 := W0) (by exact sm) bb
  replace B_z0 := mv B_z0 bb
  replace B_z1 := mv B_z1 bb
  replace HB := nx HB bb
  clear bb
  obtain ⟨c0z1, c1z1, c2z1, c3z1, c4z1, c5z1⟩ := cells6 B_z1
  go_wp2_with fail
  refine (H1.out _).mono ?_
  clear c0z1 c1z1 c2z1 c3z1 c4z1 c5z1
  rintro e w2 ⟨rfl, bb⟩
  replace bb := nextw (w0 := w1) (by exact sm) bb
  replace B_z0 := mv B_z0 bb
  replace B_z1 := mv B_z1 bb
  replace HB := nx HB bb
  clear bb
  have mxo0 := mx0.out
  have mxo1 := mx1.out
  have mxo2 := mx2.out
  have mxo3 := mx3.out
  obtain ⟨c0z0, c1z0, c2z0, c3z0, c4z0, c5z0⟩ := cells6 B_z0
  obtain ⟨c0z1, c1z1, c2z1, c3z1, c4z1, c5z1⟩ := cells6 B_z1
  have lt_z2z0 := B_z0.out.lt
  have lt_z2z1 := B_z1.out.lt
  obtain ⟨bb, B_z2⟩ := box1 w2 41 #[.int .i64 MX0, .int .i64 MX1, .int .i64 MX2, .int .i64 MX3]
  replace bb := bb.out
  replace B_z0 := mv B_z0 bb
  replace B_z1 := mv B_z1 bb
  replace HB := nx HB bb
  clear bb
  go_upto_region 4 with (fail)
  clear c0z0 c1z0 c2z0 c3z0 c4z0 c5z0 c0z1 c1z1 c2z1 c3z1 c4z1 c5z1
  generalize w2.alloc (.cells #[.int .i64 MX0, .int .i64 MX1, .int .i64 MX2, .int .i64 MX3] 41) = WN2 at *
  obtain ⟨c0z2, c1z2, c2z2, c3z2⟩ := cells4 B_z2
  go_wp2
  go_ret
  exact ⟨(by first | rfl | exact rbt (by omega) | exact rbf (by omega)), nextw HB.out (by exact sm)⟩

set_option maxRecDepth 100000 in
set_option maxHeartbeats 4000000 in
theorem BMeet0_w1 (x0 y0 x1 y1 f c u0 v0 u1 v1 g d : Int)   (dd0 : ¬ (OkB x0 y0 x1 y1 f c)) (w : World) :
    Calls Try.prog 22 #[.agg #[.int .i64 x0, .int .i64 y0, .int .i64 x1, .int .i64 y1, .int .i64 f, .int .i64 c], .agg #[.int .i64 u0, .int .i64 v0, .int .i64 u1, .int .i64 v1, .int .i64 g, .int .i64 d]] w fun e w' => e = .returned (.slice none 0 0) ∧ Below w.heap.size w w' := by
  have H0 := Lib.hid (fun w => Valid_no dd0 w)
  obtain ⟨HB, B_z0, B_z1⟩ := box2 w 23 #[.int .i64 x0, .int .i64 y0, .int .i64 x1, .int .i64 y1, .int .i64 f, .int .i64 c] 23 #[.int .i64 u0, .int .i64 v0, .int .i64 u1, .int .i64 v1, .int .i64 g, .int .i64 d]
  go_enter Try.func22, Try.ntmps22
  go_upto_region 1 with (fail)
  generalize (w.alloc (.cells #[.int .i64 x0, .int .i64 y0, .int .i64 x1, .int .i64 y1, .int .i64 f, .int .i64 c] 23)).alloc (.cells #[.int .i64 u0, .int .i64 v0, .int .i64 u1, .int .i64 v1, .int .i64 g, .int .i64 d] 23) = W0 at *
  obtain ⟨c0z0, c1z0, c2z0, c3z0, c4z0, c5z0⟩ := cells6 B_z0
  go_wp2_with fail
  refine (H0.out _).mono ?_
  clear c0z0 c1z0 c2z0 c3z0 c4z0 c5z0
  rintro e w1 ⟨rfl, bb⟩
  replace bb := nextw (w0 := W0) (by exact sm) bb
  replace B_z0 := mv B_z0 bb
  replace B_z1 := mv B_z1 bb
  replace HB := nx HB bb
  clear bb
  go_wp2
  go_ret
  exact ⟨(by first | rfl | exact rbt (by omega) | exact rbf (by omega)), nextw HB.out (by exact sm)⟩

set_option maxRecDepth 100000 in
set_option maxHeartbeats 4000000 in
theorem BMeet0_w2 (x0 y0 x1 y1 f c u0 v0 u1 v1 g d : Int)   (dd0 : OkB x0 y0 x1 y1 f c) (dd1 : ¬ (OkB u0 v0 u1 v1 g d)) (w : World) :
    Calls Try.prog 22 #[.agg #[.int .i64 x0, .int .i64 y0, .int .i64 x1, .int .i64 y1, .int .i64 f, .int .i64 c], .agg #[.int .i64 u0, .int .i64 v0, .int .i64 u1, .int .i64 v1, .int .i64 g, .int .i64 d]] w fun e w' => e = .returned (.slice none 0 0) ∧ Below w.heap.size w w' := by
  have H0 := Lib.hid (fun w => Valid_yes dd0 w)
  have H1 := Lib.hid (fun w => Valid_no dd1 w)
  obtain ⟨HB, B_z0, B_z1⟩ := box2 w 23 #[.int .i64 x0, .int .i64 y0, .int .i64 x1, .int .i64 y1, .int .i64 f, .int .i64 c] 23 #[.int .i64 u0, .int .i64 v0, .int .i64 u1, .int .i64 v1, .int .i64 g, .int .i64 d]
  go_enter Try.func22, Try.ntmps22
  go_upto_region 1 with (fail)
  generalize (w.alloc (.cells #[.int .i64 x0, .int .i64 y0, .int .i64 x1, .int .i64 y1, .int .i64 f, .int .i64 c] 23)).alloc (.cells #[.int .i64 u0, .int .i64 v0, .int .i64 u1, .int .i64 v1, .int .i64 g, .int .i64 d] 23) = W0 at *
  obtain ⟨c0z0, c1z0, c2z0, c3z0, c4z0, c5z0⟩ := cells6 B_z0
  go_wp2_with fail
  refine (H0.out _).mono ?_
  clear c0z0 c1z0 c2z0 c3z0 c4z0 c5z0
  rintro e w1 ⟨rfl, bb⟩
  replace bb := nextw (w0 := W0) (by exact sm) bb
  replace B_z0 := mv B_z0 bb
  replace B_z1 := mv B_z1 bb
  replace HB := nx HB bb
  clear bb
  obtain ⟨c0z1, c1z1, c2z1, c3z1, c4z1, c5z1⟩ := cells6 B_z1
  go_wp2_with fail
  refine (H1.out _).mono ?_
  clear c0z1 c1z1 c2z1 c3z1 c4z1 c5z1
  rintro e w2 ⟨rfl, bb⟩
  replace bb := nextw (w0 := w1) (by exact sm) bb
  replace B_z0 := mv B_z0 bb
  replace B_z1 := mv B_z1 bb
  replace HB := nx HB bb
  clear bb
  go_wp2
  go_ret
  exact ⟨(by first | rfl | exact rbt (by omega) | exact rbf (by omega)), nextw HB.out (by exact sm)⟩

set_option maxRecDepth 100000 in
set_option maxHeartbeats 4000000 in
theorem BMeet0_w3 (x0 y0 x1 y1 f c u0 v0 u1 v1 g d : Int) (MX0 MX1 MX2 MX3 : Int) (mx0 : (if x0 < u0 then u0 else x0) = MX0) (mx1 : (if y0 < v0 then v0 else y0) = MX1) (mx2 : (if u1 < x1 then u1 else x1) = MX2) (mx3 : (if v1 < y1 then v1 else y1) = MX3)  (dd0 : OkB x0 y0 x1 y1 f c) (dd1 : OkB u0 v0 u1 v1 g d) (dd2 : MX0 ≤ MX2) (dd3 : MX3 < MX1) (w : World) :
    Calls Try.prog 22 #[.agg #[.int .i64 x0, .int .i64 y0, .int .i64 x1, .int .i64 y1, .int .i64 f, .int .i64 c], .agg #[.int .i64 u0, .int .i64 v0, .int .i64 u1, .int .i64 v1, .int .i64 g, .int .i64 d]] w fun e w' => e = .returned (.slice none 0 0) ∧ Below w.heap.size w w' := by
  have H0 := Lib.hid (fun w => Valid_yes dd0 w)
  have H1 := Lib.hid (fun w => Valid_yes dd1 w)
  replace mx0 := Lib.hid mx0
  replace mx1 := Lib.hid mx1
  replace mx2 := Lib.hid mx2
  replace mx3 := Lib.hid mx3
  obtain ⟨HB, B_z0, B_z1⟩ := box2 w 23 #[.int .i64 x0, .int .i64 y0, .int .i64 x1, .int .i64 y1, .int .i64 f, .int .i64 c] 23 #[.int .i64 u0, .int .i64 v0, .int .i64 u1, .int .i64 v1, .int .i64 g, .int .i64 d]
  go_enter Try.func22, Try.ntmps22
  go_upto_region 1 with (fail)
  generalize (w.alloc (.cells #[.int .i64 x0, .int .i64 y0, .int .i64 x1, .int .i64 y1, .int .i64 f, .int .i64 c] 23)).alloc (.cells #[.int .i64 u0, .int .i64 v0, .int .i64 u1, .int .i64 v1, .int .i64 g, .int .i64 d] 23) = W0 at *
  obtain ⟨c0z0, c1z0, c2z0, c3z0, c4z0, c5z0⟩ := cells6 B_z0
  go_wp2_with fail
  refine (H0.out _).mono ?_
  clear c0z0 c1z0 c2z0 c3z0 c4z0 c5z0
  rintro e w1 ⟨rfl, bb⟩
  replace bb := nextw (w0 := W0) (by exact sm) bb
  replace B_z0 := mv B_z0 bb
  replace B_z1 := mv B_z1 bb
  replace HB := nx HB bb
  clear bb
  obtain ⟨c0z1, c1z1, c2z1, c3z1, c4z1, c5z1⟩ := cells6 B_z1
  go_wp2_with fail
  refine (H1.out _).mono ?_
  clear c0z1 c1z1 c2z1 c3z1 c4z1 c5z1
  rintro e w2 ⟨rfl, bb⟩
  replace bb := nextw (w0 := w1) (by exact sm) bb
  replace B_z0 := mv B_z0 bb
  replace B_z1 := mv B_z1 bb
  replace HB := nx HB bb
  clear bb
  have mxo0 := mx0.out
  have mxo1 := mx1.out
  have mxo2 := mx2.out
  have mxo3 := mx3.out
  obtain ⟨c0z0, c1z0, c2z0, c3z0, c4z0, c5z0⟩ := cells6 B_z0
  obtain ⟨c0z1, c1z1, c2z1, c3z1, c4z1, c5z1⟩ := cells6 B_z1
  have lt_z2z0 := B_z0.out.lt
  have lt_z2z1 := B_z1.out.lt
  obtain ⟨bb, B_z2⟩ := box1 w2 41 #[.int .i64 MX0, .int .i64 MX1, .int .i64 MX2, .int .i64 MX3]
  replace bb := bb.out
  replace B_z0 := mv B_z0 bb
  replace B_z1 := mv B_z1 bb
  replace HB := nx HB bb
  clear bb
  go_upto_region 4 with (fail)
  clear c0z0 c1z0 c2z0 c3z0 c4z0 c5z0 c0z1 c1z1 c2z1 c3z1 c4z1 c5z1
  generalize w2.alloc (.cells #[.int .i64 MX0, .int .i64 MX1, .int .i64 MX2, .int .i64 MX3] 41) = WN2 at *
  obtain ⟨c0z2, c1z2, c2z2, c3z2⟩ := cells4 B_z2
  go_wp2
  go_ret
  exact ⟨(by first | rfl | exact rbt (by omega) | exact rbf (by omega)), nextw HB.out (by exact sm)⟩

def meetLL (x0 y0 x1 y1 f c u0 v0 u1 v1 g d : Int) : List I6 := if OkB x0 y0 x1 y1 f c ∧ OkB u0 v0 u1 v1 g d then meetL x0 y0 x1 y1 f c u0 v0 u1 v1 g d else []
theorem BMeet_is (x0 y0 x1 y1 f c u0 v0 u1 v1 g d : Int) (w : World) : Calls Try.prog 22 #[.agg #[.int .i64 x0, .int .i64 y0, .int .i64 x1, .int .i64 y1, .int .i64 f, .int .i64 c], .agg #[.int .i64 u0, .int .i64 v0, .int .i64 u1, .int .i64 v1, .int .i64 g, .int .i64 d]] w fun e w' => ∃ v, e = .returned v ∧ AR6 w' v (meetLL x0 y0 x1 y1 f c u0 v0 u1 v1 g d) ∧ Below w.heap.size w w' := by
  have nil : ∀ {e w'}, e = Ending.returned (.slice none 0 0) ∧ Below w.heap.size w w' → ∃ v, e = .returned v ∧ AR6 w' v ([] : List I6) ∧ Below w.heap.size w w' := fun k => ⟨_, k.1, ar6_nil _, k.2⟩
  unfold meetLL
  by_cases h0 : OkB x0 y0 x1 y1 f c
  · by_cases h1 : OkB u0 v0 u1 v1 g d
    · rw [if_pos ⟨h0, h1⟩]
      unfold meetL
      have e0 : (if x0 < u0 then u0 else x0) = max x0 u0 := by split <;> omega
      have e1 : (if y0 < v0 then v0 else y0) = max y0 v0 := by split <;> omega
      have e2 : (if u1 < x1 then u1 else x1) = min x1 u1 := by split <;> omega
      have e3 : (if v1 < y1 then v1 else y1) = min y1 v1 := by split <;> omega
      by_cases hx : max x0 u0 ≤ min x1 u1
      · by_cases hy : max y0 v0 ≤ min y1 v1
        · rw [if_pos ⟨hx, hy⟩]
          exact BMeet_in _ _ _ _ e0 e1 e2 e3 ⟨h0, h1⟩ hx hy w
        · rw [if_neg (fun k => hy k.2)]
          exact (BMeet0_w3 _ _ _ _ _ _ _ _ _ _ _ _ _ _ _ _ e0 e1 e2 e3 h0 h1 (by omega) (by omega) w).mono fun _ _ => nil
      · rw [if_neg (fun k => hx k.1)]
        exact (BMeet0_w0 _ _ _ _ _ _ _ _ _ _ _ _ _ _ _ _ e0 e1 e2 e3 h0 h1 (by omega) w).mono fun _ _ => nil
    · rw [if_neg (fun k => h1 k.2)]; exact (BMeet0_w2 _ _ _ _ _ _ _ _ _ _ _ _ h0 h1 w).mono fun _ _ => nil
  · rw [if_neg (fun k => h0 k.1)]; exact (BMeet0_w1 _ _ _ _ _ _ _ _ _ _ _ _ h0 w).mono fun _ _ => nil
theorem BMeet_none {x0 y0 x1 y1 f c u0 v0 u1 v1 g d : Int} (h : meetLL x0 y0 x1 y1 f c u0 v0 u1 v1 g d = []) (w : World) : Calls Try.prog 22 #[.agg #[.int .i64 x0, .int .i64 y0, .int .i64 x1, .int .i64 y1, .int .i64 f, .int .i64 c], .agg #[.int .i64 u0, .int .i64 v0, .int .i64 u1, .int .i64 v1, .int .i64 g, .int .i64 d]] w fun e w' => ∃ A cap, e = .returned (.slice A 0 cap) ∧ Below w.heap.size w w' := by
  refine (BMeet_is x0 y0 x1 y1 f c u0 v0 u1 v1 g d w).mono ?_
  rintro e w' ⟨v, rfl, ⟨A, cap, rfl, -⟩, hb⟩
  rw [h]; exact ⟨A, cap, rfl, hb⟩
end Go.Proofs.Ytjpdahalplkfbaa
