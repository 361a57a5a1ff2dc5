/- the reference's put. -/
import Derived.Test.YtpjbkadhmjlpfaaZ23
set_option linter.unusedVariables false
set_option linter.unusedSimpArgs false
namespace Go.Proofs.Ytpjbkadhmjlpfaa
open Go Go.RowKit Hd

/-- What put has behind k generators: its list and whether g is in it. -/
def putS (g : P2) (l : List P2) : Nat → List P2 × Bool
  | 0 => ([], false)
  | k + 1 => if crs g (l.getD k z2) = 0 then ((putS g l k).1 ++ [addP (l.getD k z2) g], true) else if 0 < crs g (l.getD k z2) ∧ (putS g l k).2 = false then ((putS g l k).1 ++ [g] ++ [l.getD k z2], true) else ((putS g l k).1 ++ [l.getD k z2], (putS g l k).2)
theorem putS_putD (g : P2) (l : List P2) (k : Nat) (hk : k ≤ l.length) : putD g false l = (putS g l k).1 ++ putD g (putS g l k).2 (l.drop k) := by
  induction k with
  | zero => simp [putS]
  | succ k ih =>
    rw [ih (by omega)]
    have hd : l.drop k = l.getD k z2 :: l.drop (k + 1) := by
      rw [List.drop_eq_getElem_cons (show k < l.length by omega)]
      simp [List.getD_eq_getElem?_getD, List.getElem?_eq_getElem (show k < l.length by omega)]
    rw [hd]
    simp only [putS, putD]
    by_cases c0 : crs g (l.getD k z2) = 0
    · rw [if_pos c0, if_pos c0]; simp
    · rw [if_neg c0, if_neg c0]
      by_cases c1 : 0 < crs g (l.getD k z2) ∧ (putS g l k).2 = false
      · rw [if_pos c1, if_pos c1]; simp
      · rw [if_neg c1, if_neg c1]; simp
theorem putS_len (g : P2) (l : List P2) (k : Nat) : (putS g l k).1.length ≤ 2 * k := by
  induction k with
  | zero => simp [putS]
  | succ k ih =>
    unfold putS
    split
    · simp; omega
    · split
      · simp; omega
      · simp; omega
theorem PL.elemAt {w : World} {lo hi g o n c i : Nat} {l : List P2} {px py : Int} (h : PL w lo hi (some ⟨g, o, none⟩) n c l) (hi' : i < n) (e : l.getD i z2 = (px, py)) : w.cell? ⟨g, o + i * 2, none⟩ = some (.int .i64 px) ∧ w.cell? ⟨g, o + i * 2 + 1, none⟩ = some (.int .i64 py) := by
  obtain ⟨g', o', e1, -, h1, h2⟩ := h.elem hi'
  cases e1
  rw [e] at h1 h2
  exact ⟨h1, h2⟩

set_option maxRecDepth 100000 in
set_option maxHeartbeats 4000000 in
theorem put_p (gx gy : Int) (A : Option Addr) (n c : Nat) (l : List P2) (hn : n ≤ 400) (hl : ∀ p ∈ l, Bd 16777216 p) (hg : Bd 16777216 (gx, gy)) (hy : 0 < gy) (w : World) {lo_L hi_L : Nat} (L : PL w lo_L hi_L A n c l) :
    Calls Try.prog 75 #[.slice A n c, .agg #[.int .i64 gx, .int .i64 gy]] w fun e w' => ∃ A' c', e = .returned (.slice A' (putD (gx, gy) false l).length c') ∧ PL w' w.heap.size w'.heap.size A' (putD (gx, gy) false l).length c' (putD (gx, gy) false l) ∧ Below w.heap.size w w' := by
  have HH := Lib.hid hl
  have HUB := Lib.hid hg
  have hq2 := hg.2
  have hq1 := hg.1
  obtain ⟨b1, b2⟩ := hq2
  obtain ⟨a1, a2⟩ := hq1
  dsimp only at a1 a2 b1 b2
  obtain ⟨i0, hi0, hz0, hz1, hz2⟩ := info_parts info2
  have HI := Lib.hid hi0
  clear hi0
  clear hl hg
  have hiL : Hid (hi_L ≤ w.heap.size) := L.top
  replace L := Lib.hid L
  obtain ⟨HB, B_z0⟩ := box1 w 39 #[.int .i64 gx, .int .i64 gy]
  replace L := plm L HB.out
  go_enter Try.func75, Try.ntmps75
  go_upto_region 1 with (fail)
  generalize w.alloc (.cells #[.int .i64 gx, .int .i64 gy] 39) = W0 at *
  have od0 : decide (gy < 0) = false := decide_eq_false (by omega)
  have od1 : (gy == 0) = false := by simp; omega
  obtain ⟨c0z0, c1z0⟩ := cells2 B_z0
  go_upto_region 3 with (fail)
  clear c0z0 c1z0
  go_cut [36] (fun s0 wx => s0 = .bool false ∧ Hid (Bx wx (w.heap.size) 39 #[.int .i64 gx, .int .i64 gy]) ∧ Hid (PL wx lo_L hi_L A n c l) ∧ Hid (Below w.heap.size w wx))
  case first =>
    by_cases hx0 : gx = 0
    · skip
      subst hx0
      obtain ⟨c0z0, c1z0⟩ := cells2 B_z0
      all_goals go_wp2_with fail
      clear c0z0 c1z0
      all_goals go_meet
      exact ⟨rfl, mv B_z0 sm, plm L sm, nx HB sm⟩
    · skip
      have hxb : (gx == 0) = false := by simpa using hx0
      obtain ⟨c0z0, c1z0⟩ := cells2 B_z0
      all_goals go_wp2_with fail
      clear c0z0 c1z0
      all_goals go_meet
      exact ⟨rfl, mv B_z0 sm, plm L sm, nx HB sm⟩
  case rest =>
    clear B_z0 HB L
    rename World => wc
    obtain ⟨rfl, B_z0, L, HB⟩ := hcut
    obtain ⟨c0z0, c1z0⟩ := cells2 B_z0
    go_wp2_with fail
    clear c0z0 c1z0
    obtain ⟨base, hbase⟩ : ∃ base, base = wc.heap.size := ⟨_, rfl⟩
    have HBS : Hid (base ≤ wc.heap.size) := by unfold Hid; omega
    have LT_z0 : Hid (w.heap.size < base) := by have := B_z0.out.lt; unfold Hid; omega
    have HW : Hid (w.heap.size ≤ base) := by have := HB.out.size; unfold Hid; omega
    have TL_L : Hid (hi_L ≤ base) := by have := L.out.top; unfold Hid; omega
    clear hbase
    go_loopw [5, 6, 7] (fun a0 a1 kk wx => ∃ (k : Nat), k ≤ n ∧ kk = .int .i64 k ∧ a1 = (.bool (putS (gx, gy) l k).2) ∧ Hid (OwnP wx base a0 (putS (gx, gy) l k).1) ∧ Hid (base ≤ wx.heap.size) ∧ Hid (PL wx lo_L hi_L A n c l) ∧ Hid (Bx wx (w.heap.size) 39 #[.int .i64 gx, .int .i64 gy]) ∧ Hid (Below w.heap.size w wx)) (fun _ _ kk _ => n - (intOf kk).toNat)
    case atStart => exact ⟨0, by omega, rfl, rfl, Lib.hid (own_nil _ _), HBS, L, B_z0, HB⟩
    case round =>
      clear HBS L B_z0 HB
      obtain ⟨k, hk, rfl, rfl, VR, HBS, L, B_z0, HB⟩ := hrel
      by_cases hlt : k < n
      · skip
        obtain ⟨g, o, eA, hg, e0, e1⟩ := L.out.elem hlt
        have hlen := L.out.len
        have hmem : l.getD k z2 ∈ l := getD_mem (by omega)
        have HT := Lib.hid (take_snoc l z2 (k := k) (by omega))
        subst eA
        have hP := HH.out _ hmem
        have hln := putS_len (gx, gy) l k
        obtain ⟨⟨q1, q2⟩, q3, q4⟩ := hP
        obtain ⟨⟨r1, r2⟩, r3, r4⟩ := HUB.out
        dsimp only at r1 r2 r3 r4
        have HPS : Hid (putS (gx, gy) l (k + 1) = if crs (gx, gy) (l.getD k z2) = 0 then ((putS (gx, gy) l k).1 ++ [addP (l.getD k z2) (gx, gy)], true) else if 0 < crs (gx, gy) (l.getD k z2) ∧ (putS (gx, gy) l k).2 = false then ((putS (gx, gy) l k).1 ++ [(gx, gy)] ++ [l.getD k z2], true) else ((putS (gx, gy) l k).1 ++ [l.getD k z2], (putS (gx, gy) l k).2)) := rfl
        generalize hpe : l.getD k z2 = q at *
        obtain ⟨px, py⟩ := q
        have HPE := Lib.hid hpe
        dsimp only at q1 q2 q3 q4
        generalize putS (gx, gy) l k = st at *
        obtain ⟨ol, dl⟩ := st
        dsimp only at VR hln HPS
        have hol : ol.length ≤ 900 := by omega
        have HLT := Lib.hid hlt
        have w1 : Wi gx 16777216 := ⟨by omega, by omega⟩
        have w2 : Wi gy 16777216 := ⟨by omega, by omega⟩
        have w3 : Wi px 16777216 := ⟨q1, q2⟩
        have w4 : Wi py 16777216 := ⟨q3, q4⟩
        have m1 := wi_mul w1 w4
        have m2 := wi_mul w2 w3
        obtain ⟨m11, m12⟩ := m1
        obtain ⟨m21, m22⟩ := m2
        have HD := Lib.hid (fun w => Rcross_is gx gy px py ⟨by omega, by omega⟩ ⟨by omega, by omega⟩ w)
        have HCC : Hid (crs (gx, gy) (px, py) = cr gx gy px py) := rfl
        rw [HCC.out] at HPS
        generalize cr gx gy px py = d at *
        clear m11 m12 m21 m22 w1 w2 w3 w4 hmem hg hlen hln hpe e0 e1 HCC
        by_cases hz : d = 0
        · skip
          subst hz
          rw [if_pos rfl] at HPS
          go_upto_region 10 with (fail)
          obtain ⟨c0z0, c1z0⟩ := cells2 B_z0
          have e0 : wr.cell? ⟨g, o + k * 2, none⟩ = some (.int .i64 px) := (PL.elemAt L.out HLT.out HPE.out).1
          have e1 : wr.cell? ⟨g, o + k * 2 + 1, none⟩ = some (.int .i64 py) := (PL.elemAt L.out HLT.out HPE.out).2
          have tk1x0 : True := trivial
          go_region_held3 (fun w' => w'.cell? ⟨g, o + k * 2, none⟩ = some (.int .i64 px) ∧ w'.cell? ⟨g, o + k * 2 + 1, none⟩ = some (.int .i64 py) ∧ w'.cell? ⟨w.heap.size, 0, none⟩ = some (.int .i64 gx) ∧ w'.cell? ⟨w.heap.size, 1, none⟩ = some (.int .i64 gy)) (((try dsimp only); (repeat' apply And.intro) <;> (first | (with_reducible assumption) | ((repeat (first | (with_reducible refine Eq.trans (cell_drew1 _ _) ?_) | (with_reducible refine Eq.trans (cell_far (by omega) _ _ _) ?_) | (with_reducible refine Eq.trans (World.cell?_alloc_lt _ _ _ (by first | (dsimp only; omega) | (simp only [World.size_alloc, World.size_setCell]; omega))) ?_))); with_reducible assumption) | assumption | go_keep)))
    (first
      | (clear tk1x0; go_at_call 54; refine (HD.out _).mono ?_; rintro e w1 ⟨rfl, bb⟩; replace bb := nextw (w0 := wr) (by exact sm) bb; replace B_z0 := mv B_z0 bb; replace L := Lib.hid (PL.below L.out bb); replace VR := Lib.hid (OwnP.below VR.out bb); replace HBS := Lib.hid (lebel HBS.out bb); replace HB := nx HB bb; clear bb c0z0 c1z0 e0 e1; have e0 : w1.cell? ⟨g, o + k * 2, none⟩ = some (.int .i64 px) := (PL.elemAt L.out HLT.out HPE.out).1; have e1 : w1.cell? ⟨g, o + k * 2 + 1, none⟩ = some (.int .i64 py) := (PL.elemAt L.out HLT.out HPE.out).2; have c0z0 : w1.cell? ⟨w.heap.size, 0, none⟩ = some (.int .i64 gx) := B_z0.out.cell 0 rfl; have c1z0 : w1.cell? ⟨w.heap.size, 1, none⟩ = some (.int .i64 gy) := B_z0.out.cell 1 rfl; have tk1x1 : True := trivial))
          clear c0z0 c1z0 e0 e1
          go_upto_region 12 with (fail)
          obtain ⟨c0z0, c1z0⟩ := cells2 B_z0
          have e0 : w1.cell? ⟨g, o + k * 2, none⟩ = some (.int .i64 px) := (PL.elemAt L.out HLT.out HPE.out).1
          have e1 : w1.cell? ⟨g, o + k * 2 + 1, none⟩ = some (.int .i64 py) := (PL.elemAt L.out HLT.out HPE.out).2
          have ex : IntKind.i64.wrap (px + gx) = px + gx := by rw [IntKind.wrap_i64]; omega
          have ey : IntKind.i64.wrap (py + gy) = py + gy := by rw [IntKind.wrap_i64]; omega
          refine wp_region_held_drew (S := fun w' => w'.cell? ⟨g, o + k * 2, none⟩ = some (.int .i64 px) ∧ w'.cell? ⟨g, o + k * 2 + 1, none⟩ = some (.int .i64 py) ∧ w'.cell? ⟨w.heap.size, 0, none⟩ = some (.int .i64 gx) ∧ w'.cell? ⟨w.heap.size, 1, none⟩ = some (.int .i64 gy)) (by kernel_rfl) ?_ (fun hH0 => ?_)
          · ((try dsimp only); (repeat' apply And.intro) <;> (first | (with_reducible assumption) | ((repeat (first | (with_reducible refine Eq.trans (cell_drew1 _ _) ?_) | (with_reducible refine Eq.trans (cell_far (by omega) _ _ _) ?_) | (with_reducible refine Eq.trans (World.cell?_alloc_lt _ _ _ (by first | (dsimp only; omega) | (simp only [World.size_alloc, World.size_setCell]; omega))) ?_))); with_reducible assumption) | assumption | go_keep))
          refine wpAnyH_take (i := 0) (v := ?hv2x0) rfl (by kernel_rfl) (by kernel_rfl) (by kernel_rfl) (fun _ _ _ h => h) (Or.inl ⟨by kernel_rfl, ?hy2x0⟩) (by assumption) ?hr2x0
          case hy2x0 => (intro w hSw; (try dsimp only at hSw); go_simp <;> with_reducible rfl)
          simp only [Act.put, List.setIfInBounds_toArray, List.set_cons_zero, List.set_cons_succ, List.getElem_toArray, List.getElem_cons_zero, List.getElem_cons_succ]
          refine wpAnyH_take (i := 1) (v := ?hv3x1) rfl (by kernel_rfl) (by kernel_rfl) (by kernel_rfl) (fun _ _ _ h => h) (Or.inl ⟨by kernel_rfl, ?hy3x1⟩) (by assumption) ?hr3x1
          case hy3x1 => (intro w hSw; (try dsimp only at hSw); go_simp <;> with_reducible rfl)
          simp only [Act.put, List.setIfInBounds_toArray, List.set_cons_zero, List.set_cons_succ, List.getElem_toArray, List.getElem_cons_zero, List.getElem_cons_succ]
          refine wpAnyH_take (i := 2) (v := ?hv4x2) rfl (by kernel_rfl) (by kernel_rfl) (by kernel_rfl) (fun _ _ _ h => h) (Or.inl ⟨by kernel_rfl, ?hy4x2⟩) (by assumption) ?hr4x2
          case hy4x2 => (intro w hSw; (try dsimp only at hSw); go_simp <;> with_reducible rfl)
          simp only [Act.put, List.setIfInBounds_toArray, List.set_cons_zero, List.set_cons_succ, List.getElem_toArray, List.getElem_cons_zero, List.getElem_cons_succ]
          refine wpAnyH_take (i := 3) (v := ?hv5x3) rfl (by kernel_rfl) (by kernel_rfl) (by kernel_rfl) (fun _ _ _ h => h) (Or.inl ⟨by kernel_rfl, ?hy5x3⟩) (by assumption) ?hr5x3
          case hy5x3 => (intro w hSw; (try dsimp only at hSw); go_simp <;> with_reducible rfl)
          simp only [Act.put, List.setIfInBounds_toArray, List.set_cons_zero, List.set_cons_succ, List.getElem_toArray, List.getElem_cons_zero, List.getElem_cons_succ]
          refine wpAnyH_take (i := 4) (v := ?hv6x4) rfl (by kernel_rfl) (by kernel_rfl) (by kernel_rfl) (fun _ _ _ h => h) (Or.inl ⟨by kernel_rfl, ?hy6x4⟩) (by assumption) ?hr6x4
          case hy6x4 => (intro w hSw; (try dsimp only at hSw); go_simp <;> with_reducible rfl)
          simp only [Act.put, List.setIfInBounds_toArray, List.set_cons_zero, List.set_cons_succ, List.getElem_toArray, List.getElem_cons_zero, List.getElem_cons_succ]
          refine wpAnyH_take (i := 5) (v := ?hv7x5) rfl (by kernel_rfl) (by kernel_rfl) (by kernel_rfl) (fun _ _ _ h => h) (Or.inl ⟨by kernel_rfl, ?hy7x5⟩) (by assumption) ?hr7x5
          case hy7x5 => (intro w hSw; (try dsimp only at hSw); go_simp <;> with_reducible rfl)
          simp only [Act.put, List.setIfInBounds_toArray, List.set_cons_zero, List.set_cons_succ, List.getElem_toArray, List.getElem_cons_zero, List.getElem_cons_succ]
          refine wpAnyH_take (i := 6) (v := ?hv8x6) rfl (by kernel_rfl) (by kernel_rfl) (by kernel_rfl) (fun _ _ _ h => h) (Or.inl ⟨by kernel_rfl, ?hy8x6⟩) (by assumption) ?hr8x6
          case hy8x6 => (intro w hSw; (try dsimp only at hSw); go_simp <;> with_reducible rfl)
          simp only [Act.put, List.setIfInBounds_toArray, List.set_cons_zero, List.set_cons_succ, List.getElem_toArray, List.getElem_cons_zero, List.getElem_cons_succ]
          refine wpAnyH_take (i := 7) (v := ?hv9x7) rfl (by kernel_rfl) (by kernel_rfl) (by kernel_rfl) (fun _ _ _ h => h) (Or.inl ⟨by kernel_rfl, ?hy9x7⟩) (by assumption) ?hr9x7
          case hy9x7 => (intro w hSw; (try dsimp only at hSw); go_simp <;> with_reducible rfl)
          simp only [Act.put, List.setIfInBounds_toArray, List.set_cons_zero, List.set_cons_succ, List.getElem_toArray, List.getElem_cons_zero, List.getElem_cons_succ]
          refine wpAnyH_take (i := 8) (v := ?hv10x8) rfl (by kernel_rfl) (by kernel_rfl) (by kernel_rfl) (fun _ _ _ h => h) (Or.inl ⟨by kernel_rfl, ?hy10x8⟩) (by assumption) ?hr10x8
          case hy10x8 => (intro w hSw; (try dsimp only at hSw); go_simp <;> with_reducible rfl)
          simp only [Act.put, List.setIfInBounds_toArray, List.set_cons_zero, List.set_cons_succ, List.getElem_toArray, List.getElem_cons_zero, List.getElem_cons_succ]
          refine wpAnyH_take (i := 9) (v := ?hv11x9) rfl (by kernel_rfl) (by kernel_rfl) (by kernel_rfl) (fun _ _ _ h => h) (Or.inl ⟨by kernel_rfl, ?hy11x9⟩) (by assumption) ?hr11x9
          case hy11x9 => (intro w hSw; (try dsimp only at hSw); go_simp <;> with_reducible rfl)
          simp only [Act.put, List.setIfInBounds_toArray, List.set_cons_zero, List.set_cons_succ, List.getElem_toArray, List.getElem_cons_zero, List.getElem_cons_succ]
          refine wpAnyH_take (i := 10) (v := ?hv12x10) rfl (by kernel_rfl) (by kernel_rfl) (by kernel_rfl) (fun _ _ _ h => h) (Or.inl ⟨by kernel_rfl, ?hy12x10⟩) (by assumption) ?hr12x10
          case hy12x10 => (intro w hSw; (try dsimp only at hSw); go_simp <;> with_reducible rfl)
          simp only [Act.put, List.setIfInBounds_toArray, List.set_cons_zero, List.set_cons_succ, List.getElem_toArray, List.getElem_cons_zero, List.getElem_cons_succ]
          refine wpAnyH_take (i := 11) (v := ?hv13x11) rfl (by kernel_rfl) (by kernel_rfl) (by kernel_rfl) (fun _ _ _ h => h) (Or.inl ⟨by kernel_rfl, ?hy13x11⟩) (by assumption) ?hr13x11
          case hy13x11 => (intro w hSw; (try dsimp only at hSw); go_simp <;> with_reducible rfl)
          simp only [Act.put, List.setIfInBounds_toArray, List.set_cons_zero, List.set_cons_succ, List.getElem_toArray, List.getElem_cons_zero, List.getElem_cons_succ]
          refine wpAnyH_take (i := 12) (v := ?hv14x12) rfl (by kernel_rfl) (by kernel_rfl) (by kernel_rfl) (fun _ _ _ h => h) (Or.inl ⟨by kernel_rfl, ?hy14x12⟩) (by assumption) ?hr14x12
          case hy14x12 => (intro w hSw; (try dsimp only at hSw); go_simp <;> with_reducible rfl)
          simp only [Act.put, List.setIfInBounds_toArray, List.set_cons_zero, List.set_cons_succ, List.getElem_toArray, List.getElem_cons_zero, List.getElem_cons_succ]
          refine wpAnyH_take (i := 13) (v := ?hv15x13) rfl (by kernel_rfl) (by kernel_rfl) (by kernel_rfl) (fun _ _ _ h => h) (Or.inl ⟨by kernel_rfl, ?hy15x13⟩) (by assumption) ?hr15x13
          case hy15x13 => (intro w hSw; (try dsimp only at hSw); go_simp <;> with_reducible rfl)
          simp only [Act.put, List.setIfInBounds_toArray, List.set_cons_zero, List.set_cons_succ, List.getElem_toArray, List.getElem_cons_zero, List.getElem_cons_succ]
          refine wpAnyH_take (i := 14) (v := ?hv16x14) rfl (by kernel_rfl) (by kernel_rfl) (by kernel_rfl) (fun _ _ _ h => h) (Or.inl ⟨by kernel_rfl, ?hy16x14⟩) (by assumption) ?hr16x14
          case hy16x14 => (intro w hSw; (try dsimp only at hSw); go_simp <;> with_reducible rfl)
          simp only [Act.put, List.setIfInBounds_toArray, List.set_cons_zero, List.set_cons_succ, List.getElem_toArray, List.getElem_cons_zero, List.getElem_cons_succ]
          refine wpAnyH_take (i := 15) (v := ?hv17x15) rfl (by kernel_rfl) (by kernel_rfl) (by kernel_rfl) (fun _ _ _ h => h) (Or.inl ⟨by kernel_rfl, ?hy17x15⟩) (by assumption) ?hr17x15
          case hy17x15 => (intro w hSw; (try dsimp only at hSw); go_simp <;> with_reducible rfl)
          simp only [Act.put, List.setIfInBounds_toArray, List.set_cons_zero, List.set_cons_succ, List.getElem_toArray, List.getElem_cons_zero, List.getElem_cons_succ]
          refine wpAnyH_take (i := 16) (v := ?hv18x16) rfl (by kernel_rfl) (by kernel_rfl) (by kernel_rfl) (fun _ _ _ h => h) (Or.inl ⟨by kernel_rfl, ?hy18x16⟩) (by assumption) ?hr18x16
          case hy18x16 => (intro w hSw; (try dsimp only at hSw); go_simp <;> with_reducible rfl)
          simp only [Act.put, List.setIfInBounds_toArray, List.set_cons_zero, List.set_cons_succ, List.getElem_toArray, List.getElem_cons_zero, List.getElem_cons_succ]
          refine wpAnyH_take (i := 17) (v := ?hv19x17) rfl (by kernel_rfl) (by kernel_rfl) (by kernel_rfl) (fun _ _ _ h => h) (Or.inl ⟨by kernel_rfl, ?hy19x17⟩) (by assumption) ?hr19x17
          case hy19x17 => (intro w hSw; (try dsimp only at hSw); go_simp <;> with_reducible rfl)
          simp only [Act.put, List.setIfInBounds_toArray, List.set_cons_zero, List.set_cons_succ, List.getElem_toArray, List.getElem_cons_zero, List.getElem_cons_succ]
          refine wpAnyH_ready (rs := [18]) (by kernel_rfl) (by simp) ?_
          refine AllReadyH.cons rfl (fun K hK => ?_) AllReadyH.nil
          go_simp
          have bb : Below w1.heap.size w1 ((w1.alloc (.cells #[.int .i64 (px + gx), .int .i64 (py + gy)] 39)).drew) := nextw (alB' _ _) (by exact sm)
          have B_cc : Hid (Bx ((w1.alloc (.cells #[.int .i64 (px + gx), .int .i64 (py + gy)] 39)).drew) w1.heap.size 39 #[.int .i64 (px + gx), .int .i64 (py + gy)]) := Lib.hid (Bx.new w1 _ _)
          replace B_z0 := mv B_z0 bb
          replace L := Lib.hid (PL.below L.out bb)
          replace VR := Lib.hid (OwnP.below VR.out bb)
          replace HBS := Lib.hid (lebel HBS.out bb)
          replace HB := nx HB bb
          clear bb c0z0 c1z0 e0 e1
          generalize (w1.alloc (.cells #[.int .i64 (px + gx), .int .i64 (py + gy)] 39)).drew = wq at *
          have c0z0 : wq.cell? ⟨w.heap.size, 0, none⟩ = some (.int .i64 gx) := B_z0.out.cell 0 rfl
          have c1z0 : wq.cell? ⟨w.heap.size, 1, none⟩ = some (.int .i64 gy) := B_z0.out.cell 1 rfl
          have e0 : wq.cell? ⟨g, o + k * 2, none⟩ = some (.int .i64 px) := (PL.elemAt L.out HLT.out HPE.out).1
          have e1 : wq.cell? ⟨g, o + k * 2 + 1, none⟩ = some (.int .i64 py) := (PL.elemAt L.out HLT.out HPE.out).2
          refine hK.out _ _ ?_ (fun hH1 => ?_)
          · ((try dsimp only); (repeat' apply And.intro) <;> (first | (with_reducible assumption) | ((repeat (first | (with_reducible refine Eq.trans (cell_drew1 _ _) ?_) | (with_reducible refine Eq.trans (cell_far (by omega) _ _ _) ?_) | (with_reducible refine Eq.trans (World.cell?_alloc_lt _ _ _ (by first | (dsimp only; omega) | (simp only [World.size_alloc, World.size_setCell]; omega))) ?_))); with_reducible assumption) | assumption | go_keep))
          clear hK K hH0
          try simp only [Act.put, List.setIfInBounds_toArray, List.set_cons_zero, List.set_cons_succ, List.getElem_toArray, List.getElem_cons_zero, List.getElem_cons_succ]
          obtain ⟨v5, w5, hr5, ho5, hb5⟩ := run_app_pl wq 22 VR.out (pl_1 B_cc.out) (by omega) (by omega) HBS.out
          have nz := Lib.hid (Bx.below B_z0.out hb5 LT_z0.out)
          have nHB := Lib.hid (HB.out.trans (hb5.mono HW.out))
          have nL := Lib.hid (PL.belowB L.out hb5 TL_L.out)
          have nHBS : Hid (base ≤ w5.heap.size) := Nat.le_trans HBS.out hb5.size
          have VR5 := Lib.hid ho5
          clear ho5 hb5
          refine wpAnyH_ready (rs := [19]) (by kernel_rfl) (by simp) ?_
          refine AllReadyH.cons rfl (fun K hK => ?_) AllReadyH.nil
          refine step_app_run rfl _ _ rfl rfl rfl hr5 ?_
          clear hr5 B_z0 B_cc HB L HBS VR c0z0 c1z0 e0 e1
          have B_z0 := nz
          have HB := nHB
          have L := nL
          have HBS := nHBS
          clear nz nHB nL nHBS
          have c0z0 : w5.cell? ⟨w.heap.size, 0, none⟩ = some (.int .i64 gx) := B_z0.out.cell 0 rfl
          have c1z0 : w5.cell? ⟨w.heap.size, 1, none⟩ = some (.int .i64 gy) := B_z0.out.cell 1 rfl
          have e0 : w5.cell? ⟨g, o + k * 2, none⟩ = some (.int .i64 px) := (PL.elemAt L.out HLT.out HPE.out).1
          have e1 : w5.cell? ⟨g, o + k * 2 + 1, none⟩ = some (.int .i64 py) := (PL.elemAt L.out HLT.out HPE.out).2
          refine hK.out _ _ ?_ (fun hH2 => ?_)
          · ((try dsimp only); (repeat' apply And.intro) <;> (first | (with_reducible assumption) | ((repeat (first | (with_reducible refine Eq.trans (cell_drew1 _ _) ?_) | (with_reducible refine Eq.trans (cell_far (by omega) _ _ _) ?_) | (with_reducible refine Eq.trans (World.cell?_alloc_lt _ _ _ (by first | (dsimp only; omega) | (simp only [World.size_alloc, World.size_setCell]; omega))) ?_))); with_reducible assumption) | assumption | go_keep))
          clear hK K hH1
          try simp only [Act.put, List.setIfInBounds_toArray, List.set_cons_zero, List.set_cons_succ, List.getElem_toArray, List.getElem_cons_zero, List.getElem_cons_succ]
          refine wpAnyH_take (i := 20) (v := ?hv20x20) rfl (by kernel_rfl) (by kernel_rfl) (by kernel_rfl) (fun _ _ _ h => h) (Or.inl ⟨by kernel_rfl, ?hy20x20⟩) (by assumption) ?hr20x20
          case hy20x20 => (intro w hSw; (try dsimp only at hSw); go_simp <;> with_reducible rfl)
          simp only [Act.put, List.setIfInBounds_toArray, List.set_cons_zero, List.set_cons_succ, List.getElem_toArray, List.getElem_cons_zero, List.getElem_cons_succ]
          refine wpAnyH_done (by kernel_rfl) ?_ _
          clear hH2
          clear e0 e1 c0z0 c1z0
          have VRn : Hid (OwnP w5 base v5 (putS (gx, gy) l (k + 1)).1) := by rw [HPS.out]; exact VR5.out
          have HD1 : Hid ((putS (gx, gy) l (k + 1)).2 = true) := by unfold Hid; rw [HPS.out]
          skip
          all_goals go_wp2_with fail
          go_roundw
          case rel => exact ⟨k + 1, by omega, by go_num, by rw [HD1.out], VRn, HBS, L, B_z0, HB⟩
          case measure => simp only [intOf]; omega
        · skip
          have hd0 : (d == 0) = false := by simpa using hz
          rw [if_neg hz] at HPS
          clear hz
          by_cases hp : 0 < d
          · skip
            cases dl
            · skip
              rw [if_pos ⟨hp, rfl⟩] at HPS
              have od1 : decide (0 < d) = true := decide_eq_true hp
              clear hp
              go_upto_region 10 with (fail)
              obtain ⟨c0z0, c1z0⟩ := cells2 B_z0
              have e0 : wr.cell? ⟨g, o + k * 2, none⟩ = some (.int .i64 px) := (PL.elemAt L.out HLT.out HPE.out).1
              have e1 : wr.cell? ⟨g, o + k * 2 + 1, none⟩ = some (.int .i64 py) := (PL.elemAt L.out HLT.out HPE.out).2
              have tk2x0 : True := trivial
              go_region_held3 (fun w' => w'.cell? ⟨g, o + k * 2, none⟩ = some (.int .i64 px) ∧ w'.cell? ⟨g, o + k * 2 + 1, none⟩ = some (.int .i64 py) ∧ w'.cell? ⟨w.heap.size, 0, none⟩ = some (.int .i64 gx) ∧ w'.cell? ⟨w.heap.size, 1, none⟩ = some (.int .i64 gy)) (((try dsimp only); (repeat' apply And.intro) <;> (first | (with_reducible assumption) | ((repeat (first | (with_reducible refine Eq.trans (cell_drew1 _ _) ?_) | (with_reducible refine Eq.trans (cell_far (by omega) _ _ _) ?_) | (with_reducible refine Eq.trans (World.cell?_alloc_lt _ _ _ (by first | (dsimp only; omega) | (simp only [World.size_alloc, World.size_setCell]; omega))) ?_))); with_reducible assumption) | assumption | go_keep)))
    (first
      | (clear tk2x0; go_at_call 54; refine (HD.out _).mono ?_; rintro e w21 ⟨rfl, bb⟩; replace bb := nextw (w0 := wr) (by exact sm) bb; replace B_z0 := mv B_z0 bb; replace L := Lib.hid (PL.below L.out bb); replace VR := Lib.hid (OwnP.below VR.out bb); replace HBS := Lib.hid (lebel HBS.out bb); replace HB := nx HB bb; clear bb c0z0 c1z0 e0 e1; have e0 : w21.cell? ⟨g, o + k * 2, none⟩ = some (.int .i64 px) := (PL.elemAt L.out HLT.out HPE.out).1; have e1 : w21.cell? ⟨g, o + k * 2 + 1, none⟩ = some (.int .i64 py) := (PL.elemAt L.out HLT.out HPE.out).2; have c0z0 : w21.cell? ⟨w.heap.size, 0, none⟩ = some (.int .i64 gx) := B_z0.out.cell 0 rfl; have c1z0 : w21.cell? ⟨w.heap.size, 1, none⟩ = some (.int .i64 gy) := B_z0.out.cell 1 rfl; have tk2x1 : True := trivial))
              clear c0z0 c1z0 e0 e1
              go_upto_region 15 with (fail)
              obtain ⟨c0z0, c1z0⟩ := cells2 B_z0
              have HG := Lib.hid (fun wzz (hg : (w21.alloc (.cells #[.int .i64 gx, .int .i64 gy] 39)).grownBy wzz (Value.ownBlock u5)) => grown_below VR.out HBS.out hg)
              go_upto_region 17 with (at_builtin; refine wpList_append_own _ rfl _ _ 22 rfl base 39 i0 (.agg #[.int .i64 0, .int .i64 0]) 2 16 Try.underlying22 HI.out hz0 hz1 hz2 rfl (by decide) u5 (ol).length (pts (ol)) rfl (VR.out.alloc _) ⟨w21.heap.size, 0, none⟩ 1 1 (pts [(gx, gy)]) rfl rfl (new_pt w21 _ _) (pts_one _) (by simp only [maxLen]; omega) (by omega) (by have := HBS.out; simp; omega) ?_; intro va22 wa22 hown3 hgrow3 hnil3; have HX3 := Lib.hid hown3; have HY3 := Lib.hid (HG.out _ hgrow3); clear hown3 hgrow3 hnil3)
              have VRn : Hid (OwnP wa22 base va22 (ol ++ [(gx, gy)])) := by have h := HX3.out; rw [pts_append] at h; unfold Hid OwnP; rw [List.length_append]; exact h
              replace B_z0 := Lib.hid (Bx.below B_z0.out HY3.out LT_z0.out)
              replace L := Lib.hid (PL.belowB L.out HY3.out TL_L.out)
              replace HB := Lib.hid (HB.out.trans (HY3.out.mono HW.out))
              replace HBS := Lib.hid (Nat.le_trans HBS.out HY3.out.size)
              clear HX3 HY3 HG
              clear c0z0 c1z0
              clear VR
              have hol2 : (ol ++ [(gx, gy)]).length ≤ 2001 := by simp; omega
              generalize ol ++ [(gx, gy)] = ol2 at *
              have e0 : wa22.cell? ⟨g, o + k * 2, none⟩ = some (.int .i64 px) := (PL.elemAt L.out HLT.out HPE.out).1
              have e1 : wa22.cell? ⟨g, o + k * 2 + 1, none⟩ = some (.int .i64 py) := (PL.elemAt L.out HLT.out HPE.out).2
              have HG := Lib.hid (fun wzz (hg : (wa22.alloc (.cells #[.int .i64 px, .int .i64 py] 39)).grownBy wzz (Value.ownBlock va22)) => grown_below VRn.out HBS.out hg)
              go_wp2_with (at_builtin; refine wpList_append_own _ rfl _ _ 22 rfl base 39 i0 (.agg #[.int .i64 0, .int .i64 0]) 2 16 Try.underlying22 HI.out hz0 hz1 hz2 rfl (by decide) va22 (ol2).length (pts (ol2)) rfl (VRn.out.alloc _) ⟨wa22.heap.size, 0, none⟩ 1 1 (pts [(px, py)]) rfl rfl (new_pt wa22 _ _) (pts_one _) (by simp only [maxLen]; omega) (by omega) (by have := HBS.out; simp; omega) ?_; intro va23 wa23 hown3 hgrow3 hnil3; have HX3 := Lib.hid hown3; have HY3 := Lib.hid (HG.out _ hgrow3); clear hown3 hgrow3 hnil3)
              have VRm : Hid (OwnP wa23 base va23 (ol2 ++ [(px, py)])) := by have h := HX3.out; rw [pts_append] at h; unfold Hid OwnP; rw [List.length_append]; exact h
              replace B_z0 := Lib.hid (Bx.below B_z0.out HY3.out LT_z0.out)
              replace L := Lib.hid (PL.belowB L.out HY3.out TL_L.out)
              replace HB := Lib.hid (HB.out.trans (HY3.out.mono HW.out))
              replace HBS := Lib.hid (Nat.le_trans HBS.out HY3.out.size)
              clear HX3 HY3 HG
              have VRk : Hid (OwnP wa23 base va23 (putS (gx, gy) l (k + 1)).1) := by rw [HPS.out]; exact VRm.out
              have HD1 : Hid ((putS (gx, gy) l (k + 1)).2 = true) := by unfold Hid; rw [HPS.out]
              all_goals go_wp2_with fail
              clear e0 e1
              go_roundw
              case rel => exact ⟨k + 1, by omega, by go_num, by rw [HD1.out], VRk, HBS, L, B_z0, HB⟩
              case measure => simp only [intOf]; omega
            · skip
              rw [if_neg (by simp)] at HPS
              have od1 : decide (0 < d) = true := decide_eq_true hp
              clear hp
              go_upto_region 10 with (fail)
              obtain ⟨c0z0, c1z0⟩ := cells2 B_z0
              have e0 : wr.cell? ⟨g, o + k * 2, none⟩ = some (.int .i64 px) := (PL.elemAt L.out HLT.out HPE.out).1
              have e1 : wr.cell? ⟨g, o + k * 2 + 1, none⟩ = some (.int .i64 py) := (PL.elemAt L.out HLT.out HPE.out).2
              have tk3x0 : True := trivial
              go_region_held3 (fun w' => w'.cell? ⟨g, o + k * 2, none⟩ = some (.int .i64 px) ∧ w'.cell? ⟨g, o + k * 2 + 1, none⟩ = some (.int .i64 py) ∧ w'.cell? ⟨w.heap.size, 0, none⟩ = some (.int .i64 gx) ∧ w'.cell? ⟨w.heap.size, 1, none⟩ = some (.int .i64 gy)) (((try dsimp only); (repeat' apply And.intro) <;> (first | (with_reducible assumption) | ((repeat (first | (with_reducible refine Eq.trans (cell_drew1 _ _) ?_) | (with_reducible refine Eq.trans (cell_far (by omega) _ _ _) ?_) | (with_reducible refine Eq.trans (World.cell?_alloc_lt _ _ _ (by first | (dsimp only; omega) | (simp only [World.size_alloc, World.size_setCell]; omega))) ?_))); with_reducible assumption) | assumption | go_keep)))
    (first
      | (clear tk3x0; go_at_call 54; refine (HD.out _).mono ?_; rintro e w24 ⟨rfl, bb⟩; replace bb := nextw (w0 := wr) (by exact sm) bb; replace B_z0 := mv B_z0 bb; replace L := Lib.hid (PL.below L.out bb); replace VR := Lib.hid (OwnP.below VR.out bb); replace HBS := Lib.hid (lebel HBS.out bb); replace HB := nx HB bb; clear bb c0z0 c1z0 e0 e1; have e0 : w24.cell? ⟨g, o + k * 2, none⟩ = some (.int .i64 px) := (PL.elemAt L.out HLT.out HPE.out).1; have e1 : w24.cell? ⟨g, o + k * 2 + 1, none⟩ = some (.int .i64 py) := (PL.elemAt L.out HLT.out HPE.out).2; have c0z0 : w24.cell? ⟨w.heap.size, 0, none⟩ = some (.int .i64 gx) := B_z0.out.cell 0 rfl; have c1z0 : w24.cell? ⟨w.heap.size, 1, none⟩ = some (.int .i64 gy) := B_z0.out.cell 1 rfl; have tk3x1 : True := trivial))
              clear c0z0 c1z0 e0 e1
              go_upto_region 17 with (fail)
              have e0 : w24.cell? ⟨g, o + k * 2, none⟩ = some (.int .i64 px) := (PL.elemAt L.out HLT.out HPE.out).1
              have e1 : w24.cell? ⟨g, o + k * 2 + 1, none⟩ = some (.int .i64 py) := (PL.elemAt L.out HLT.out HPE.out).2
              have HG := Lib.hid (fun wzz (hg : (w24.alloc (.cells #[.int .i64 px, .int .i64 py] 39)).grownBy wzz (Value.ownBlock u5)) => grown_below VR.out HBS.out hg)
              go_wp2_with (at_builtin; refine wpList_append_own _ rfl _ _ 22 rfl base 39 i0 (.agg #[.int .i64 0, .int .i64 0]) 2 16 Try.underlying22 HI.out hz0 hz1 hz2 rfl (by decide) u5 (ol).length (pts (ol)) rfl (VR.out.alloc _) ⟨w24.heap.size, 0, none⟩ 1 1 (pts [(px, py)]) rfl rfl (new_pt w24 _ _) (pts_one _) (by simp only [maxLen]; omega) (by omega) (by have := HBS.out; simp; omega) ?_; intro va25 wa25 hown3 hgrow3 hnil3; have HX3 := Lib.hid hown3; have HY3 := Lib.hid (HG.out _ hgrow3); clear hown3 hgrow3 hnil3)
              have VRm : Hid (OwnP wa25 base va25 (ol ++ [(px, py)])) := by have h := HX3.out; rw [pts_append] at h; unfold Hid OwnP; rw [List.length_append]; exact h
              replace B_z0 := Lib.hid (Bx.below B_z0.out HY3.out LT_z0.out)
              replace L := Lib.hid (PL.belowB L.out HY3.out TL_L.out)
              replace HB := Lib.hid (HB.out.trans (HY3.out.mono HW.out))
              replace HBS := Lib.hid (Nat.le_trans HBS.out HY3.out.size)
              clear HX3 HY3 HG
              have VRk : Hid (OwnP wa25 base va25 (putS (gx, gy) l (k + 1)).1) := by rw [HPS.out]; exact VRm.out
              have HD1 : Hid ((putS (gx, gy) l (k + 1)).2 = true) := by unfold Hid; rw [HPS.out]
              all_goals go_wp2_with fail
              clear e0 e1
              go_roundw
              case rel => exact ⟨k + 1, by omega, by go_num, by rw [HD1.out], VRk, HBS, L, B_z0, HB⟩
              case measure => simp only [intOf]; omega
          · skip
            rw [if_neg (fun h => hp h.1)] at HPS
            have od1 : decide (0 < d) = false := decide_eq_false hp
            clear hp
            go_upto_region 10 with (fail)
            obtain ⟨c0z0, c1z0⟩ := cells2 B_z0
            have e0 : wr.cell? ⟨g, o + k * 2, none⟩ = some (.int .i64 px) := (PL.elemAt L.out HLT.out HPE.out).1
            have e1 : wr.cell? ⟨g, o + k * 2 + 1, none⟩ = some (.int .i64 py) := (PL.elemAt L.out HLT.out HPE.out).2
            have tk4x0 : True := trivial
            go_region_held3 (fun w' => w'.cell? ⟨g, o + k * 2, none⟩ = some (.int .i64 px) ∧ w'.cell? ⟨g, o + k * 2 + 1, none⟩ = some (.int .i64 py) ∧ w'.cell? ⟨w.heap.size, 0, none⟩ = some (.int .i64 gx) ∧ w'.cell? ⟨w.heap.size, 1, none⟩ = some (.int .i64 gy)) (((try dsimp only); (repeat' apply And.intro) <;> (first | (with_reducible assumption) | ((repeat (first | (with_reducible refine Eq.trans (cell_drew1 _ _) ?_) | (with_reducible refine Eq.trans (cell_far (by omega) _ _ _) ?_) | (with_reducible refine Eq.trans (World.cell?_alloc_lt _ _ _ (by first | (dsimp only; omega) | (simp only [World.size_alloc, World.size_setCell]; omega))) ?_))); with_reducible assumption) | assumption | go_keep)))
    (first
      | (clear tk4x0; go_at_call 54; refine (HD.out _).mono ?_; rintro e w26 ⟨rfl, bb⟩; replace bb := nextw (w0 := wr) (by exact sm) bb; replace B_z0 := mv B_z0 bb; replace L := Lib.hid (PL.below L.out bb); replace VR := Lib.hid (OwnP.below VR.out bb); replace HBS := Lib.hid (lebel HBS.out bb); replace HB := nx HB bb; clear bb c0z0 c1z0 e0 e1; have e0 : w26.cell? ⟨g, o + k * 2, none⟩ = some (.int .i64 px) := (PL.elemAt L.out HLT.out HPE.out).1; have e1 : w26.cell? ⟨g, o + k * 2 + 1, none⟩ = some (.int .i64 py) := (PL.elemAt L.out HLT.out HPE.out).2; have c0z0 : w26.cell? ⟨w.heap.size, 0, none⟩ = some (.int .i64 gx) := B_z0.out.cell 0 rfl; have c1z0 : w26.cell? ⟨w.heap.size, 1, none⟩ = some (.int .i64 gy) := B_z0.out.cell 1 rfl; have tk4x1 : True := trivial))
            clear c0z0 c1z0 e0 e1
            go_upto_region 17 with (fail)
            have e0 : w26.cell? ⟨g, o + k * 2, none⟩ = some (.int .i64 px) := (PL.elemAt L.out HLT.out HPE.out).1
            have e1 : w26.cell? ⟨g, o + k * 2 + 1, none⟩ = some (.int .i64 py) := (PL.elemAt L.out HLT.out HPE.out).2
            have HG := Lib.hid (fun wzz (hg : (w26.alloc (.cells #[.int .i64 px, .int .i64 py] 39)).grownBy wzz (Value.ownBlock u5)) => grown_below VR.out HBS.out hg)
            go_wp2_with (at_builtin; refine wpList_append_own _ rfl _ _ 22 rfl base 39 i0 (.agg #[.int .i64 0, .int .i64 0]) 2 16 Try.underlying22 HI.out hz0 hz1 hz2 rfl (by decide) u5 (ol).length (pts (ol)) rfl (VR.out.alloc _) ⟨w26.heap.size, 0, none⟩ 1 1 (pts [(px, py)]) rfl rfl (new_pt w26 _ _) (pts_one _) (by simp only [maxLen]; omega) (by omega) (by have := HBS.out; simp; omega) ?_; intro va27 wa27 hown3 hgrow3 hnil3; have HX3 := Lib.hid hown3; have HY3 := Lib.hid (HG.out _ hgrow3); clear hown3 hgrow3 hnil3)
            have VRm : Hid (OwnP wa27 base va27 (ol ++ [(px, py)])) := by have h := HX3.out; rw [pts_append] at h; unfold Hid OwnP; rw [List.length_append]; exact h
            replace B_z0 := Lib.hid (Bx.below B_z0.out HY3.out LT_z0.out)
            replace L := Lib.hid (PL.belowB L.out HY3.out TL_L.out)
            replace HB := Lib.hid (HB.out.trans (HY3.out.mono HW.out))
            replace HBS := Lib.hid (Nat.le_trans HBS.out HY3.out.size)
            clear HX3 HY3 HG
            have VRk : Hid (OwnP wa27 base va27 (putS (gx, gy) l (k + 1)).1) := by rw [HPS.out]; exact VRm.out
            have HD1 : Hid ((putS (gx, gy) l (k + 1)).2 = dl) := by unfold Hid; rw [HPS.out]
            all_goals go_wp2_with fail
            clear e0 e1
            go_roundw
            case rel => exact ⟨k + 1, by omega, by go_num, by rw [HD1.out], VRk, HBS, L, B_z0, HB⟩
            case measure => simp only [intOf]; omega
      · skip
        obtain rfl : k = n := by omega
        have hlen := L.out.len
        have hq := putS_putD (gx, gy) l k (by omega)
        rw [List.drop_of_length_le (by omega)] at hq
        have hln := putS_len (gx, gy) l k
        generalize putS (gx, gy) l k = st at *
        obtain ⟨ol, dl⟩ := st
        dsimp only at VR hq hln
        have hol : ol.length ≤ 900 := by omega
        clear hlen hln
        cases dl
        · skip
          have HQ : Hid (putD (gx, gy) false l = ol ++ [(gx, gy)]) := by unfold Hid; rw [hq]; simp [putD]
          clear hq
          go_upto_region 19 with (fail)
          obtain ⟨c0z0, c1z0⟩ := cells2 B_z0
          have HG := Lib.hid (fun wzz (hg : (wr.alloc (.cells #[.int .i64 gx, .int .i64 gy] 39)).grownBy wzz (Value.ownBlock u5)) => grown_below VR.out HBS.out hg)
          go_upto_region 20 with (at_builtin; refine wpList_append_own _ rfl _ _ 22 rfl base 39 i0 (.agg #[.int .i64 0, .int .i64 0]) 2 16 Try.underlying22 HI.out hz0 hz1 hz2 rfl (by decide) u5 (ol).length (pts (ol)) rfl (VR.out.alloc _) ⟨wr.heap.size, 0, none⟩ 1 1 (pts [(gx, gy)]) rfl rfl (new_pt wr _ _) (pts_one _) (by simp only [maxLen]; omega) (by omega) (by have := HBS.out; simp; omega) ?_; intro va28 wa28 hown3 hgrow3 hnil3; have HX3 := Lib.hid hown3; have HY3 := Lib.hid (HG.out _ hgrow3); clear hown3 hgrow3 hnil3)
          have VRn : Hid (OwnP wa28 base va28 (ol ++ [(gx, gy)])) := by have h := HX3.out; rw [pts_append] at h; unfold Hid OwnP; rw [List.length_append]; exact h
          replace B_z0 := Lib.hid (Bx.below B_z0.out HY3.out LT_z0.out)
          replace L := Lib.hid (PL.belowB L.out HY3.out TL_L.out)
          replace HB := Lib.hid (HB.out.trans (HY3.out.mono HW.out))
          replace HBS := Lib.hid (Nat.le_trans HBS.out HY3.out.size)
          clear HX3 HY3 HG
          clear c0z0 c1z0 VR
          obtain ⟨A5, c5, e5, p5, -⟩ := VRn.out.pl
          subst e5
          have P5 := Lib.hid p5
          clear p5 VRn
          have HE : Hid ((ol ++ [(gx, gy)]).length = (putD (gx, gy) false l).length) := by unfold Hid; rw [HQ.out]
          generalize (ol ++ [(gx, gy)]) = fl at *
          go_wp2
          go_ret
          exact ⟨A5, c5, congrArg (fun t => Ending.returned (.slice A5 t c5)) HE.out, by rw [HQ.out]; exact PL.outw P5.out HW.out, HB.out⟩
        · skip
          have HQ : Hid (putD (gx, gy) false l = ol) := by unfold Hid; rw [hq]; simp [putD]
          clear hq
          obtain ⟨A5, c5, e5, p5, -⟩ := VR.out.pl
          subst e5
          have P5 := Lib.hid p5
          clear p5 VR
          have HE : Hid (ol.length = (putD (gx, gy) false l).length) := by unfold Hid; rw [HQ.out]
          skip
          go_wp2
          go_ret
          exact ⟨A5, c5, congrArg (fun t => Ending.returned (.slice A5 t c5)) HE.out, by rw [HQ.out]; exact PL.outw P5.out HW.out, HB.out⟩

set_option maxRecDepth 100000 in
set_option maxHeartbeats 4000000 in
theorem put_z (gx : Int) (A : Option Addr) (n c : Nat) (l : List P2) (hn : n ≤ 400) (hl : ∀ p ∈ l, Bd 16777216 p) (hg : Bd 16777216 (gx, 0)) (hy : 0 < gx) (w : World) {lo_L hi_L : Nat} (L : PL w lo_L hi_L A n c l) :
    Calls Try.prog 75 #[.slice A n c, .agg #[.int .i64 gx, .int .i64 0]] w fun e w' => ∃ A' c', e = .returned (.slice A' (putD (gx, 0) false l).length c') ∧ PL w' w.heap.size w'.heap.size A' (putD (gx, 0) false l).length c' (putD (gx, 0) false l) ∧ Below w.heap.size w w' := by
  have HH := Lib.hid hl
  have HUB := Lib.hid hg
  have hq2 := hg.2
  have hq1 := hg.1
  obtain ⟨b1, b2⟩ := hq2
  obtain ⟨a1, a2⟩ := hq1
  dsimp only at a1 a2 b1 b2
  obtain ⟨i0, hi0, hz0, hz1, hz2⟩ := info_parts info2
  have HI := Lib.hid hi0
  clear hi0
  clear hl hg
  have hiL : Hid (hi_L ≤ w.heap.size) := L.top
  replace L := Lib.hid L
  obtain ⟨HB, B_z0⟩ := box1 w 39 #[.int .i64 gx, .int .i64 0]
  replace L := plm L HB.out
  go_enter Try.func75, Try.ntmps75
  go_upto_region 1 with (fail)
  generalize w.alloc (.cells #[.int .i64 gx, .int .i64 0] 39) = W0 at *
  have od0 : decide (gx < 0) = false := decide_eq_false (by omega)
  have od1 : (gx == 0) = false := by simp; omega
  obtain ⟨c0z0, c1z0⟩ := cells2 B_z0
  go_upto_region 3 with (fail)
  clear c0z0 c1z0
  obtain ⟨c0z0, c1z0⟩ := cells2 B_z0
  go_wp2_with fail
  clear c0z0 c1z0
  obtain ⟨base, hbase⟩ : ∃ base, base = W0.heap.size := ⟨_, rfl⟩
  have HBS : Hid (base ≤ W0.heap.size) := by unfold Hid; omega
  have LT_z0 : Hid (w.heap.size < base) := by have := B_z0.out.lt; unfold Hid; omega
  have HW : Hid (w.heap.size ≤ base) := by have := HB.out.size; unfold Hid; omega
  have TL_L : Hid (hi_L ≤ base) := by have := L.out.top; unfold Hid; omega
  clear hbase
  go_loopw [5, 6, 7] (fun a0 a1 kk wx => ∃ (k : Nat), k ≤ n ∧ kk = .int .i64 k ∧ a1 = (.bool (putS (gx, 0) l k).2) ∧ Hid (OwnP wx base a0 (putS (gx, 0) l k).1) ∧ Hid (base ≤ wx.heap.size) ∧ Hid (PL wx lo_L hi_L A n c l) ∧ Hid (Bx wx (w.heap.size) 39 #[.int .i64 gx, .int .i64 0]) ∧ Hid (Below w.heap.size w wx)) (fun _ _ kk _ => n - (intOf kk).toNat)
  case atStart => exact ⟨0, by omega, rfl, rfl, Lib.hid (own_nil _ _), HBS, L, B_z0, HB⟩
  case round =>
    clear HBS L B_z0 HB
    obtain ⟨k, hk, rfl, rfl, VR, HBS, L, B_z0, HB⟩ := hrel
    by_cases hlt : k < n
    · skip
      obtain ⟨g, o, eA, hg, e0, e1⟩ := L.out.elem hlt
      have hlen := L.out.len
      have hmem : l.getD k z2 ∈ l := getD_mem (by omega)
      have HT := Lib.hid (take_snoc l z2 (k := k) (by omega))
      subst eA
      have hP := HH.out _ hmem
      have hln := putS_len (gx, 0) l k
      obtain ⟨⟨q1, q2⟩, q3, q4⟩ := hP
      obtain ⟨⟨r1, r2⟩, r3, r4⟩ := HUB.out
      dsimp only at r1 r2 r3 r4
      have HPS : Hid (putS (gx, 0) l (k + 1) = if crs (gx, 0) (l.getD k z2) = 0 then ((putS (gx, 0) l k).1 ++ [addP (l.getD k z2) (gx, 0)], true) else if 0 < crs (gx, 0) (l.getD k z2) ∧ (putS (gx, 0) l k).2 = false then ((putS (gx, 0) l k).1 ++ [(gx, 0)] ++ [l.getD k z2], true) else ((putS (gx, 0) l k).1 ++ [l.getD k z2], (putS (gx, 0) l k).2)) := rfl
      generalize hpe : l.getD k z2 = q at *
      obtain ⟨px, py⟩ := q
      have HPE := Lib.hid hpe
      dsimp only at q1 q2 q3 q4
      generalize putS (gx, 0) l k = st at *
      obtain ⟨ol, dl⟩ := st
      dsimp only at VR hln HPS
      have hol : ol.length ≤ 900 := by omega
      have HLT := Lib.hid hlt
      have w1 : Wi gx 16777216 := ⟨by omega, by omega⟩
      have w2 : Wi 0 16777216 := ⟨by omega, by omega⟩
      have w3 : Wi px 16777216 := ⟨q1, q2⟩
      have w4 : Wi py 16777216 := ⟨q3, q4⟩
      have m1 := wi_mul w1 w4
      have m2 := wi_mul w2 w3
      obtain ⟨m11, m12⟩ := m1
      obtain ⟨m21, m22⟩ := m2
      have HD := Lib.hid (fun w => Rcross_is gx 0 px py ⟨by omega, by omega⟩ ⟨by omega, by omega⟩ w)
      have HCC : Hid (crs (gx, 0) (px, py) = cr gx 0 px py) := rfl
      rw [HCC.out] at HPS
      generalize cr gx 0 px py = d at *
      clear m11 m12 m21 m22 w1 w2 w3 w4 hmem hg hlen hln hpe e0 e1 HCC
      by_cases hz : d = 0
      · skip
        subst hz
        rw [if_pos rfl] at HPS
        go_upto_region 10 with (fail)
        obtain ⟨c0z0, c1z0⟩ := cells2 B_z0
        have e0 : wr.cell? ⟨g, o + k * 2, none⟩ = some (.int .i64 px) := (PL.elemAt L.out HLT.out HPE.out).1
        have e1 : wr.cell? ⟨g, o + k * 2 + 1, none⟩ = some (.int .i64 py) := (PL.elemAt L.out HLT.out HPE.out).2
        have tk1x0 : True := trivial
        go_region_held3 (fun w' => w'.cell? ⟨g, o + k * 2, none⟩ = some (.int .i64 px) ∧ w'.cell? ⟨g, o + k * 2 + 1, none⟩ = some (.int .i64 py) ∧ w'.cell? ⟨w.heap.size, 0, none⟩ = some (.int .i64 gx) ∧ w'.cell? ⟨w.heap.size, 1, none⟩ = some (.int .i64 0)) (((try dsimp only); (repeat' apply And.intro) <;> (first | (with_reducible assumption) | ((repeat (first | (with_reducible refine Eq.trans (cell_drew1 _ _) ?_) | (with_reducible refine Eq.trans (cell_far (by omega) _ _ _) ?_) | (with_reducible refine Eq.trans (World.cell?_alloc_lt _ _ _ (by first | (dsimp only; omega) | (simp only [World.size_alloc, World.size_setCell]; omega))) ?_))); with_reducible assumption) | assumption | go_keep)))
    (first
      | (clear tk1x0; go_at_call 54; refine (HD.out _).mono ?_; rintro e w1 ⟨rfl, bb⟩; replace bb := nextw (w0 := wr) (by exact sm) bb; replace B_z0 := mv B_z0 bb; replace L := Lib.hid (PL.below L.out bb); replace VR := Lib.hid (OwnP.below VR.out bb); replace HBS := Lib.hid (lebel HBS.out bb); replace HB := nx HB bb; clear bb c0z0 c1z0 e0 e1; have e0 : w1.cell? ⟨g, o + k * 2, none⟩ = some (.int .i64 px) := (PL.elemAt L.out HLT.out HPE.out).1; have e1 : w1.cell? ⟨g, o + k * 2 + 1, none⟩ = some (.int .i64 py) := (PL.elemAt L.out HLT.out HPE.out).2; have c0z0 : w1.cell? ⟨w.heap.size, 0, none⟩ = some (.int .i64 gx) := B_z0.out.cell 0 rfl; have c1z0 : w1.cell? ⟨w.heap.size, 1, none⟩ = some (.int .i64 0) := B_z0.out.cell 1 rfl; have tk1x1 : True := trivial))
        clear c0z0 c1z0 e0 e1
        go_upto_region 12 with (fail)
        obtain ⟨c0z0, c1z0⟩ := cells2 B_z0
        have e0 : w1.cell? ⟨g, o + k * 2, none⟩ = some (.int .i64 px) := (PL.elemAt L.out HLT.out HPE.out).1
        have e1 : w1.cell? ⟨g, o + k * 2 + 1, none⟩ = some (.int .i64 py) := (PL.elemAt L.out HLT.out HPE.out).2
        have ex : IntKind.i64.wrap (px + gx) = px + gx := by rw [IntKind.wrap_i64]; omega
        have ey : IntKind.i64.wrap py = py := by rw [IntKind.wrap_i64]; omega
        have ey2 : IntKind.i64.wrap (py + 0) = py := by rw [IntKind.wrap_i64]; omega
        refine wp_region_held_drew (S := fun w' => w'.cell? ⟨g, o + k * 2, none⟩ = some (.int .i64 px) ∧ w'.cell? ⟨g, o + k * 2 + 1, none⟩ = some (.int .i64 py) ∧ w'.cell? ⟨w.heap.size, 0, none⟩ = some (.int .i64 gx) ∧ w'.cell? ⟨w.heap.size, 1, none⟩ = some (.int .i64 0)) (by kernel_rfl) ?_ (fun hH0 => ?_)
        · ((try dsimp only); (repeat' apply And.intro) <;> (first | (with_reducible assumption) | ((repeat (first | (with_reducible refine Eq.trans (cell_drew1 _ _) ?_) | (with_reducible refine Eq.trans (cell_far (by omega) _ _ _) ?_) | (with_reducible refine Eq.trans (World.cell?_alloc_lt _ _ _ (by first | (dsimp only; omega) | (simp only [World.size_alloc, World.size_setCell]; omega))) ?_))); with_reducible assumption) | assumption | go_keep))
        refine wpAnyH_take (i := 0) (v := ?hv2x0) rfl (by kernel_rfl) (by kernel_rfl) (by kernel_rfl) (fun _ _ _ h => h) (Or.inl ⟨by kernel_rfl, ?hy2x0⟩) (by assumption) ?hr2x0
        case hy2x0 => (intro w hSw; (try dsimp only at hSw); go_simp <;> with_reducible rfl)
        simp only [Act.put, List.setIfInBounds_toArray, List.set_cons_zero, List.set_cons_succ, List.getElem_toArray, List.getElem_cons_zero, List.getElem_cons_succ]
        refine wpAnyH_take (i := 1) (v := ?hv3x1) rfl (by kernel_rfl) (by kernel_rfl) (by kernel_rfl) (fun _ _ _ h => h) (Or.inl ⟨by kernel_rfl, ?hy3x1⟩) (by assumption) ?hr3x1
        case hy3x1 => (intro w hSw; (try dsimp only at hSw); go_simp <;> with_reducible rfl)
        simp only [Act.put, List.setIfInBounds_toArray, List.set_cons_zero, List.set_cons_succ, List.getElem_toArray, List.getElem_cons_zero, List.getElem_cons_succ]
        refine wpAnyH_take (i := 2) (v := ?hv4x2) rfl (by kernel_rfl) (by kernel_rfl) (by kernel_rfl) (fun _ _ _ h => h) (Or.inl ⟨by kernel_rfl, ?hy4x2⟩) (by assumption) ?hr4x2
        case hy4x2 => (intro w hSw; (try dsimp only at hSw); go_simp <;> with_reducible rfl)
        simp only [Act.put, List.setIfInBounds_toArray, List.set_cons_zero, List.set_cons_succ, List.getElem_toArray, List.getElem_cons_zero, List.getElem_cons_succ]
        refine wpAnyH_take (i := 3) (v := ?hv5x3) rfl (by kernel_rfl) (by kernel_rfl) (by kernel_rfl) (fun _ _ _ h => h) (Or.inl ⟨by kernel_rfl, ?hy5x3⟩) (by assumption) ?hr5x3
        case hy5x3 => (intro w hSw; (try dsimp only at hSw); go_simp <;> with_reducible rfl)
        simp only [Act.put, List.setIfInBounds_toArray, List.set_cons_zero, List.set_cons_succ, List.getElem_toArray, List.getElem_cons_zero, List.getElem_cons_succ]
        refine wpAnyH_take (i := 4) (v := ?hv6x4) rfl (by kernel_rfl) (by kernel_rfl) (by kernel_rfl) (fun _ _ _ h => h) (Or.inl ⟨by kernel_rfl, ?hy6x4⟩) (by assumption) ?hr6x4
        case hy6x4 => (intro w hSw; (try dsimp only at hSw); go_simp <;> with_reducible rfl)
        simp only [Act.put, List.setIfInBounds_toArray, List.set_cons_zero, List.set_cons_succ, List.getElem_toArray, List.getElem_cons_zero, List.getElem_cons_succ]
        refine wpAnyH_take (i := 5) (v := ?hv7x5) rfl (by kernel_rfl) (by kernel_rfl) (by kernel_rfl) (fun _ _ _ h => h) (Or.inl ⟨by kernel_rfl, ?hy7x5⟩) (by assumption) ?hr7x5
        case hy7x5 => (intro w hSw; (try dsimp only at hSw); go_simp <;> with_reducible rfl)
        simp only [Act.put, List.setIfInBounds_toArray, List.set_cons_zero, List.set_cons_succ, List.getElem_toArray, List.getElem_cons_zero, List.getElem_cons_succ]
        refine wpAnyH_take (i := 6) (v := ?hv8x6) rfl (by kernel_rfl) (by kernel_rfl) (by kernel_rfl) (fun _ _ _ h => h) (Or.inl ⟨by kernel_rfl, ?hy8x6⟩) (by assumption) ?hr8x6
        case hy8x6 => (intro w hSw; (try dsimp only at hSw); go_simp <;> with_reducible rfl)
        simp only [Act.put, List.setIfInBounds_toArray, List.set_cons_zero, List.set_cons_succ, List.getElem_toArray, List.getElem_cons_zero, List.getElem_cons_succ]
        refine wpAnyH_take (i := 7) (v := ?hv9x7) rfl (by kernel_rfl) (by kernel_rfl) (by kernel_rfl) (fun _ _ _ h => h) (Or.inl ⟨by kernel_rfl, ?hy9x7⟩) (by assumption) ?hr9x7
        case hy9x7 => (intro w hSw; (try dsimp only at hSw); go_simp <;> with_reducible rfl)
        simp only [Act.put, List.setIfInBounds_toArray, List.set_cons_zero, List.set_cons_succ, List.getElem_toArray, List.getElem_cons_zero, List.getElem_cons_succ]
        refine wpAnyH_take (i := 8) (v := ?hv10x8) rfl (by kernel_rfl) (by kernel_rfl) (by kernel_rfl) (fun _ _ _ h => h) (Or.inl ⟨by kernel_rfl, ?hy10x8⟩) (by assumption) ?hr10x8
        case hy10x8 => (intro w hSw; (try dsimp only at hSw); go_simp <;> with_reducible rfl)
        simp only [Act.put, List.setIfInBounds_toArray, List.set_cons_zero, List.set_cons_succ, List.getElem_toArray, List.getElem_cons_zero, List.getElem_cons_succ]
        refine wpAnyH_take (i := 9) (v := ?hv11x9) rfl (by kernel_rfl) (by kernel_rfl) (by kernel_rfl) (fun _ _ _ h => h) (Or.inl ⟨by kernel_rfl, ?hy11x9⟩) (by assumption) ?hr11x9
        case hy11x9 => (intro w hSw; (try dsimp only at hSw); go_simp <;> with_reducible rfl)
        simp only [Act.put, List.setIfInBounds_toArray, List.set_cons_zero, List.set_cons_succ, List.getElem_toArray, List.getElem_cons_zero, List.getElem_cons_succ]
        refine wpAnyH_take (i := 10) (v := ?hv12x10) rfl (by kernel_rfl) (by kernel_rfl) (by kernel_rfl) (fun _ _ _ h => h) (Or.inl ⟨by kernel_rfl, ?hy12x10⟩) (by assumption) ?hr12x10
        case hy12x10 => (intro w hSw; (try dsimp only at hSw); go_simp <;> with_reducible rfl)
        simp only [Act.put, List.setIfInBounds_toArray, List.set_cons_zero, List.set_cons_succ, List.getElem_toArray, List.getElem_cons_zero, List.getElem_cons_succ]
        refine wpAnyH_take (i := 11) (v := ?hv13x11) rfl (by kernel_rfl) (by kernel_rfl) (by kernel_rfl) (fun _ _ _ h => h) (Or.inl ⟨by kernel_rfl, ?hy13x11⟩) (by assumption) ?hr13x11
        case hy13x11 => (intro w hSw; (try dsimp only at hSw); go_simp <;> with_reducible rfl)
        simp only [Act.put, List.setIfInBounds_toArray, List.set_cons_zero, List.set_cons_succ, List.getElem_toArray, List.getElem_cons_zero, List.getElem_cons_succ]
        refine wpAnyH_take (i := 12) (v := ?hv14x12) rfl (by kernel_rfl) (by kernel_rfl) (by kernel_rfl) (fun _ _ _ h => h) (Or.inl ⟨by kernel_rfl, ?hy14x12⟩) (by assumption) ?hr14x12
        case hy14x12 => (intro w hSw; (try dsimp only at hSw); go_simp <;> with_reducible rfl)
        simp only [Act.put, List.setIfInBounds_toArray, List.set_cons_zero, List.set_cons_succ, List.getElem_toArray, List.getElem_cons_zero, List.getElem_cons_succ]
        refine wpAnyH_take (i := 13) (v := ?hv15x13) rfl (by kernel_rfl) (by kernel_rfl) (by kernel_rfl) (fun _ _ _ h => h) (Or.inl ⟨by kernel_rfl, ?hy15x13⟩) (by assumption) ?hr15x13
        case hy15x13 => (intro w hSw; (try dsimp only at hSw); go_simp <;> with_reducible rfl)
        simp only [Act.put, List.setIfInBounds_toArray, List.set_cons_zero, List.set_cons_succ, List.getElem_toArray, List.getElem_cons_zero, List.getElem_cons_succ]
        refine wpAnyH_take (i := 14) (v := ?hv16x14) rfl (by kernel_rfl) (by kernel_rfl) (by kernel_rfl) (fun _ _ _ h => h) (Or.inl ⟨by kernel_rfl, ?hy16x14⟩) (by assumption) ?hr16x14
        case hy16x14 => (intro w hSw; (try dsimp only at hSw); go_simp <;> with_reducible rfl)
        simp only [Act.put, List.setIfInBounds_toArray, List.set_cons_zero, List.set_cons_succ, List.getElem_toArray, List.getElem_cons_zero, List.getElem_cons_succ]
        refine wpAnyH_take (i := 15) (v := ?hv17x15) rfl (by kernel_rfl) (by kernel_rfl) (by kernel_rfl) (fun _ _ _ h => h) (Or.inl ⟨by kernel_rfl, ?hy17x15⟩) (by assumption) ?hr17x15
        case hy17x15 => (intro w hSw; (try dsimp only at hSw); go_simp <;> with_reducible rfl)
        simp only [Act.put, List.setIfInBounds_toArray, List.set_cons_zero, List.set_cons_succ, List.getElem_toArray, List.getElem_cons_zero, List.getElem_cons_succ]
        refine wpAnyH_take (i := 16) (v := ?hv18x16) rfl (by kernel_rfl) (by kernel_rfl) (by kernel_rfl) (fun _ _ _ h => h) (Or.inl ⟨by kernel_rfl, ?hy18x16⟩) (by assumption) ?hr18x16
        case hy18x16 => (intro w hSw; (try dsimp only at hSw); go_simp <;> with_reducible rfl)
        simp only [Act.put, List.setIfInBounds_toArray, List.set_cons_zero, List.set_cons_succ, List.getElem_toArray, List.getElem_cons_zero, List.getElem_cons_succ]
        refine wpAnyH_take (i := 17) (v := ?hv19x17) rfl (by kernel_rfl) (by kernel_rfl) (by kernel_rfl) (fun _ _ _ h => h) (Or.inl ⟨by kernel_rfl, ?hy19x17⟩) (by assumption) ?hr19x17
        case hy19x17 => (intro w hSw; (try dsimp only at hSw); go_simp <;> with_reducible rfl)
        simp only [Act.put, List.setIfInBounds_toArray, List.set_cons_zero, List.set_cons_succ, List.getElem_toArray, List.getElem_cons_zero, List.getElem_cons_succ]
        refine wpAnyH_ready (rs := [18]) (by kernel_rfl) (by simp) ?_
        refine AllReadyH.cons rfl (fun K hK => ?_) AllReadyH.nil
        go_simp
        have bb : Below w1.heap.size w1 ((w1.alloc (.cells #[.int .i64 (px + gx), .int .i64 py] 39)).drew) := nextw (alB' _ _) (by exact sm)
        have B_cc : Hid (Bx ((w1.alloc (.cells #[.int .i64 (px + gx), .int .i64 py] 39)).drew) w1.heap.size 39 #[.int .i64 (px + gx), .int .i64 py]) := Lib.hid (Bx.new w1 _ _)
        replace B_z0 := mv B_z0 bb
        replace L := Lib.hid (PL.below L.out bb)
        replace VR := Lib.hid (OwnP.below VR.out bb)
        replace HBS := Lib.hid (lebel HBS.out bb)
        replace HB := nx HB bb
        clear bb c0z0 c1z0 e0 e1
        generalize (w1.alloc (.cells #[.int .i64 (px + gx), .int .i64 py] 39)).drew = wq at *
        have c0z0 : wq.cell? ⟨w.heap.size, 0, none⟩ = some (.int .i64 gx) := B_z0.out.cell 0 rfl
        have c1z0 : wq.cell? ⟨w.heap.size, 1, none⟩ = some (.int .i64 0) := B_z0.out.cell 1 rfl
        have e0 : wq.cell? ⟨g, o + k * 2, none⟩ = some (.int .i64 px) := (PL.elemAt L.out HLT.out HPE.out).1
        have e1 : wq.cell? ⟨g, o + k * 2 + 1, none⟩ = some (.int .i64 py) := (PL.elemAt L.out HLT.out HPE.out).2
        refine hK.out _ _ ?_ (fun hH1 => ?_)
        · ((try dsimp only); (repeat' apply And.intro) <;> (first | (with_reducible assumption) | ((repeat (first | (with_reducible refine Eq.trans (cell_drew1 _ _) ?_) | (with_reducible refine Eq.trans (cell_far (by omega) _ _ _) ?_) | (with_reducible refine Eq.trans (World.cell?_alloc_lt _ _ _ (by first | (dsimp only; omega) | (simp only [World.size_alloc, World.size_setCell]; omega))) ?_))); with_reducible assumption) | assumption | go_keep))
        clear hK K hH0
        try simp only [Act.put, List.setIfInBounds_toArray, List.set_cons_zero, List.set_cons_succ, List.getElem_toArray, List.getElem_cons_zero, List.getElem_cons_succ]
        obtain ⟨v5, w5, hr5, ho5, hb5⟩ := run_app_pl wq 22 VR.out (pl_1 B_cc.out) (by omega) (by omega) HBS.out
        have nz := Lib.hid (Bx.below B_z0.out hb5 LT_z0.out)
        have nHB := Lib.hid (HB.out.trans (hb5.mono HW.out))
        have nL := Lib.hid (PL.belowB L.out hb5 TL_L.out)
        have nHBS : Hid (base ≤ w5.heap.size) := Nat.le_trans HBS.out hb5.size
        have VR5 := Lib.hid ho5
        clear ho5 hb5
        refine wpAnyH_ready (rs := [19]) (by kernel_rfl) (by simp) ?_
        refine AllReadyH.cons rfl (fun K hK => ?_) AllReadyH.nil
        refine step_app_run rfl _ _ rfl rfl rfl hr5 ?_
        clear hr5 B_z0 B_cc HB L HBS VR c0z0 c1z0 e0 e1
        have B_z0 := nz
        have HB := nHB
        have L := nL
        have HBS := nHBS
        clear nz nHB nL nHBS
        have c0z0 : w5.cell? ⟨w.heap.size, 0, none⟩ = some (.int .i64 gx) := B_z0.out.cell 0 rfl
        have c1z0 : w5.cell? ⟨w.heap.size, 1, none⟩ = some (.int .i64 0) := B_z0.out.cell 1 rfl
        have e0 : w5.cell? ⟨g, o + k * 2, none⟩ = some (.int .i64 px) := (PL.elemAt L.out HLT.out HPE.out).1
        have e1 : w5.cell? ⟨g, o + k * 2 + 1, none⟩ = some (.int .i64 py) := (PL.elemAt L.out HLT.out HPE.out).2
        refine hK.out _ _ ?_ (fun hH2 => ?_)
        · ((try dsimp only); (repeat' apply And.intro) <;> (first | (with_reducible assumption) | ((repeat (first | (with_reducible refine Eq.trans (cell_drew1 _ _) ?_) | (with_reducible refine Eq.trans (cell_far (by omega) _ _ _) ?_) | (with_reducible refine Eq.trans (World.cell?_alloc_lt _ _ _ (by first | (dsimp only; omega) | (simp only [World.size_alloc, World.size_setCell]; omega))) ?_))); with_reducible assumption) | assumption | go_keep))
        clear hK K hH1
        try simp only [Act.put, List.setIfInBounds_toArray, List.set_cons_zero, List.set_cons_succ, List.getElem_toArray, List.getElem_cons_zero, List.getElem_cons_succ]
        refine wpAnyH_take (i := 20) (v := ?hv20x20) rfl (by kernel_rfl) (by kernel_rfl) (by kernel_rfl) (fun _ _ _ h => h) (Or.inl ⟨by kernel_rfl, ?hy20x20⟩) (by assumption) ?hr20x20
        case hy20x20 => (intro w hSw; (try dsimp only at hSw); go_simp <;> with_reducible rfl)
        simp only [Act.put, List.setIfInBounds_toArray, List.set_cons_zero, List.set_cons_succ, List.getElem_toArray, List.getElem_cons_zero, List.getElem_cons_succ]
        refine wpAnyH_done (by kernel_rfl) ?_ _
        clear hH2
        clear e0 e1 c0z0 c1z0
        have VRn : Hid (OwnP w5 base v5 (putS (gx, 0) l (k + 1)).1) := by rw [HPS.out]; show OwnP w5 base v5 (ol ++ [addP (px, py) (gx, 0)]); rw [show addP (px, py) (gx, 0) = (px + gx, py) from by simp [addP]]; exact VR5.out
        have HD1 : Hid ((putS (gx, 0) l (k + 1)).2 = true) := by unfold Hid; rw [HPS.out]
        skip
        all_goals go_wp2_with fail
        go_roundw
        case rel => exact ⟨k + 1, by omega, by go_num, by rw [HD1.out], VRn, HBS, L, B_z0, HB⟩
        case measure => simp only [intOf]; omega
      · skip
        have hd0 : (d == 0) = false := by simpa using hz
        rw [if_neg hz] at HPS
        clear hz
        by_cases hp : 0 < d
        · skip
          cases dl
          · skip
            rw [if_pos ⟨hp, rfl⟩] at HPS
            have od1 : decide (0 < d) = true := decide_eq_true hp
            clear hp
            go_upto_region 10 with (fail)
            obtain ⟨c0z0, c1z0⟩ := cells2 B_z0
            have e0 : wr.cell? ⟨g, o + k * 2, none⟩ = some (.int .i64 px) := (PL.elemAt L.out HLT.out HPE.out).1
            have e1 : wr.cell? ⟨g, o + k * 2 + 1, none⟩ = some (.int .i64 py) := (PL.elemAt L.out HLT.out HPE.out).2
            have tk2x0 : True := trivial
            go_region_held3 (fun w' => w'.cell? ⟨g, o + k * 2, none⟩ = some (.int .i64 px) ∧ w'.cell? ⟨g, o + k * 2 + 1, none⟩ = some (.int .i64 py) ∧ w'.cell? ⟨w.heap.size, 0, none⟩ = some (.int .i64 gx) ∧ w'.cell? ⟨w.heap.size, 1, none⟩ = some (.int .i64 0)) (((try dsimp only); (repeat' apply And.intro) <;> (first | (with_reducible assumption) | ((repeat (first | (with_reducible refine Eq.trans (cell_drew1 _ _) ?_) | (with_reducible refine Eq.trans (cell_far (by omega) _ _ _) ?_) | (with_reducible refine Eq.trans (World.cell?_alloc_lt _ _ _ (by first | (dsimp only; omega) | (simp only [World.size_alloc, World.size_setCell]; omega))) ?_))); with_reducible assumption) | assumption | go_keep)))
    (first
      | (clear tk2x0; go_at_call 54; refine (HD.out _).mono ?_; rintro e w21 ⟨rfl, bb⟩; replace bb := nextw (w0 := wr) (by exact sm) bb; replace B_z0 := mv B_z0 bb; replace L := Lib.hid (PL.below L.out bb); replace VR := Lib.hid (OwnP.below VR.out bb); replace HBS := Lib.hid (lebel HBS.out bb); replace HB := nx HB bb; clear bb c0z0 c1z0 e0 e1; have e0 : w21.cell? ⟨g, o + k * 2, none⟩ = some (.int .i64 px) := (PL.elemAt L.out HLT.out HPE.out).1; have e1 : w21.cell? ⟨g, o + k * 2 + 1, none⟩ = some (.int .i64 py) := (PL.elemAt L.out HLT.out HPE.out).2; have c0z0 : w21.cell? ⟨w.heap.size, 0, none⟩ = some (.int .i64 gx) := B_z0.out.cell 0 rfl; have c1z0 : w21.cell? ⟨w.heap.size, 1, none⟩ = some (.int .i64 0) := B_z0.out.cell 1 rfl; have tk2x1 : True := trivial))
            clear c0z0 c1z0 e0 e1
            go_upto_region 15 with (fail)
            obtain ⟨c0z0, c1z0⟩ := cells2 B_z0
            have HG := Lib.hid (fun wzz (hg : (w21.alloc (.cells #[.int .i64 gx, .int .i64 0] 39)).grownBy wzz (Value.ownBlock u5)) => grown_below VR.out HBS.out hg)
            go_upto_region 17 with (at_builtin; refine wpList_append_own _ rfl _ _ 22 rfl base 39 i0 (.agg #[.int .i64 0, .int .i64 0]) 2 16 Try.underlying22 HI.out hz0 hz1 hz2 rfl (by decide) u5 (ol).length (pts (ol)) rfl (VR.out.alloc _) ⟨w21.heap.size, 0, none⟩ 1 1 (pts [(gx, 0)]) rfl rfl (new_pt w21 _ _) (pts_one _) (by simp only [maxLen]; omega) (by omega) (by have := HBS.out; simp; omega) ?_; intro va22 wa22 hown3 hgrow3 hnil3; have HX3 := Lib.hid hown3; have HY3 := Lib.hid (HG.out _ hgrow3); clear hown3 hgrow3 hnil3)
            have VRn : Hid (OwnP wa22 base va22 (ol ++ [(gx, 0)])) := by have h := HX3.out; rw [pts_append] at h; unfold Hid OwnP; rw [List.length_append]; exact h
            replace B_z0 := Lib.hid (Bx.below B_z0.out HY3.out LT_z0.out)
            replace L := Lib.hid (PL.belowB L.out HY3.out TL_L.out)
            replace HB := Lib.hid (HB.out.trans (HY3.out.mono HW.out))
            replace HBS := Lib.hid (Nat.le_trans HBS.out HY3.out.size)
            clear HX3 HY3 HG
            clear c0z0 c1z0
            clear VR
            have hol2 : (ol ++ [(gx, 0)]).length ≤ 2001 := by simp; omega
            generalize ol ++ [(gx, 0)] = ol2 at *
            have e0 : wa22.cell? ⟨g, o + k * 2, none⟩ = some (.int .i64 px) := (PL.elemAt L.out HLT.out HPE.out).1
            have e1 : wa22.cell? ⟨g, o + k * 2 + 1, none⟩ = some (.int .i64 py) := (PL.elemAt L.out HLT.out HPE.out).2
            have HG := Lib.hid (fun wzz (hg : (wa22.alloc (.cells #[.int .i64 px, .int .i64 py] 39)).grownBy wzz (Value.ownBlock va22)) => grown_below VRn.out HBS.out hg)
            go_wp2_with (at_builtin; refine wpList_append_own _ rfl _ _ 22 rfl base 39 i0 (.agg #[.int .i64 0, .int .i64 0]) 2 16 Try.underlying22 HI.out hz0 hz1 hz2 rfl (by decide) va22 (ol2).length (pts (ol2)) rfl (VRn.out.alloc _) ⟨wa22.heap.size, 0, none⟩ 1 1 (pts [(px, py)]) rfl rfl (new_pt wa22 _ _) (pts_one _) (by simp only [maxLen]; omega) (by omega) (by have := HBS.out; simp; omega) ?_; intro va23 wa23 hown3 hgrow3 hnil3; have HX3 := Lib.hid hown3; have HY3 := Lib.hid (HG.out _ hgrow3); clear hown3 hgrow3 hnil3)
            have VRm : Hid (OwnP wa23 base va23 (ol2 ++ [(px, py)])) := by have h := HX3.out; rw [pts_append] at h; unfold Hid OwnP; rw [List.length_append]; exact h
            replace B_z0 := Lib.hid (Bx.below B_z0.out HY3.out LT_z0.out)
            replace L := Lib.hid (PL.belowB L.out HY3.out TL_L.out)
            replace HB := Lib.hid (HB.out.trans (HY3.out.mono HW.out))
            replace HBS := Lib.hid (Nat.le_trans HBS.out HY3.out.size)
            clear HX3 HY3 HG
            have VRk : Hid (OwnP wa23 base va23 (putS (gx, 0) l (k + 1)).1) := by rw [HPS.out]; exact VRm.out
            have HD1 : Hid ((putS (gx, 0) l (k + 1)).2 = true) := by unfold Hid; rw [HPS.out]
            all_goals go_wp2_with fail
            clear e0 e1
            go_roundw
            case rel => exact ⟨k + 1, by omega, by go_num, by rw [HD1.out], VRk, HBS, L, B_z0, HB⟩
            case measure => simp only [intOf]; omega
          · skip
            rw [if_neg (by simp)] at HPS
            have od1 : decide (0 < d) = true := decide_eq_true hp
            clear hp
            go_upto_region 10 with (fail)
            obtain ⟨c0z0, c1z0⟩ := cells2 B_z0
            have e0 : wr.cell? ⟨g, o + k * 2, none⟩ = some (.int .i64 px) := (PL.elemAt L.out HLT.out HPE.out).1
            have e1 : wr.cell? ⟨g, o + k * 2 + 1, none⟩ = some (.int .i64 py) := (PL.elemAt L.out HLT.out HPE.out).2
            have tk3x0 : True := trivial
            go_region_held3 (fun w' => w'.cell? ⟨g, o + k * 2, none⟩ = some (.int .i64 px) ∧ w'.cell? ⟨g, o + k * 2 + 1, none⟩ = some (.int .i64 py) ∧ w'.cell? ⟨w.heap.size, 0, none⟩ = some (.int .i64 gx) ∧ w'.cell? ⟨w.heap.size, 1, none⟩ = some (.int .i64 0)) (((try dsimp only); (repeat' apply And.intro) <;> (first | (with_reducible assumption) | ((repeat (first | (with_reducible refine Eq.trans (cell_drew1 _ _) ?_) | (with_reducible refine Eq.trans (cell_far (by omega) _ _ _) ?_) | (with_reducible refine Eq.trans (World.cell?_alloc_lt _ _ _ (by first | (dsimp only; omega) | (simp only [World.size_alloc, World.size_setCell]; omega))) ?_))); with_reducible assumption) | assumption | go_keep)))
    (first
      | (clear tk3x0; go_at_call 54; refine (HD.out _).mono ?_; rintro e w24 ⟨rfl, bb⟩; replace bb := nextw (w0 := wr) (by exact sm) bb; replace B_z0 := mv B_z0 bb; replace L := Lib.hid (PL.below L.out bb); replace VR := Lib.hid (OwnP.below VR.out bb); replace HBS := Lib.hid (lebel HBS.out bb); replace HB := nx HB bb; clear bb c0z0 c1z0 e0 e1; have e0 : w24.cell? ⟨g, o + k * 2, none⟩ = some (.int .i64 px) := (PL.elemAt L.out HLT.out HPE.out).1; have e1 : w24.cell? ⟨g, o + k * 2 + 1, none⟩ = some (.int .i64 py) := (PL.elemAt L.out HLT.out HPE.out).2; have c0z0 : w24.cell? ⟨w.heap.size, 0, none⟩ = some (.int .i64 gx) := B_z0.out.cell 0 rfl; have c1z0 : w24.cell? ⟨w.heap.size, 1, none⟩ = some (.int .i64 0) := B_z0.out.cell 1 rfl; have tk3x1 : True := trivial))
            clear c0z0 c1z0 e0 e1
            go_upto_region 17 with (fail)
            have e0 : w24.cell? ⟨g, o + k * 2, none⟩ = some (.int .i64 px) := (PL.elemAt L.out HLT.out HPE.out).1
            have e1 : w24.cell? ⟨g, o + k * 2 + 1, none⟩ = some (.int .i64 py) := (PL.elemAt L.out HLT.out HPE.out).2
            have HG := Lib.hid (fun wzz (hg : (w24.alloc (.cells #[.int .i64 px, .int .i64 py] 39)).grownBy wzz (Value.ownBlock u5)) => grown_below VR.out HBS.out hg)
            go_wp2_with (at_builtin; refine wpList_append_own _ rfl _ _ 22 rfl base 39 i0 (.agg #[.int .i64 0, .int .i64 0]) 2 16 Try.underlying22 HI.out hz0 hz1 hz2 rfl (by decide) u5 (ol).length (pts (ol)) rfl (VR.out.alloc _) ⟨w24.heap.size, 0, none⟩ 1 1 (pts [(px, py)]) rfl rfl (new_pt w24 _ _) (pts_one _) (by simp only [maxLen]; omega) (by omega) (by have := HBS.out; simp; omega) ?_; intro va25 wa25 hown3 hgrow3 hnil3; have HX3 := Lib.hid hown3; have HY3 := Lib.hid (HG.out _ hgrow3); clear hown3 hgrow3 hnil3)
            have VRm : Hid (OwnP wa25 base va25 (ol ++ [(px, py)])) := by have h := HX3.out; rw [pts_append] at h; unfold Hid OwnP; rw [List.length_append]; exact h
            replace B_z0 := Lib.hid (Bx.below B_z0.out HY3.out LT_z0.out)
            replace L := Lib.hid (PL.belowB L.out HY3.out TL_L.out)
            replace HB := Lib.hid (HB.out.trans (HY3.out.mono HW.out))
            replace HBS := Lib.hid (Nat.le_trans HBS.out HY3.out.size)
            clear HX3 HY3 HG
            have VRk : Hid (OwnP wa25 base va25 (putS (gx, 0) l (k + 1)).1) := by rw [HPS.out]; exact VRm.out
            have HD1 : Hid ((putS (gx, 0) l (k + 1)).2 = true) := by unfold Hid; rw [HPS.out]
            all_goals go_wp2_with fail
            clear e0 e1
            go_roundw
            case rel => exact ⟨k + 1, by omega, by go_num, by rw [HD1.out], VRk, HBS, L, B_z0, HB⟩
            case measure => simp only [intOf]; omega
        · skip
          rw [if_neg (fun h => hp h.1)] at HPS
          have od1 : decide (0 < d) = false := decide_eq_false hp
          clear hp
          go_upto_region 10 with (fail)
          obtain ⟨c0z0, c1z0⟩ := cells2 B_z0
          have e0 : wr.cell? ⟨g, o + k * 2, none⟩ = some (.int .i64 px) := (PL.elemAt L.out HLT.out HPE.out).1
          have e1 : wr.cell? ⟨g, o + k * 2 + 1, none⟩ = some (.int .i64 py) := (PL.elemAt L.out HLT.out HPE.out).2
          have tk4x0 : True := trivial
          go_region_held3 (fun w' => w'.cell? ⟨g, o + k * 2, none⟩ = some (.int .i64 px) ∧ w'.cell? ⟨g, o + k * 2 + 1, none⟩ = some (.int .i64 py) ∧ w'.cell? ⟨w.heap.size, 0, none⟩ = some (.int .i64 gx) ∧ w'.cell? ⟨w.heap.size, 1, none⟩ = some (.int .i64 0)) (((try dsimp only); (repeat' apply And.intro) <;> (first | (with_reducible assumption) | ((repeat (first | (with_reducible refine Eq.trans (cell_drew1 _ _) ?_) | (with_reducible refine Eq.trans (cell_far (by omega) _ _ _) ?_) | (with_reducible refine Eq.trans (World.cell?_alloc_lt _ _ _ (by first | (dsimp only; omega) | (simp only [World.size_alloc, World.size_setCell]; omega))) ?_))); with_reducible assumption) | assumption | go_keep)))
    (first
      | (clear tk4x0; go_at_call 54; refine (HD.out _).mono ?_; rintro e w26 ⟨rfl, bb⟩; replace bb := nextw (w0 := wr) (by exact sm) bb; replace B_z0 := mv B_z0 bb; replace L := Lib.hid (PL.below L.out bb); replace VR := Lib.hid (OwnP.below VR.out bb); replace HBS := Lib.hid (lebel HBS.out bb); replace HB := nx HB bb; clear bb c0z0 c1z0 e0 e1; have e0 : w26.cell? ⟨g, o + k * 2, none⟩ = some (.int .i64 px) := (PL.elemAt L.out HLT.out HPE.out).1; have e1 : w26.cell? ⟨g, o + k * 2 + 1, none⟩ = some (.int .i64 py) := (PL.elemAt L.out HLT.out HPE.out).2; have c0z0 : w26.cell? ⟨w.heap.size, 0, none⟩ = some (.int .i64 gx) := B_z0.out.cell 0 rfl; have c1z0 : w26.cell? ⟨w.heap.size, 1, none⟩ = some (.int .i64 0) := B_z0.out.cell 1 rfl; have tk4x1 : True := trivial))
          clear c0z0 c1z0 e0 e1
          go_upto_region 17 with (fail)
          have e0 : w26.cell? ⟨g, o + k * 2, none⟩ = some (.int .i64 px) := (PL.elemAt L.out HLT.out HPE.out).1
          have e1 : w26.cell? ⟨g, o + k * 2 + 1, none⟩ = some (.int .i64 py) := (PL.elemAt L.out HLT.out HPE.out).2
          have HG := Lib.hid (fun wzz (hg : (w26.alloc (.cells #[.int .i64 px, .int .i64 py] 39)).grownBy wzz (Value.ownBlock u5)) => grown_below VR.out HBS.out hg)
          go_wp2_with (at_builtin; refine wpList_append_own _ rfl _ _ 22 rfl base 39 i0 (.agg #[.int .i64 0, .int .i64 0]) 2 16 Try.underlying22 HI.out hz0 hz1 hz2 rfl (by decide) u5 (ol).length (pts (ol)) rfl (VR.out.alloc _) ⟨w26.heap.size, 0, none⟩ 1 1 (pts [(px, py)]) rfl rfl (new_pt w26 _ _) (pts_one _) (by simp only [maxLen]; omega) (by omega) (by have := HBS.out; simp; omega) ?_; intro va27 wa27 hown3 hgrow3 hnil3; have HX3 := Lib.hid hown3; have HY3 := Lib.hid (HG.out _ hgrow3); clear hown3 hgrow3 hnil3)
          have VRm : Hid (OwnP wa27 base va27 (ol ++ [(px, py)])) := by have h := HX3.out; rw [pts_append] at h; unfold Hid OwnP; rw [List.length_append]; exact h
          replace B_z0 := Lib.hid (Bx.below B_z0.out HY3.out LT_z0.out)
          replace L := Lib.hid (PL.belowB L.out HY3.out TL_L.out)
          replace HB := Lib.hid (HB.out.trans (HY3.out.mono HW.out))
          replace HBS := Lib.hid (Nat.le_trans HBS.out HY3.out.size)
          clear HX3 HY3 HG
          have VRk : Hid (OwnP wa27 base va27 (putS (gx, 0) l (k + 1)).1) := by rw [HPS.out]; exact VRm.out
          have HD1 : Hid ((putS (gx, 0) l (k + 1)).2 = dl) := by unfold Hid; rw [HPS.out]
          all_goals go_wp2_with fail
          clear e0 e1
          go_roundw
          case rel => exact ⟨k + 1, by omega, by go_num, by rw [HD1.out], VRk, HBS, L, B_z0, HB⟩
          case measure => simp only [intOf]; omega
    · skip
      obtain rfl : k = n := by omega
      have hlen := L.out.len
      have hq := putS_putD (gx, 0) l k (by omega)
      rw [List.drop_of_length_le (by omega)] at hq
      have hln := putS_len (gx, 0) l k
      generalize putS (gx, 0) l k = st at *
      obtain ⟨ol, dl⟩ := st
      dsimp only at VR hq hln
      have hol : ol.length ≤ 900 := by omega
      clear hlen hln
      cases dl
      · skip
        have HQ : Hid (putD (gx, 0) false l = ol ++ [(gx, 0)]) := by unfold Hid; rw [hq]; simp [putD]
        clear hq
        go_upto_region 19 with (fail)
        obtain ⟨c0z0, c1z0⟩ := cells2 B_z0
        have HG := Lib.hid (fun wzz (hg : (wr.alloc (.cells #[.int .i64 gx, .int .i64 0] 39)).grownBy wzz (Value.ownBlock u5)) => grown_below VR.out HBS.out hg)
        go_upto_region 20 with (at_builtin; refine wpList_append_own _ rfl _ _ 22 rfl base 39 i0 (.agg #[.int .i64 0, .int .i64 0]) 2 16 Try.underlying22 HI.out hz0 hz1 hz2 rfl (by decide) u5 (ol).length (pts (ol)) rfl (VR.out.alloc _) ⟨wr.heap.size, 0, none⟩ 1 1 (pts [(gx, 0)]) rfl rfl (new_pt wr _ _) (pts_one _) (by simp only [maxLen]; omega) (by omega) (by have := HBS.out; simp; omega) ?_; intro va28 wa28 hown3 hgrow3 hnil3; have HX3 := Lib.hid hown3; have HY3 := Lib.hid (HG.out _ hgrow3); clear hown3 hgrow3 hnil3)
        have VRn : Hid (OwnP wa28 base va28 (ol ++ [(gx, 0)])) := by have h := HX3.out; rw [pts_append] at h; unfold Hid OwnP; rw [List.length_append]; exact h
        replace B_z0 := Lib.hid (Bx.below B_z0.out HY3.out LT_z0.out)
        replace L := Lib.hid (PL.belowB L.out HY3.out TL_L.out)
        replace HB := Lib.hid (HB.out.trans (HY3.out.mono HW.out))
        replace HBS := Lib.hid (Nat.le_trans HBS.out HY3.out.size)
        clear HX3 HY3 HG
        clear c0z0 c1z0 VR
        obtain ⟨A5, c5, e5, p5, -⟩ := VRn.out.pl
        subst e5
        have P5 := Lib.hid p5
        clear p5 VRn
        have HE : Hid ((ol ++ [(gx, 0)]).length = (putD (gx, 0) false l).length) := by unfold Hid; rw [HQ.out]
        generalize (ol ++ [(gx, 0)]) = fl at *
        go_wp2
        go_ret
        exact ⟨A5, c5, congrArg (fun t => Ending.returned (.slice A5 t c5)) HE.out, by rw [HQ.out]; exact PL.outw P5.out HW.out, HB.out⟩
      · skip
        have HQ : Hid (putD (gx, 0) false l = ol) := by unfold Hid; rw [hq]; simp [putD]
        clear hq
        obtain ⟨A5, c5, e5, p5, -⟩ := VR.out.pl
        subst e5
        have P5 := Lib.hid p5
        clear p5 VR
        have HE : Hid (ol.length = (putD (gx, 0) false l).length) := by unfold Hid; rw [HQ.out]
        skip
        go_wp2
        go_ret
        exact ⟨A5, c5, congrArg (fun t => Ending.returned (.slice A5 t c5)) HE.out, by rw [HQ.out]; exact PL.outw P5.out HW.out, HB.out⟩

set_option maxRecDepth 100000 in
set_option maxHeartbeats 4000000 in
theorem put_n (gx gy : Int) (A : Option Addr) (n c : Nat) (l : List P2) (hn : n ≤ 400) (hl : ∀ p ∈ l, Bd 16777216 p) (hg : Bd 16777216 (gx, gy)) (hy : 0 < gy) (w : World) {lo_L hi_L : Nat} (L : PL w lo_L hi_L A n c l) :
    Calls Try.prog 75 #[.slice A n c, .agg #[.int .i64 (-gx), .int .i64 (-gy)]] w fun e w' => ∃ A' c', e = .returned (.slice A' (putD (gx, gy) false l).length c') ∧ PL w' w.heap.size w'.heap.size A' (putD (gx, gy) false l).length c' (putD (gx, gy) false l) ∧ Below w.heap.size w w' := by
  have HH := Lib.hid hl
  have HUB := Lib.hid hg
  have hq2 := hg.2
  have hq1 := hg.1
  obtain ⟨b1, b2⟩ := hq2
  obtain ⟨a1, a2⟩ := hq1
  dsimp only at a1 a2 b1 b2
  obtain ⟨i0, hi0, hz0, hz1, hz2⟩ := info_parts info2
  have HI := Lib.hid hi0
  clear hi0
  clear hl hg
  have hiL : Hid (hi_L ≤ w.heap.size) := L.top
  replace L := Lib.hid L
  obtain ⟨HB, B_z0⟩ := box1 w 39 #[.int .i64 (-gx), .int .i64 (-gy)]
  replace L := plm L HB.out
  go_enter Try.func75, Try.ntmps75
  go_upto_region 1 with (fail)
  generalize w.alloc (.cells #[.int .i64 (-gx), .int .i64 (-gy)] 39) = W0 at *
  have od0 : decide (-gy < 0) = true := decide_eq_true (by omega)
  have od3 : (-gy < 0) := by omega
  have od1 : (gy == 0) = false := by simp; omega
  obtain ⟨c0z0, c1z0⟩ := cells2 B_z0
  have ea : IntKind.i64.wrap (-(-gx)) = gx := by rw [IntKind.wrap_i64]; omega
  have ea2 : IntKind.i64.wrap gx = gx := by rw [IntKind.wrap_i64]; omega
  have eb : IntKind.i64.wrap (-(-gy)) = gy := by rw [IntKind.wrap_i64]; omega
  have eb2 : IntKind.i64.wrap gy = gy := by rw [IntKind.wrap_i64]; omega
  have hisz : hi_L ≤ w.heap.size := hiL.out
  obtain ⟨f0z0, f1z0⟩ := froz2 B_z0
  have n_z0 : Hid (Bx ((W0.setCell ⟨w.heap.size, 0, none⟩ (.int .i64 gx)).setCell ⟨w.heap.size, 1, none⟩ (.int .i64 gy)) (w.heap.size) 39 #[.int .i64 gx, .int .i64 gy]) := (B_z0.out.set 0 (.int .i64 gx)).set 1 (.int .i64 gy)
  have nHB := stb2 HB (y := w.heap.size) (by omega) 0 (.int .i64 gx) 1 (.int .i64 gy)
  have n_L := Lib.hid (PL.set (PL.set L.out (Or.inr hiL.out) 0 (.int .i64 gx)) (Or.inr hiL.out) 1 (.int .i64 gy))
  go_upto_region 3 with (fail)
  clear c0z0 c1z0 f0z0 f1z0
  generalize (W0.setCell ⟨w.heap.size, 0, none⟩ (.int .i64 gx)).setCell ⟨w.heap.size, 1, none⟩ (.int .i64 gy) = WS at *
  clear B_z0
  have B_z0 := n_z0
  clear n_z0
  clear L
  have L := n_L
  clear n_L
  clear HB
  have HB := nHB
  clear nHB
  go_cut [36] (fun s0 wx => s0 = .bool false ∧ Hid (Bx wx (w.heap.size) 39 #[.int .i64 gx, .int .i64 gy]) ∧ Hid (PL wx lo_L hi_L A n c l) ∧ Hid (Below w.heap.size w wx))
  case first =>
    by_cases hx0 : gx = 0
    · skip
      subst hx0
      obtain ⟨c0z0, c1z0⟩ := cells2 B_z0
      all_goals go_wp2_with fail
      clear c0z0 c1z0
      all_goals go_meet
      exact ⟨rfl, mv B_z0 sm, plm L sm, nx HB sm⟩
    · skip
      have hxb : (gx == 0) = false := by simpa using hx0
      obtain ⟨c0z0, c1z0⟩ := cells2 B_z0
      all_goals go_wp2_with fail
      clear c0z0 c1z0
      all_goals go_meet
      exact ⟨rfl, mv B_z0 sm, plm L sm, nx HB sm⟩
  case rest =>
    clear B_z0 HB L
    rename World => wc
    obtain ⟨rfl, B_z0, L, HB⟩ := hcut
    obtain ⟨c0z0, c1z0⟩ := cells2 B_z0
    go_wp2_with fail
    clear c0z0 c1z0
    obtain ⟨base, hbase⟩ : ∃ base, base = wc.heap.size := ⟨_, rfl⟩
    have HBS : Hid (base ≤ wc.heap.size) := by unfold Hid; omega
    have LT_z0 : Hid (w.heap.size < base) := by have := B_z0.out.lt; unfold Hid; omega
    have HW : Hid (w.heap.size ≤ base) := by have := HB.out.size; unfold Hid; omega
    have TL_L : Hid (hi_L ≤ base) := by have := L.out.top; unfold Hid; omega
    clear hbase
    go_loopw [5, 6, 7] (fun a0 a1 kk wx => ∃ (k : Nat), k ≤ n ∧ kk = .int .i64 k ∧ a1 = (.bool (putS (gx, gy) l k).2) ∧ Hid (OwnP wx base a0 (putS (gx, gy) l k).1) ∧ Hid (base ≤ wx.heap.size) ∧ Hid (PL wx lo_L hi_L A n c l) ∧ Hid (Bx wx (w.heap.size) 39 #[.int .i64 gx, .int .i64 gy]) ∧ Hid (Below w.heap.size w wx)) (fun _ _ kk _ => n - (intOf kk).toNat)
    case atStart => exact ⟨0, by omega, rfl, rfl, Lib.hid (own_nil _ _), HBS, L, B_z0, HB⟩
    case round =>
      clear HBS L B_z0 HB
      obtain ⟨k, hk, rfl, rfl, VR, HBS, L, B_z0, HB⟩ := hrel
      by_cases hlt : k < n
      · skip
        obtain ⟨g, o, eA, hg, e0, e1⟩ := L.out.elem hlt
        have hlen := L.out.len
        have hmem : l.getD k z2 ∈ l := getD_mem (by omega)
        have HT := Lib.hid (take_snoc l z2 (k := k) (by omega))
        subst eA
        have hP := HH.out _ hmem
        have hln := putS_len (gx, gy) l k
        obtain ⟨⟨q1, q2⟩, q3, q4⟩ := hP
        obtain ⟨⟨r1, r2⟩, r3, r4⟩ := HUB.out
        dsimp only at r1 r2 r3 r4
        have HPS : Hid (putS (gx, gy) l (k + 1) = if crs (gx, gy) (l.getD k z2) = 0 then ((putS (gx, gy) l k).1 ++ [addP (l.getD k z2) (gx, gy)], true) else if 0 < crs (gx, gy) (l.getD k z2) ∧ (putS (gx, gy) l k).2 = false then ((putS (gx, gy) l k).1 ++ [(gx, gy)] ++ [l.getD k z2], true) else ((putS (gx, gy) l k).1 ++ [l.getD k z2], (putS (gx, gy) l k).2)) := rfl
        generalize hpe : l.getD k z2 = q at *
        obtain ⟨px, py⟩ := q
        have HPE := Lib.hid hpe
        dsimp only at q1 q2 q3 q4
        generalize putS (gx, gy) l k = st at *
        obtain ⟨ol, dl⟩ := st
        dsimp only at VR hln HPS
        have hol : ol.length ≤ 900 := by omega
        have HLT := Lib.hid hlt
        have w1 : Wi gx 16777216 := ⟨by omega, by omega⟩
        have w2 : Wi gy 16777216 := ⟨by omega, by omega⟩
        have w3 : Wi px 16777216 := ⟨q1, q2⟩
        have w4 : Wi py 16777216 := ⟨q3, q4⟩
        have m1 := wi_mul w1 w4
        have m2 := wi_mul w2 w3
        obtain ⟨m11, m12⟩ := m1
        obtain ⟨m21, m22⟩ := m2
        have HD := Lib.hid (fun w => Rcross_is gx gy px py ⟨by omega, by omega⟩ ⟨by omega, by omega⟩ w)
        have HCC : Hid (crs (gx, gy) (px, py) = cr gx gy px py) := rfl
        rw [HCC.out] at HPS
        generalize cr gx gy px py = d at *
        clear m11 m12 m21 m22 w1 w2 w3 w4 hmem hg hlen hln hpe e0 e1 HCC
        by_cases hz : d = 0
        · skip
          subst hz
          rw [if_pos rfl] at HPS
          go_upto_region 10 with (fail)
          obtain ⟨c0z0, c1z0⟩ := cells2 B_z0
          have e0 : wr.cell? ⟨g, o + k * 2, none⟩ = some (.int .i64 px) := (PL.elemAt L.out HLT.out HPE.out).1
          have e1 : wr.cell? ⟨g, o + k * 2 + 1, none⟩ = some (.int .i64 py) := (PL.elemAt L.out HLT.out HPE.out).2
          have tk1x0 : True := trivial
          go_region_held3 (fun w' => w'.cell? ⟨g, o + k * 2, none⟩ = some (.int .i64 px) ∧ w'.cell? ⟨g, o + k * 2 + 1, none⟩ = some (.int .i64 py) ∧ w'.cell? ⟨w.heap.size, 0, none⟩ = some (.int .i64 gx) ∧ w'.cell? ⟨w.heap.size, 1, none⟩ = some (.int .i64 gy)) (((try dsimp only); (repeat' apply And.intro) <;> (first | (with_reducible assumption) | ((repeat (first | (with_reducible refine Eq.trans (cell_drew1 _ _) ?_) | (with_reducible refine Eq.trans (cell_far (by omega) _ _ _) ?_) | (with_reducible refine Eq.trans (World.cell?_alloc_lt _ _ _ (by first | (dsimp only; omega) | (simp only [World.size_alloc, World.size_setCell]; omega))) ?_))); with_reducible assumption) | assumption | go_keep)))
    (first
      | (clear tk1x0; go_at_call 54; refine (HD.out _).mono ?_; rintro e w1 ⟨rfl, bb⟩; replace bb := nextw (w0 := wr) (by exact sm) bb; replace B_z0 := mv B_z0 bb; replace L := Lib.hid (PL.below L.out bb); replace VR := Lib.hid (OwnP.below VR.out bb); replace HBS := Lib.hid (lebel HBS.out bb); replace HB := nx HB bb; clear bb c0z0 c1z0 e0 e1; have e0 : w1.cell? ⟨g, o + k * 2, none⟩ = some (.int .i64 px) := (PL.elemAt L.out HLT.out HPE.out).1; have e1 : w1.cell? ⟨g, o + k * 2 + 1, none⟩ = some (.int .i64 py) := (PL.elemAt L.out HLT.out HPE.out).2; have c0z0 : w1.cell? ⟨w.heap.size, 0, none⟩ = some (.int .i64 gx) := B_z0.out.cell 0 rfl; have c1z0 : w1.cell? ⟨w.heap.size, 1, none⟩ = some (.int .i64 gy) := B_z0.out.cell 1 rfl; have tk1x1 : True := trivial))
          clear c0z0 c1z0 e0 e1
          go_upto_region 12 with (fail)
          obtain ⟨c0z0, c1z0⟩ := cells2 B_z0
          have e0 : w1.cell? ⟨g, o + k * 2, none⟩ = some (.int .i64 px) := (PL.elemAt L.out HLT.out HPE.out).1
          have e1 : w1.cell? ⟨g, o + k * 2 + 1, none⟩ = some (.int .i64 py) := (PL.elemAt L.out HLT.out HPE.out).2
          have ex : IntKind.i64.wrap (px + gx) = px + gx := by rw [IntKind.wrap_i64]; omega
          have ey : IntKind.i64.wrap (py + gy) = py + gy := by rw [IntKind.wrap_i64]; omega
          refine wp_region_held_drew (S := fun w' => w'.cell? ⟨g, o + k * 2, none⟩ = some (.int .i64 px) ∧ w'.cell? ⟨g, o + k * 2 + 1, none⟩ = some (.int .i64 py) ∧ w'.cell? ⟨w.heap.size, 0, none⟩ = some (.int .i64 gx) ∧ w'.cell? ⟨w.heap.size, 1, none⟩ = some (.int .i64 gy)) (by kernel_rfl) ?_ (fun hH0 => ?_)
          · ((try dsimp only); (repeat' apply And.intro) <;> (first | (with_reducible assumption) | ((repeat (first | (with_reducible refine Eq.trans (cell_drew1 _ _) ?_) | (with_reducible refine Eq.trans (cell_far (by omega) _ _ _) ?_) | (with_reducible refine Eq.trans (World.cell?_alloc_lt _ _ _ (by first | (dsimp only; omega) | (simp only [World.size_alloc, World.size_setCell]; omega))) ?_))); with_reducible assumption) | assumption | go_keep))
          refine wpAnyH_take (i := 0) (v := ?hv2x0) rfl (by kernel_rfl) (by kernel_rfl) (by kernel_rfl) (fun _ _ _ h => h) (Or.inl ⟨by kernel_rfl, ?hy2x0⟩) (by assumption) ?hr2x0
          case hy2x0 => (intro w hSw; (try dsimp only at hSw); go_simp <;> with_reducible rfl)
          simp only [Act.put, List.setIfInBounds_toArray, List.set_cons_zero, List.set_cons_succ, List.getElem_toArray, List.getElem_cons_zero, List.getElem_cons_succ]
          refine wpAnyH_take (i := 1) (v := ?hv3x1) rfl (by kernel_rfl) (by kernel_rfl) (by kernel_rfl) (fun _ _ _ h => h) (Or.inl ⟨by kernel_rfl, ?hy3x1⟩) (by assumption) ?hr3x1
          case hy3x1 => (intro w hSw; (try dsimp only at hSw); go_simp <;> with_reducible rfl)
          simp only [Act.put, List.setIfInBounds_toArray, List.set_cons_zero, List.set_cons_succ, List.getElem_toArray, List.getElem_cons_zero, List.getElem_cons_succ]
          refine wpAnyH_take (i := 2) (v := ?hv4x2) rfl (by kernel_rfl) (by kernel_rfl) (by kernel_rfl) (fun _ _ _ h => h) (Or.inl ⟨by kernel_rfl, ?hy4x2⟩) (by assumption) ?hr4x2
          case hy4x2 => (intro w hSw; (try dsimp only at hSw); go_simp <;> with_reducible rfl)
          simp only [Act.put, List.setIfInBounds_toArray, List.set_cons_zero, List.set_cons_succ, List.getElem_toArray, List.getElem_cons_zero, List.getElem_cons_succ]
          refine wpAnyH_take (i := 3) (v := ?hv5x3) rfl (by kernel_rfl) (by kernel_rfl) (by kernel_rfl) (fun _ _ _ h => h) (Or.inl ⟨by kernel_rfl, ?hy5x3⟩) (by assumption) ?hr5x3
          case hy5x3 => (intro w hSw; (try dsimp only at hSw); go_simp <;> with_reducible rfl)
          simp only [Act.put, List.setIfInBounds_toArray, List.set_cons_zero, List.set_cons_succ, List.getElem_toArray, List.getElem_cons_zero, List.getElem_cons_succ]
          refine wpAnyH_take (i := 4) (v := ?hv6x4) rfl (by kernel_rfl) (by kernel_rfl) (by kernel_rfl) (fun _ _ _ h => h) (Or.inl ⟨by kernel_rfl, ?hy6x4⟩) (by assumption) ?hr6x4
          case hy6x4 => (intro w hSw; (try dsimp only at hSw); go_simp <;> with_reducible rfl)
          simp only [Act.put, List.setIfInBounds_toArray, List.set_cons_zero, List.set_cons_succ, List.getElem_toArray, List.getElem_cons_zero, List.getElem_cons_succ]
          refine wpAnyH_take (i := 5) (v := ?hv7x5) rfl (by kernel_rfl) (by kernel_rfl) (by kernel_rfl) (fun _ _ _ h => h) (Or.inl ⟨by kernel_rfl, ?hy7x5⟩) (by assumption) ?hr7x5
          case hy7x5 => (intro w hSw; (try dsimp only at hSw); go_simp <;> with_reducible rfl)
          simp only [Act.put, List.setIfInBounds_toArray, List.set_cons_zero, List.set_cons_succ, List.getElem_toArray, List.getElem_cons_zero, List.getElem_cons_succ]
          refine wpAnyH_take (i := 6) (v := ?hv8x6) rfl (by kernel_rfl) (by kernel_rfl) (by kernel_rfl) (fun _ _ _ h => h) (Or.inl ⟨by kernel_rfl, ?hy8x6⟩) (by assumption) ?hr8x6
          case hy8x6 => (intro w hSw; (try dsimp only at hSw); go_simp <;> with_reducible rfl)
          simp only [Act.put, List.setIfInBounds_toArray, List.set_cons_zero, List.set_cons_succ, List.getElem_toArray, List.getElem_cons_zero, List.getElem_cons_succ]
          refine wpAnyH_take (i := 7) (v := ?hv9x7) rfl (by kernel_rfl) (by kernel_rfl) (by kernel_rfl) (fun _ _ _ h => h) (Or.inl ⟨by kernel_rfl, ?hy9x7⟩) (by assumption) ?hr9x7
          case hy9x7 => (intro w hSw; (try dsimp only at hSw); go_simp <;> with_reducible rfl)
          simp only [Act.put, List.setIfInBounds_toArray, List.set_cons_zero, List.set_cons_succ, List.getElem_toArray, List.getElem_cons_zero, List.getElem_cons_succ]
          refine wpAnyH_take (i := 8) (v := ?hv10x8) rfl (by kernel_rfl) (by kernel_rfl) (by kernel_rfl) (fun _ _ _ h => h) (Or.inl ⟨by kernel_rfl, ?hy10x8⟩) (by assumption) ?hr10x8
          case hy10x8 => (intro w hSw; (try dsimp only at hSw); go_simp <;> with_reducible rfl)
          simp only [Act.put, List.setIfInBounds_toArray, List.set_cons_zero, List.set_cons_succ, List.getElem_toArray, List.getElem_cons_zero, List.getElem_cons_succ]
          refine wpAnyH_take (i := 9) (v := ?hv11x9) rfl (by kernel_rfl) (by kernel_rfl) (by kernel_rfl) (fun _ _ _ h => h) (Or.inl ⟨by kernel_rfl, ?hy11x9⟩) (by assumption) ?hr11x9
          case hy11x9 => (intro w hSw; (try dsimp only at hSw); go_simp <;> with_reducible rfl)
          simp only [Act.put, List.setIfInBounds_toArray, List.set_cons_zero, List.set_cons_succ, List.getElem_toArray, List.getElem_cons_zero, List.getElem_cons_succ]
          refine wpAnyH_take (i := 10) (v := ?hv12x10) rfl (by kernel_rfl) (by kernel_rfl) (by kernel_rfl) (fun _ _ _ h => h) (Or.inl ⟨by kernel_rfl, ?hy12x10⟩) (by assumption) ?hr12x10
          case hy12x10 => (intro w hSw; (try dsimp only at hSw); go_simp <;> with_reducible rfl)
          simp only [Act.put, List.setIfInBounds_toArray, List.set_cons_zero, List.set_cons_succ, List.getElem_toArray, List.getElem_cons_zero, List.getElem_cons_succ]
          refine wpAnyH_take (i := 11) (v := ?hv13x11) rfl (by kernel_rfl) (by kernel_rfl) (by kernel_rfl) (fun _ _ _ h => h) (Or.inl ⟨by kernel_rfl, ?hy13x11⟩) (by assumption) ?hr13x11
          case hy13x11 => (intro w hSw; (try dsimp only at hSw); go_simp <;> with_reducible rfl)
          simp only [Act.put, List.setIfInBounds_toArray, List.set_cons_zero, List.set_cons_succ, List.getElem_toArray, List.getElem_cons_zero, List.getElem_cons_succ]
          refine wpAnyH_take (i := 12) (v := ?hv14x12) rfl (by kernel_rfl) (by kernel_rfl) (by kernel_rfl) (fun _ _ _ h => h) (Or.inl ⟨by kernel_rfl, ?hy14x12⟩) (by assumption) ?hr14x12
          case hy14x12 => (intro w hSw; (try dsimp only at hSw); go_simp <;> with_reducible rfl)
          simp only [Act.put, List.setIfInBounds_toArray, List.set_cons_zero, List.set_cons_succ, List.getElem_toArray, List.getElem_cons_zero, List.getElem_cons_succ]
          refine wpAnyH_take (i := 13) (v := ?hv15x13) rfl (by kernel_rfl) (by kernel_rfl) (by kernel_rfl) (fun _ _ _ h => h) (Or.inl ⟨by kernel_rfl, ?hy15x13⟩) (by assumption) ?hr15x13
          case hy15x13 => (intro w hSw; (try dsimp only at hSw); go_simp <;> with_reducible rfl)
          simp only [Act.put, List.setIfInBounds_toArray, List.set_cons_zero, List.set_cons_succ, List.getElem_toArray, List.getElem_cons_zero, List.getElem_cons_succ]
          refine wpAnyH_take (i := 14) (v := ?hv16x14) rfl (by kernel_rfl) (by kernel_rfl) (by kernel_rfl) (fun _ _ _ h => h) (Or.inl ⟨by kernel_rfl, ?hy16x14⟩) (by assumption) ?hr16x14
          case hy16x14 => (intro w hSw; (try dsimp only at hSw); go_simp <;> with_reducible rfl)
          simp only [Act.put, List.setIfInBounds_toArray, List.set_cons_zero, List.set_cons_succ, List.getElem_toArray, List.getElem_cons_zero, List.getElem_cons_succ]
          refine wpAnyH_take (i := 15) (v := ?hv17x15) rfl (by kernel_rfl) (by kernel_rfl) (by kernel_rfl) (fun _ _ _ h => h) (Or.inl ⟨by kernel_rfl, ?hy17x15⟩) (by assumption) ?hr17x15
          case hy17x15 => (intro w hSw; (try dsimp only at hSw); go_simp <;> with_reducible rfl)
          simp only [Act.put, List.setIfInBounds_toArray, List.set_cons_zero, List.set_cons_succ, List.getElem_toArray, List.getElem_cons_zero, List.getElem_cons_succ]
          refine wpAnyH_take (i := 16) (v := ?hv18x16) rfl (by kernel_rfl) (by kernel_rfl) (by kernel_rfl) (fun _ _ _ h => h) (Or.inl ⟨by kernel_rfl, ?hy18x16⟩) (by assumption) ?hr18x16
          case hy18x16 => (intro w hSw; (try dsimp only at hSw); go_simp <;> with_reducible rfl)
          simp only [Act.put, List.setIfInBounds_toArray, List.set_cons_zero, List.set_cons_succ, List.getElem_toArray, List.getElem_cons_zero, List.getElem_cons_succ]
          refine wpAnyH_take (i := 17) (v := ?hv19x17) rfl (by kernel_rfl) (by kernel_rfl) (by kernel_rfl) (fun _ _ _ h => h) (Or.inl ⟨by kernel_rfl, ?hy19x17⟩) (by assumption) ?hr19x17
          case hy19x17 => (intro w hSw; (try dsimp only at hSw); go_simp <;> with_reducible rfl)
          simp only [Act.put, List.setIfInBounds_toArray, List.set_cons_zero, List.set_cons_succ, List.getElem_toArray, List.getElem_cons_zero, List.getElem_cons_succ]
          refine wpAnyH_ready (rs := [18]) (by kernel_rfl) (by simp) ?_
          refine AllReadyH.cons rfl (fun K hK => ?_) AllReadyH.nil
          go_simp
          have bb : Below w1.heap.size w1 ((w1.alloc (.cells #[.int .i64 (px + gx), .int .i64 (py + gy)] 39)).drew) := nextw (alB' _ _) (by exact sm)
          have B_cc : Hid (Bx ((w1.alloc (.cells #[.int .i64 (px + gx), .int .i64 (py + gy)] 39)).drew) w1.heap.size 39 #[.int .i64 (px + gx), .int .i64 (py + gy)]) := Lib.hid (Bx.new w1 _ _)
          replace B_z0 := mv B_z0 bb
          replace L := Lib.hid (PL.below L.out bb)
          replace VR := Lib.hid (OwnP.below VR.out bb)
          replace HBS := Lib.hid (lebel HBS.out bb)
          replace HB := nx HB bb
          clear bb c0z0 c1z0 e0 e1
          generalize (w1.alloc (.cells #[.int .i64 (px + gx), .int .i64 (py + gy)] 39)).drew = wq at *
          have c0z0 : wq.cell? ⟨w.heap.size, 0, none⟩ = some (.int .i64 gx) := B_z0.out.cell 0 rfl
          have c1z0 : wq.cell? ⟨w.heap.size, 1, none⟩ = some (.int .i64 gy) := B_z0.out.cell 1 rfl
          have e0 : wq.cell? ⟨g, o + k * 2, none⟩ = some (.int .i64 px) := (PL.elemAt L.out HLT.out HPE.out).1
          have e1 : wq.cell? ⟨g, o + k * 2 + 1, none⟩ = some (.int .i64 py) := (PL.elemAt L.out HLT.out HPE.out).2
          refine hK.out _ _ ?_ (fun hH1 => ?_)
          · ((try dsimp only); (repeat' apply And.intro) <;> (first | (with_reducible assumption) | ((repeat (first | (with_reducible refine Eq.trans (cell_drew1 _ _) ?_) | (with_reducible refine Eq.trans (cell_far (by omega) _ _ _) ?_) | (with_reducible refine Eq.trans (World.cell?_alloc_lt _ _ _ (by first | (dsimp only; omega) | (simp only [World.size_alloc, World.size_setCell]; omega))) ?_))); with_reducible assumption) | assumption | go_keep))
          clear hK K hH0
          try simp only [Act.put, List.setIfInBounds_toArray, List.set_cons_zero, List.set_cons_succ, List.getElem_toArray, List.getElem_cons_zero, List.getElem_cons_succ]
          obtain ⟨v5, w5, hr5, ho5, hb5⟩ := run_app_pl wq 22 VR.out (pl_1 B_cc.out) (by omega) (by omega) HBS.out
          have nz := Lib.hid (Bx.below B_z0.out hb5 LT_z0.out)
          have nHB := Lib.hid (HB.out.trans (hb5.mono HW.out))
          have nL := Lib.hid (PL.belowB L.out hb5 TL_L.out)
          have nHBS : Hid (base ≤ w5.heap.size) := Nat.le_trans HBS.out hb5.size
          have VR5 := Lib.hid ho5
          clear ho5 hb5
          refine wpAnyH_ready (rs := [19]) (by kernel_rfl) (by simp) ?_
          refine AllReadyH.cons rfl (fun K hK => ?_) AllReadyH.nil
          refine step_app_run rfl _ _ rfl rfl rfl hr5 ?_
          clear hr5 B_z0 B_cc HB L HBS VR c0z0 c1z0 e0 e1
          have B_z0 := nz
          have HB := nHB
          have L := nL
          have HBS := nHBS
          clear nz nHB nL nHBS
          have c0z0 : w5.cell? ⟨w.heap.size, 0, none⟩ = some (.int .i64 gx) := B_z0.out.cell 0 rfl
          have c1z0 : w5.cell? ⟨w.heap.size, 1, none⟩ = some (.int .i64 gy) := B_z0.out.cell 1 rfl
          have e0 : w5.cell? ⟨g, o + k * 2, none⟩ = some (.int .i64 px) := (PL.elemAt L.out HLT.out HPE.out).1
          have e1 : w5.cell? ⟨g, o + k * 2 + 1, none⟩ = some (.int .i64 py) := (PL.elemAt L.out HLT.out HPE.out).2
          refine hK.out _ _ ?_ (fun hH2 => ?_)
          · ((try dsimp only); (repeat' apply And.intro) <;> (first | (with_reducible assumption) | ((repeat (first | (with_reducible refine Eq.trans (cell_drew1 _ _) ?_) | (with_reducible refine Eq.trans (cell_far (by omega) _ _ _) ?_) | (with_reducible refine Eq.trans (World.cell?_alloc_lt _ _ _ (by first | (dsimp only; omega) | (simp only [World.size_alloc, World.size_setCell]; omega))) ?_))); with_reducible assumption) | assumption | go_keep))
          clear hK K hH1
          try simp only [Act.put, List.setIfInBounds_toArray, List.set_cons_zero, List.set_cons_succ, List.getElem_toArray, List.getElem_cons_zero, List.getElem_cons_succ]
          refine wpAnyH_take (i := 20) (v := ?hv20x20) rfl (by kernel_rfl) (by kernel_rfl) (by kernel_rfl) (fun _ _ _ h => h) (Or.inl ⟨by kernel_rfl, ?hy20x20⟩) (by assumption) ?hr20x20
          case hy20x20 => (intro w hSw; (try dsimp only at hSw); go_simp <;> with_reducible rfl)
          simp only [Act.put, List.setIfInBounds_toArray, List.set_cons_zero, List.set_cons_succ, List.getElem_toArray, List.getElem_cons_zero, List.getElem_cons_succ]
          refine wpAnyH_done (by kernel_rfl) ?_ _
          clear hH2
          clear e0 e1 c0z0 c1z0
          have VRn : Hid (OwnP w5 base v5 (putS (gx, gy) l (k + 1)).1) := by rw [HPS.out]; exact VR5.out
          have HD1 : Hid ((putS (gx, gy) l (k + 1)).2 = true) := by unfold Hid; rw [HPS.out]
          skip
          all_goals go_wp2_with fail
          go_roundw
          case rel => exact ⟨k + 1, by omega, by go_num, by rw [HD1.out], VRn, HBS, L, B_z0, HB⟩
          case measure => simp only [intOf]; omega
        · skip
          have hd0 : (d == 0) = false := by simpa using hz
          rw [if_neg hz] at HPS
          clear hz
          by_cases hp : 0 < d
          · skip
            cases dl
            · skip
              rw [if_pos ⟨hp, rfl⟩] at HPS
              have od1 : decide (0 < d) = true := decide_eq_true hp
              clear hp
              go_upto_region 10 with (fail)
              obtain ⟨c0z0, c1z0⟩ := cells2 B_z0
              have e0 : wr.cell? ⟨g, o + k * 2, none⟩ = some (.int .i64 px) := (PL.elemAt L.out HLT.out HPE.out).1
              have e1 : wr.cell? ⟨g, o + k * 2 + 1, none⟩ = some (.int .i64 py) := (PL.elemAt L.out HLT.out HPE.out).2
              have tk2x0 : True := trivial
              go_region_held3 (fun w' => w'.cell? ⟨g, o + k * 2, none⟩ = some (.int .i64 px) ∧ w'.cell? ⟨g, o + k * 2 + 1, none⟩ = some (.int .i64 py) ∧ w'.cell? ⟨w.heap.size, 0, none⟩ = some (.int .i64 gx) ∧ w'.cell? ⟨w.heap.size, 1, none⟩ = some (.int .i64 gy)) (((try dsimp only); (repeat' apply And.intro) <;> (first | (with_reducible assumption) | ((repeat (first | (with_reducible refine Eq.trans (cell_drew1 _ _) ?_) | (with_reducible refine Eq.trans (cell_far (by omega) _ _ _) ?_) | (with_reducible refine Eq.trans (World.cell?_alloc_lt _ _ _ (by first | (dsimp only; omega) | (simp only [World.size_alloc, World.size_setCell]; omega))) ?_))); with_reducible assumption) | assumption | go_keep)))
    (first
      | (clear tk2x0; go_at_call 54; refine (HD.out _).mono ?_; rintro e w21 ⟨rfl, bb⟩; replace bb := nextw (w0 := wr) (by exact sm) bb; replace B_z0 := mv B_z0 bb; replace L := Lib.hid (PL.below L.out bb); replace VR := Lib.hid (OwnP.below VR.out bb); replace HBS := Lib.hid (lebel HBS.out bb); replace HB := nx HB bb; clear bb c0z0 c1z0 e0 e1; have e0 : w21.cell? ⟨g, o + k * 2, none⟩ = some (.int .i64 px) := (PL.elemAt L.out HLT.out HPE.out).1; have e1 : w21.cell? ⟨g, o + k * 2 + 1, none⟩ = some (.int .i64 py) := (PL.elemAt L.out HLT.out HPE.out).2; have c0z0 : w21.cell? ⟨w.heap.size, 0, none⟩ = some (.int .i64 gx) := B_z0.out.cell 0 rfl; have c1z0 : w21.cell? ⟨w.heap.size, 1, none⟩ = some (.int .i64 gy) := B_z0.out.cell 1 rfl; have tk2x1 : True := trivial))
              clear c0z0 c1z0 e0 e1
              go_upto_region 15 with (fail)
              obtain ⟨c0z0, c1z0⟩ := cells2 B_z0
              have HG := Lib.hid (fun wzz (hg : (w21.alloc (.cells #[.int .i64 gx, .int .i64 gy] 39)).grownBy wzz (Value.ownBlock u5)) => grown_below VR.out HBS.out hg)
              go_upto_region 17 with (at_builtin; refine wpList_append_own _ rfl _ _ 22 rfl base 39 i0 (.agg #[.int .i64 0, .int .i64 0]) 2 16 Try.underlying22 HI.out hz0 hz1 hz2 rfl (by decide) u5 (ol).length (pts (ol)) rfl (VR.out.alloc _) ⟨w21.heap.size, 0, none⟩ 1 1 (pts [(gx, gy)]) rfl rfl (new_pt w21 _ _) (pts_one _) (by simp only [maxLen]; omega) (by omega) (by have := HBS.out; simp; omega) ?_; intro va22 wa22 hown3 hgrow3 hnil3; have HX3 := Lib.hid hown3; have HY3 := Lib.hid (HG.out _ hgrow3); clear hown3 hgrow3 hnil3)
              have VRn : Hid (OwnP wa22 base va22 (ol ++ [(gx, gy)])) := by have h := HX3.out; rw [pts_append] at h; unfold Hid OwnP; rw [List.length_append]; exact h
              replace B_z0 := Lib.hid (Bx.below B_z0.out HY3.out LT_z0.out)
              replace L := Lib.hid (PL.belowB L.out HY3.out TL_L.out)
              replace HB := Lib.hid (HB.out.trans (HY3.out.mono HW.out))
              replace HBS := Lib.hid (Nat.le_trans HBS.out HY3.out.size)
              clear HX3 HY3 HG
              clear c0z0 c1z0
              clear VR
              have hol2 : (ol ++ [(gx, gy)]).length ≤ 2001 := by simp; omega
              generalize ol ++ [(gx, gy)] = ol2 at *
              have e0 : wa22.cell? ⟨g, o + k * 2, none⟩ = some (.int .i64 px) := (PL.elemAt L.out HLT.out HPE.out).1
              have e1 : wa22.cell? ⟨g, o + k * 2 + 1, none⟩ = some (.int .i64 py) := (PL.elemAt L.out HLT.out HPE.out).2
              have HG := Lib.hid (fun wzz (hg : (wa22.alloc (.cells #[.int .i64 px, .int .i64 py] 39)).grownBy wzz (Value.ownBlock va22)) => grown_below VRn.out HBS.out hg)
              go_wp2_with (at_builtin; refine wpList_append_own _ rfl _ _ 22 rfl base 39 i0 (.agg #[.int .i64 0, .int .i64 0]) 2 16 Try.underlying22 HI.out hz0 hz1 hz2 rfl (by decide) va22 (ol2).length (pts (ol2)) rfl (VRn.out.alloc _) ⟨wa22.heap.size, 0, none⟩ 1 1 (pts [(px, py)]) rfl rfl (new_pt wa22 _ _) (pts_one _) (by simp only [maxLen]; omega) (by omega) (by have := HBS.out; simp; omega) ?_; intro va23 wa23 hown3 hgrow3 hnil3; have HX3 := Lib.hid hown3; have HY3 := Lib.hid (HG.out _ hgrow3); clear hown3 hgrow3 hnil3)
              have VRm : Hid (OwnP wa23 base va23 (ol2 ++ [(px, py)])) := by have h := HX3.out; rw [pts_append] at h; unfold Hid OwnP; rw [List.length_append]; exact h
              replace B_z0 := Lib.hid (Bx.below B_z0.out HY3.out LT_z0.out)
              replace L := Lib.hid (PL.belowB L.out HY3.out TL_L.out)
              replace HB := Lib.hid (HB.out.trans (HY3.out.mono HW.out))
              replace HBS := Lib.hid (Nat.le_trans HBS.out HY3.out.size)
              clear HX3 HY3 HG
              have VRk : Hid (OwnP wa23 base va23 (putS (gx, gy) l (k + 1)).1) := by rw [HPS.out]; exact VRm.out
              have HD1 : Hid ((putS (gx, gy) l (k + 1)).2 = true) := by unfold Hid; rw [HPS.out]
              all_goals go_wp2_with fail
              clear e0 e1
              go_roundw
              case rel => exact ⟨k + 1, by omega, by go_num, by rw [HD1.out], VRk, HBS, L, B_z0, HB⟩
              case measure => simp only [intOf]; omega
            · skip
              rw [if_neg (by simp)] at HPS
              have od1 : decide (0 < d) = true := decide_eq_true hp
              clear hp
              go_upto_region 10 with (fail)
              obtain ⟨c0z0, c1z0⟩ := cells2 B_z0
              have e0 : wr.cell? ⟨g, o + k * 2, none⟩ = some (.int .i64 px) := (PL.elemAt L.out HLT.out HPE.out).1
              have e1 : wr.cell? ⟨g, o + k * 2 + 1, none⟩ = some (.int .i64 py) := (PL.elemAt L.out HLT.out HPE.out).2
              have tk3x0 : True := trivial
              go_region_held3 (fun w' => w'.cell? ⟨g, o + k * 2, none⟩ = some (.int .i64 px) ∧ w'.cell? ⟨g, o + k * 2 + 1, none⟩ = some (.int .i64 py) ∧ w'.cell? ⟨w.heap.size, 0, none⟩ = some (.int .i64 gx) ∧ w'.cell? ⟨w.heap.size, 1, none⟩ = some (.int .i64 gy)) (((try dsimp only); (repeat' apply And.intro) <;> (first | (with_reducible assumption) | ((repeat (first | (with_reducible refine Eq.trans (cell_drew1 _ _) ?_) | (with_reducible refine Eq.trans (cell_far (by omega) _ _ _) ?_) | (with_reducible refine Eq.trans (World.cell?_alloc_lt _ _ _ (by first | (dsimp only; omega) | (simp only [World.size_alloc, World.size_setCell]; omega))) ?_))); with_reducible assumption) | assumption | go_keep)))
    (first
      | (clear tk3x0; go_at_call 54; refine (HD.out _).mono ?_; rintro e w24 ⟨rfl, bb⟩; replace bb := nextw (w0 := wr) (by exact sm) bb; replace B_z0 := mv B_z0 bb; replace L := Lib.hid (PL.below L.out bb); replace VR := Lib.hid (OwnP.below VR.out bb); replace HBS := Lib.hid (lebel HBS.out bb); replace HB := nx HB bb; clear bb c0z0 c1z0 e0 e1; have e0 : w24.cell? ⟨g, o + k * 2, none⟩ = some (.int .i64 px) := (PL.elemAt L.out HLT.out HPE.out).1; have e1 : w24.cell? ⟨g, o + k * 2 + 1, none⟩ = some (.int .i64 py) := (PL.elemAt L.out HLT.out HPE.out).2; have c0z0 : w24.cell? ⟨w.heap.size, 0, none⟩ = some (.int .i64 gx) := B_z0.out.cell 0 rfl; have c1z0 : w24.cell? ⟨w.heap.size, 1, none⟩ = some (.int .i64 gy) := B_z0.out.cell 1 rfl; have tk3x1 : True := trivial))
              clear c0z0 c1z0 e0 e1
              go_upto_region 17 with (fail)
              have e0 : w24.cell? ⟨g, o + k * 2, none⟩ = some (.int .i64 px) := (PL.elemAt L.out HLT.out HPE.out).1
              have e1 : w24.cell? ⟨g, o + k * 2 + 1, none⟩ = some (.int .i64 py) := (PL.elemAt L.out HLT.out HPE.out).2
              have HG := Lib.hid (fun wzz (hg : (w24.alloc (.cells #[.int .i64 px, .int .i64 py] 39)).grownBy wzz (Value.ownBlock u5)) => grown_below VR.out HBS.out hg)
              go_wp2_with (at_builtin; refine wpList_append_own _ rfl _ _ 22 rfl base 39 i0 (.agg #[.int .i64 0, .int .i64 0]) 2 16 Try.underlying22 HI.out hz0 hz1 hz2 rfl (by decide) u5 (ol).length (pts (ol)) rfl (VR.out.alloc _) ⟨w24.heap.size, 0, none⟩ 1 1 (pts [(px, py)]) rfl rfl (new_pt w24 _ _) (pts_one _) (by simp only [maxLen]; omega) (by omega) (by have := HBS.out; simp; omega) ?_; intro va25 wa25 hown3 hgrow3 hnil3; have HX3 := Lib.hid hown3; have HY3 := Lib.hid (HG.out _ hgrow3); clear hown3 hgrow3 hnil3)
              have VRm : Hid (OwnP wa25 base va25 (ol ++ [(px, py)])) := by have h := HX3.out; rw [pts_append] at h; unfold Hid OwnP; rw [List.length_append]; exact h
              replace B_z0 := Lib.hid (Bx.below B_z0.out HY3.out LT_z0.out)
              replace L := Lib.hid (PL.belowB L.out HY3.out TL_L.out)
              replace HB := Lib.hid (HB.out.trans (HY3.out.mono HW.out))
              replace HBS := Lib.hid (Nat.le_trans HBS.out HY3.out.size)
              clear HX3 HY3 HG
              have VRk : Hid (OwnP wa25 base va25 (putS (gx, gy) l (k + 1)).1) := by rw [HPS.out]; exact VRm.out
              have HD1 : Hid ((putS (gx, gy) l (k + 1)).2 = true) := by unfold Hid; rw [HPS.out]
              all_goals go_wp2_with fail
              clear e0 e1
              go_roundw
              case rel => exact ⟨k + 1, by omega, by go_num, by rw [HD1.out], VRk, HBS, L, B_z0, HB⟩
              case measure => simp only [intOf]; omega
          · skip
            rw [if_neg (fun h => hp h.1)] at HPS
            have od1 : decide (0 < d) = false := decide_eq_false hp
            clear hp
            go_upto_region 10 with (fail)
            obtain ⟨c0z0, c1z0⟩ := cells2 B_z0
            have e0 : wr.cell? ⟨g, o + k * 2, none⟩ = some (.int .i64 px) := (PL.elemAt L.out HLT.out HPE.out).1
            have e1 : wr.cell? ⟨g, o + k * 2 + 1, none⟩ = some (.int .i64 py) := (PL.elemAt L.out HLT.out HPE.out).2
            have tk4x0 : True := trivial
            go_region_held3 (fun w' => w'.cell? ⟨g, o + k * 2, none⟩ = some (.int .i64 px) ∧ w'.cell? ⟨g, o + k * 2 + 1, none⟩ = some (.int .i64 py) ∧ w'.cell? ⟨w.heap.size, 0, none⟩ = some (.int .i64 gx) ∧ w'.cell? ⟨w.heap.size, 1, none⟩ = some (.int .i64 gy)) (((try dsimp only); (repeat' apply And.intro) <;> (first | (with_reducible assumption) | ((repeat (first | (with_reducible refine Eq.trans (cell_drew1 _ _) ?_) | (with_reducible refine Eq.trans (cell_far (by omega) _ _ _) ?_) | (with_reducible refine Eq.trans (World.cell?_alloc_lt _ _ _ (by first | (dsimp only; omega) | (simp only [World.size_alloc, World.size_setCell]; omega))) ?_))); with_reducible assumption) | assumption | go_keep)))
    (first
      | (clear tk4x0; go_at_call 54; refine (HD.out _).mono ?_; rintro e w26 ⟨rfl, bb⟩; replace bb := nextw (w0 := wr) (by exact sm) bb; replace B_z0 := mv B_z0 bb; replace L := Lib.hid (PL.below L.out bb); replace VR := Lib.hid (OwnP.below VR.out bb); replace HBS := Lib.hid (lebel HBS.out bb); replace HB := nx HB bb; clear bb c0z0 c1z0 e0 e1; have e0 : w26.cell? ⟨g, o + k * 2, none⟩ = some (.int .i64 px) := (PL.elemAt L.out HLT.out HPE.out).1; have e1 : w26.cell? ⟨g, o + k * 2 + 1, none⟩ = some (.int .i64 py) := (PL.elemAt L.out HLT.out HPE.out).2; have c0z0 : w26.cell? ⟨w.heap.size, 0, none⟩ = some (.int .i64 gx) := B_z0.out.cell 0 rfl; have c1z0 : w26.cell? ⟨w.heap.size, 1, none⟩ = some (.int .i64 gy) := B_z0.out.cell 1 rfl; have tk4x1 : True := trivial))
            clear c0z0 c1z0 e0 e1
            go_upto_region 17 with (fail)
            have e0 : w26.cell? ⟨g, o + k * 2, none⟩ = some (.int .i64 px) := (PL.elemAt L.out HLT.out HPE.out).1
            have e1 : w26.cell? ⟨g, o + k * 2 + 1, none⟩ = some (.int .i64 py) := (PL.elemAt L.out HLT.out HPE.out).2
            have HG := Lib.hid (fun wzz (hg : (w26.alloc (.cells #[.int .i64 px, .int .i64 py] 39)).grownBy wzz (Value.ownBlock u5)) => grown_below VR.out HBS.out hg)
            go_wp2_with (at_builtin; refine wpList_append_own _ rfl _ _ 22 rfl base 39 i0 (.agg #[.int .i64 0, .int .i64 0]) 2 16 Try.underlying22 HI.out hz0 hz1 hz2 rfl (by decide) u5 (ol).length (pts (ol)) rfl (VR.out.alloc _) ⟨w26.heap.size, 0, none⟩ 1 1 (pts [(px, py)]) rfl rfl (new_pt w26 _ _) (pts_one _) (by simp only [maxLen]; omega) (by omega) (by have := HBS.out; simp; omega) ?_; intro va27 wa27 hown3 hgrow3 hnil3; have HX3 := Lib.hid hown3; have HY3 := Lib.hid (HG.out _ hgrow3); clear hown3 hgrow3 hnil3)
            have VRm : Hid (OwnP wa27 base va27 (ol ++ [(px, py)])) := by have h := HX3.out; rw [pts_append] at h; unfold Hid OwnP; rw [List.length_append]; exact h
            replace B_z0 := Lib.hid (Bx.below B_z0.out HY3.out LT_z0.out)
            replace L := Lib.hid (PL.belowB L.out HY3.out TL_L.out)
            replace HB := Lib.hid (HB.out.trans (HY3.out.mono HW.out))
            replace HBS := Lib.hid (Nat.le_trans HBS.out HY3.out.size)
            clear HX3 HY3 HG
            have VRk : Hid (OwnP wa27 base va27 (putS (gx, gy) l (k + 1)).1) := by rw [HPS.out]; exact VRm.out
            have HD1 : Hid ((putS (gx, gy) l (k + 1)).2 = dl) := by unfold Hid; rw [HPS.out]
            all_goals go_wp2_with fail
            clear e0 e1
            go_roundw
            case rel => exact ⟨k + 1, by omega, by go_num, by rw [HD1.out], VRk, HBS, L, B_z0, HB⟩
            case measure => simp only [intOf]; omega
      · skip
        obtain rfl : k = n := by omega
        have hlen := L.out.len
        have hq := putS_putD (gx, gy) l k (by omega)
        rw [List.drop_of_length_le (by omega)] at hq
        have hln := putS_len (gx, gy) l k
        generalize putS (gx, gy) l k = st at *
        obtain ⟨ol, dl⟩ := st
        dsimp only at VR hq hln
        have hol : ol.length ≤ 900 := by omega
        clear hlen hln
        cases dl
        · skip
          have HQ : Hid (putD (gx, gy) false l = ol ++ [(gx, gy)]) := by unfold Hid; rw [hq]; simp [putD]
          clear hq
          go_upto_region 19 with (fail)
          obtain ⟨c0z0, c1z0⟩ := cells2 B_z0
          have HG := Lib.hid (fun wzz (hg : (wr.alloc (.cells #[.int .i64 gx, .int .i64 gy] 39)).grownBy wzz (Value.ownBlock u5)) => grown_below VR.out HBS.out hg)
          go_upto_region 20 with (at_builtin; refine wpList_append_own _ rfl _ _ 22 rfl base 39 i0 (.agg #[.int .i64 0, .int .i64 0]) 2 16 Try.underlying22 HI.out hz0 hz1 hz2 rfl (by decide) u5 (ol).length (pts (ol)) rfl (VR.out.alloc _) ⟨wr.heap.size, 0, none⟩ 1 1 (pts [(gx, gy)]) rfl rfl (new_pt wr _ _) (pts_one _) (by simp only [maxLen]; omega) (by omega) (by have := HBS.out; simp; omega) ?_; intro va28 wa28 hown3 hgrow3 hnil3; have HX3 := Lib.hid hown3; have HY3 := Lib.hid (HG.out _ hgrow3); clear hown3 hgrow3 hnil3)
          have VRn : Hid (OwnP wa28 base va28 (ol ++ [(gx, gy)])) := by have h := HX3.out; rw [pts_append] at h; unfold Hid OwnP; rw [List.length_append]; exact h
          replace B_z0 := Lib.hid (Bx.below B_z0.out HY3.out LT_z0.out)
          replace L := Lib.hid (PL.belowB L.out HY3.out TL_L.out)
          replace HB := Lib.hid (HB.out.trans (HY3.out.mono HW.out))
          replace HBS := Lib.hid (Nat.le_trans HBS.out HY3.out.size)
          clear HX3 HY3 HG
          clear c0z0 c1z0 VR
          obtain ⟨A5, c5, e5, p5, -⟩ := VRn.out.pl
          subst e5
          have P5 := Lib.hid p5
          clear p5 VRn
          have HE : Hid ((ol ++ [(gx, gy)]).length = (putD (gx, gy) false l).length) := by unfold Hid; rw [HQ.out]
          generalize (ol ++ [(gx, gy)]) = fl at *
          go_wp2
          go_ret
          exact ⟨A5, c5, congrArg (fun t => Ending.returned (.slice A5 t c5)) HE.out, by rw [HQ.out]; exact PL.outw P5.out HW.out, HB.out⟩
        · skip
          have HQ : Hid (putD (gx, gy) false l = ol) := by unfold Hid; rw [hq]; simp [putD]
          clear hq
          obtain ⟨A5, c5, e5, p5, -⟩ := VR.out.pl
          subst e5
          have P5 := Lib.hid p5
          clear p5 VR
          have HE : Hid (ol.length = (putD (gx, gy) false l).length) := by unfold Hid; rw [HQ.out]
          skip
          go_wp2
          go_ret
          exact ⟨A5, c5, congrArg (fun t => Ending.returned (.slice A5 t c5)) HE.out, by rw [HQ.out]; exact PL.outw P5.out HW.out, HB.out⟩

set_option maxRecDepth 100000 in
set_option maxHeartbeats 4000000 in
theorem put_f (gx : Int) (A : Option Addr) (n c : Nat) (l : List P2) (hn : n ≤ 400) (hl : ∀ p ∈ l, Bd 16777216 p) (hg : Bd 16777216 (gx, 0)) (hy : 0 < gx) (w : World) {lo_L hi_L : Nat} (L : PL w lo_L hi_L A n c l) :
    Calls Try.prog 75 #[.slice A n c, .agg #[.int .i64 (-gx), .int .i64 0]] w fun e w' => ∃ A' c', e = .returned (.slice A' (putD (gx, 0) false l).length c') ∧ PL w' w.heap.size w'.heap.size A' (putD (gx, 0) false l).length c' (putD (gx, 0) false l) ∧ Below w.heap.size w w' := by
  have HH := Lib.hid hl
  have HUB := Lib.hid hg
  have hq2 := hg.2
  have hq1 := hg.1
  obtain ⟨b1, b2⟩ := hq2
  obtain ⟨a1, a2⟩ := hq1
  dsimp only at a1 a2 b1 b2
  obtain ⟨i0, hi0, hz0, hz1, hz2⟩ := info_parts info2
  have HI := Lib.hid hi0
  clear hi0
  clear hl hg
  have hiL : Hid (hi_L ≤ w.heap.size) := L.top
  replace L := Lib.hid L
  obtain ⟨HB, B_z0⟩ := box1 w 39 #[.int .i64 (-gx), .int .i64 0]
  replace L := plm L HB.out
  go_enter Try.func75, Try.ntmps75
  go_upto_region 1 with (fail)
  generalize w.alloc (.cells #[.int .i64 (-gx), .int .i64 0] 39) = W0 at *
  have od0 : decide (-gx < 0) = true := decide_eq_true (by omega)
  have od3 : (-gx < 0) := by omega
  have od1 : (gx == 0) = false := by simp; omega
  obtain ⟨c0z0, c1z0⟩ := cells2 B_z0
  have ea : IntKind.i64.wrap (-(-gx)) = gx := by rw [IntKind.wrap_i64]; omega
  have ea2 : IntKind.i64.wrap gx = gx := by rw [IntKind.wrap_i64]; omega
  have hisz : hi_L ≤ w.heap.size := hiL.out
  obtain ⟨f0z0, f1z0⟩ := froz2 B_z0
  have n_z0 : Hid (Bx ((W0.setCell ⟨w.heap.size, 0, none⟩ (.int .i64 gx)).setCell ⟨w.heap.size, 1, none⟩ (.int .i64 0)) (w.heap.size) 39 #[.int .i64 gx, .int .i64 0]) := (B_z0.out.set 0 (.int .i64 gx)).set 1 (.int .i64 0)
  have nHB := stb2 HB (y := w.heap.size) (by omega) 0 (.int .i64 gx) 1 (.int .i64 0)
  have n_L := Lib.hid (PL.set (PL.set L.out (Or.inr hiL.out) 0 (.int .i64 gx)) (Or.inr hiL.out) 1 (.int .i64 0))
  go_upto_region 3 with (fail)
  clear c0z0 c1z0 f0z0 f1z0
  generalize (W0.setCell ⟨w.heap.size, 0, none⟩ (.int .i64 gx)).setCell ⟨w.heap.size, 1, none⟩ (.int .i64 0) = WS at *
  clear B_z0
  have B_z0 := n_z0
  clear n_z0
  clear L
  have L := n_L
  clear n_L
  clear HB
  have HB := nHB
  clear nHB
  obtain ⟨c0z0, c1z0⟩ := cells2 B_z0
  go_wp2_with fail
  clear c0z0 c1z0
  obtain ⟨base, hbase⟩ : ∃ base, base = WS.heap.size := ⟨_, rfl⟩
  have HBS : Hid (base ≤ WS.heap.size) := by unfold Hid; omega
  have LT_z0 : Hid (w.heap.size < base) := by have := B_z0.out.lt; unfold Hid; omega
  have HW : Hid (w.heap.size ≤ base) := by have := HB.out.size; unfold Hid; omega
  have TL_L : Hid (hi_L ≤ base) := by have := L.out.top; unfold Hid; omega
  clear hbase
  go_loopw [5, 6, 7] (fun a0 a1 kk wx => ∃ (k : Nat), k ≤ n ∧ kk = .int .i64 k ∧ a1 = (.bool (putS (gx, 0) l k).2) ∧ Hid (OwnP wx base a0 (putS (gx, 0) l k).1) ∧ Hid (base ≤ wx.heap.size) ∧ Hid (PL wx lo_L hi_L A n c l) ∧ Hid (Bx wx (w.heap.size) 39 #[.int .i64 gx, .int .i64 0]) ∧ Hid (Below w.heap.size w wx)) (fun _ _ kk _ => n - (intOf kk).toNat)
  case atStart => exact ⟨0, by omega, rfl, rfl, Lib.hid (own_nil _ _), HBS, L, B_z0, HB⟩
  case round =>
    clear HBS L B_z0 HB
    obtain ⟨k, hk, rfl, rfl, VR, HBS, L, B_z0, HB⟩ := hrel
    by_cases hlt : k < n
    · skip
      obtain ⟨g, o, eA, hg, e0, e1⟩ := L.out.elem hlt
      have hlen := L.out.len
      have hmem : l.getD k z2 ∈ l := getD_mem (by omega)
      have HT := Lib.hid (take_snoc l z2 (k := k) (by omega))
      subst eA
      have hP := HH.out _ hmem
      have hln := putS_len (gx, 0) l k
      obtain ⟨⟨q1, q2⟩, q3, q4⟩ := hP
      obtain ⟨⟨r1, r2⟩, r3, r4⟩ := HUB.out
      dsimp only at r1 r2 r3 r4
      have HPS : Hid (putS (gx, 0) l (k + 1) = if crs (gx, 0) (l.getD k z2) = 0 then ((putS (gx, 0) l k).1 ++ [addP (l.getD k z2) (gx, 0)], true) else if 0 < crs (gx, 0) (l.getD k z2) ∧ (putS (gx, 0) l k).2 = false then ((putS (gx, 0) l k).1 ++ [(gx, 0)] ++ [l.getD k z2], true) else ((putS (gx, 0) l k).1 ++ [l.getD k z2], (putS (gx, 0) l k).2)) := rfl
      generalize hpe : l.getD k z2 = q at *
      obtain ⟨px, py⟩ := q
      have HPE := Lib.hid hpe
      dsimp only at q1 q2 q3 q4
      generalize putS (gx, 0) l k = st at *
      obtain ⟨ol, dl⟩ := st
      dsimp only at VR hln HPS
      have hol : ol.length ≤ 900 := by omega
      have HLT := Lib.hid hlt
      have w1 : Wi gx 16777216 := ⟨by omega, by omega⟩
      have w2 : Wi 0 16777216 := ⟨by omega, by omega⟩
      have w3 : Wi px 16777216 := ⟨q1, q2⟩
      have w4 : Wi py 16777216 := ⟨q3, q4⟩
      have m1 := wi_mul w1 w4
      have m2 := wi_mul w2 w3
      obtain ⟨m11, m12⟩ := m1
      obtain ⟨m21, m22⟩ := m2
      have HD := Lib.hid (fun w => Rcross_is gx 0 px py ⟨by omega, by omega⟩ ⟨by omega, by omega⟩ w)
      have HCC : Hid (crs (gx, 0) (px, py) = cr gx 0 px py) := rfl
      rw [HCC.out] at HPS
      generalize cr gx 0 px py = d at *
      clear m11 m12 m21 m22 w1 w2 w3 w4 hmem hg hlen hln hpe e0 e1 HCC
      by_cases hz : d = 0
      · skip
        subst hz
        rw [if_pos rfl] at HPS
        go_upto_region 10 with (fail)
        obtain ⟨c0z0, c1z0⟩ := cells2 B_z0
        have e0 : wr.cell? ⟨g, o + k * 2, none⟩ = some (.int .i64 px) := (PL.elemAt L.out HLT.out HPE.out).1
        have e1 : wr.cell? ⟨g, o + k * 2 + 1, none⟩ = some (.int .i64 py) := (PL.elemAt L.out HLT.out HPE.out).2
        have tk1x0 : True := trivial
        go_region_held3 (fun w' => w'.cell? ⟨g, o + k * 2, none⟩ = some (.int .i64 px) ∧ w'.cell? ⟨g, o + k * 2 + 1, none⟩ = some (.int .i64 py) ∧ w'.cell? ⟨w.heap.size, 0, none⟩ = some (.int .i64 gx) ∧ w'.cell? ⟨w.heap.size, 1, none⟩ = some (.int .i64 0)) (((try dsimp only); (repeat' apply And.intro) <;> (first | (with_reducible assumption) | ((repeat (first | (with_reducible refine Eq.trans (cell_drew1 _ _) ?_) | (with_reducible refine Eq.trans (cell_far (by omega) _ _ _) ?_) | (with_reducible refine Eq.trans (World.cell?_alloc_lt _ _ _ (by first | (dsimp only; omega) | (simp only [World.size_alloc, World.size_setCell]; omega))) ?_))); with_reducible assumption) | assumption | go_keep)))
    (first
      | (clear tk1x0; go_at_call 54; refine (HD.out _).mono ?_; rintro e w1 ⟨rfl, bb⟩; replace bb := nextw (w0 := wr) (by exact sm) bb; replace B_z0 := mv B_z0 bb; replace L := Lib.hid (PL.below L.out bb); replace VR := Lib.hid (OwnP.below VR.out bb); replace HBS := Lib.hid (lebel HBS.out bb); replace HB := nx HB bb; clear bb c0z0 c1z0 e0 e1; have e0 : w1.cell? ⟨g, o + k * 2, none⟩ = some (.int .i64 px) := (PL.elemAt L.out HLT.out HPE.out).1; have e1 : w1.cell? ⟨g, o + k * 2 + 1, none⟩ = some (.int .i64 py) := (PL.elemAt L.out HLT.out HPE.out).2; have c0z0 : w1.cell? ⟨w.heap.size, 0, none⟩ = some (.int .i64 gx) := B_z0.out.cell 0 rfl; have c1z0 : w1.cell? ⟨w.heap.size, 1, none⟩ = some (.int .i64 0) := B_z0.out.cell 1 rfl; have tk1x1 : True := trivial))
        clear c0z0 c1z0 e0 e1
        go_upto_region 12 with (fail)
        obtain ⟨c0z0, c1z0⟩ := cells2 B_z0
        have e0 : w1.cell? ⟨g, o + k * 2, none⟩ = some (.int .i64 px) := (PL.elemAt L.out HLT.out HPE.out).1
        have e1 : w1.cell? ⟨g, o + k * 2 + 1, none⟩ = some (.int .i64 py) := (PL.elemAt L.out HLT.out HPE.out).2
        have ex : IntKind.i64.wrap (px + gx) = px + gx := by rw [IntKind.wrap_i64]; omega
        have ey : IntKind.i64.wrap py = py := by rw [IntKind.wrap_i64]; omega
        have ey2 : IntKind.i64.wrap (py + 0) = py := by rw [IntKind.wrap_i64]; omega
        refine wp_region_held_drew (S := fun w' => w'.cell? ⟨g, o + k * 2, none⟩ = some (.int .i64 px) ∧ w'.cell? ⟨g, o + k * 2 + 1, none⟩ = some (.int .i64 py) ∧ w'.cell? ⟨w.heap.size, 0, none⟩ = some (.int .i64 gx) ∧ w'.cell? ⟨w.heap.size, 1, none⟩ = some (.int .i64 0)) (by kernel_rfl) ?_ (fun hH0 => ?_)
        · ((try dsimp only); (repeat' apply And.intro) <;> (first | (with_reducible assumption) | ((repeat (first | (with_reducible refine Eq.trans (cell_drew1 _ _) ?_) | (with_reducible refine Eq.trans (cell_far (by omega) _ _ _) ?_) | (with_reducible refine Eq.trans (World.cell?_alloc_lt _ _ _ (by first | (dsimp only; omega) | (simp only [World.size_alloc, World.size_setCell]; omega))) ?_))); with_reducible assumption) | assumption | go_keep))
        refine wpAnyH_take (i := 0) (v := ?hv2x0) rfl (by kernel_rfl) (by kernel_rfl) (by kernel_rfl) (fun _ _ _ h => h) (Or.inl ⟨by kernel_rfl, ?hy2x0⟩) (by assumption) ?hr2x0
        case hy2x0 => (intro w hSw; (try dsimp only at hSw); go_simp <;> with_reducible rfl)
        simp only [Act.put, List.setIfInBounds_toArray, List.set_cons_zero, List.set_cons_succ, List.getElem_toArray, List.getElem_cons_zero, List.getElem_cons_succ]
        refine wpAnyH_take (i := 1) (v := ?hv3x1) rfl (by kernel_rfl) (by kernel_rfl) (by kernel_rfl) (fun _ _ _ h => h) (Or.inl ⟨by kernel_rfl, ?hy3x1⟩) (by assumption) ?hr3x1
        case hy3x1 => (intro w hSw; (try dsimp only at hSw); go_simp <;> with_reducible rfl)
        simp only [Act.put, List.setIfInBounds_toArray, List.set_cons_zero, List.set_cons_succ, List.getElem_toArray, List.getElem_cons_zero, List.getElem_cons_succ]
        refine wpAnyH_take (i := 2) (v := ?hv4x2) rfl (by kernel_rfl) (by kernel_rfl) (by kernel_rfl) (fun _ _ _ h => h) (Or.inl ⟨by kernel_rfl, ?hy4x2⟩) (by assumption) ?hr4x2
        case hy4x2 => (intro w hSw; (try dsimp only at hSw); go_simp <;> with_reducible rfl)
        simp only [Act.put, List.setIfInBounds_toArray, List.set_cons_zero, List.set_cons_succ, List.getElem_toArray, List.getElem_cons_zero, List.getElem_cons_succ]
        refine wpAnyH_take (i := 3) (v := ?hv5x3) rfl (by kernel_rfl) (by kernel_rfl) (by kernel_rfl) (fun _ _ _ h => h) (Or.inl ⟨by kernel_rfl, ?hy5x3⟩) (by assumption) ?hr5x3
        case hy5x3 => (intro w hSw; (try dsimp only at hSw); go_simp <;> with_reducible rfl)
        simp only [Act.put, List.setIfInBounds_toArray, List.set_cons_zero, List.set_cons_succ, List.getElem_toArray, List.getElem_cons_zero, List.getElem_cons_succ]
        refine wpAnyH_take (i := 4) (v := ?hv6x4) rfl (by kernel_rfl) (by kernel_rfl) (by kernel_rfl) (fun _ _ _ h => h) (Or.inl ⟨by kernel_rfl, ?hy6x4⟩) (by assumption) ?hr6x4
        case hy6x4 => (intro w hSw; (try dsimp only at hSw); go_simp <;> with_reducible rfl)
        simp only [Act.put, List.setIfInBounds_toArray, List.set_cons_zero, List.set_cons_succ, List.getElem_toArray, List.getElem_cons_zero, List.getElem_cons_succ]
        refine wpAnyH_take (i := 5) (v := ?hv7x5) rfl (by kernel_rfl) (by kernel_rfl) (by kernel_rfl) (fun _ _ _ h => h) (Or.inl ⟨by kernel_rfl, ?hy7x5⟩) (by assumption) ?hr7x5
        case hy7x5 => (intro w hSw; (try dsimp only at hSw); go_simp <;> with_reducible rfl)
        simp only [Act.put, List.setIfInBounds_toArray, List.set_cons_zero, List.set_cons_succ, List.getElem_toArray, List.getElem_cons_zero, List.getElem_cons_succ]
        refine wpAnyH_take (i := 6) (v := ?hv8x6) rfl (by kernel_rfl) (by kernel_rfl) (by kernel_rfl) (fun _ _ _ h => h) (Or.inl ⟨by kernel_rfl, ?hy8x6⟩) (by assumption) ?hr8x6
        case hy8x6 => (intro w hSw; (try dsimp only at hSw); go_simp <;> with_reducible rfl)
        simp only [Act.put, List.setIfInBounds_toArray, List.set_cons_zero, List.set_cons_succ, List.getElem_toArray, List.getElem_cons_zero, List.getElem_cons_succ]
        refine wpAnyH_take (i := 7) (v := ?hv9x7) rfl (by kernel_rfl) (by kernel_rfl) (by kernel_rfl) (fun _ _ _ h => h) (Or.inl ⟨by kernel_rfl, ?hy9x7⟩) (by assumption) ?hr9x7
        case hy9x7 => (intro w hSw; (try dsimp only at hSw); go_simp <;> with_reducible rfl)
        simp only [Act.put, List.setIfInBounds_toArray, List.set_cons_zero, List.set_cons_succ, List.getElem_toArray, List.getElem_cons_zero, List.getElem_cons_succ]
        refine wpAnyH_take (i := 8) (v := ?hv10x8) rfl (by kernel_rfl) (by kernel_rfl) (by kernel_rfl) (fun _ _ _ h => h) (Or.inl ⟨by kernel_rfl, ?hy10x8⟩) (by assumption) ?hr10x8
        case hy10x8 => (intro w hSw; (try dsimp only at hSw); go_simp <;> with_reducible rfl)
        simp only [Act.put, List.setIfInBounds_toArray, List.set_cons_zero, List.set_cons_succ, List.getElem_toArray, List.getElem_cons_zero, List.getElem_cons_succ]
        refine wpAnyH_take (i := 9) (v := ?hv11x9) rfl (by kernel_rfl) (by kernel_rfl) (by kernel_rfl) (fun _ _ _ h => h) (Or.inl ⟨by kernel_rfl, ?hy11x9⟩) (by assumption) ?hr11x9
        case hy11x9 => (intro w hSw; (try dsimp only at hSw); go_simp <;> with_reducible rfl)
        simp only [Act.put, List.setIfInBounds_toArray, List.set_cons_zero, List.set_cons_succ, List.getElem_toArray, List.getElem_cons_zero, List.getElem_cons_succ]
        refine wpAnyH_take (i := 10) (v := ?hv12x10) rfl (by kernel_rfl) (by kernel_rfl) (by kernel_rfl) (fun _ _ _ h => h) (Or.inl ⟨by kernel_rfl, ?hy12x10⟩) (by assumption) ?hr12x10
        case hy12x10 => (intro w hSw; (try dsimp only at hSw); go_simp <;> with_reducible rfl)
        simp only [Act.put, List.setIfInBounds_toArray, List.set_cons_zero, List.set_cons_succ, List.getElem_toArray, List.getElem_cons_zero, List.getElem_cons_succ]
        refine wpAnyH_take (i := 11) (v := ?hv13x11) rfl (by kernel_rfl) (by kernel_rfl) (by kernel_rfl) (fun _ _ _ h => h) (Or.inl ⟨by kernel_rfl, ?hy13x11⟩) (by assumption) ?hr13x11
        case hy13x11 => (intro w hSw; (try dsimp only at hSw); go_simp <;> with_reducible rfl)
        simp only [Act.put, List.setIfInBounds_toArray, List.set_cons_zero, List.set_cons_succ, List.getElem_toArray, List.getElem_cons_zero, List.getElem_cons_succ]
        refine wpAnyH_take (i := 12) (v := ?hv14x12) rfl (by kernel_rfl) (by kernel_rfl) (by kernel_rfl) (fun _ _ _ h => h) (Or.inl ⟨by kernel_rfl, ?hy14x12⟩) (by assumption) ?hr14x12
        case hy14x12 => (intro w hSw; (try dsimp only at hSw); go_simp <;> with_reducible rfl)
        simp only [Act.put, List.setIfInBounds_toArray, List.set_cons_zero, List.set_cons_succ, List.getElem_toArray, List.getElem_cons_zero, List.getElem_cons_succ]
        refine wpAnyH_take (i := 13) (v := ?hv15x13) rfl (by kernel_rfl) (by kernel_rfl) (by kernel_rfl) (fun _ _ _ h => h) (Or.inl ⟨by kernel_rfl, ?hy15x13⟩) (by assumption) ?hr15x13
        case hy15x13 => (intro w hSw; (try dsimp only at hSw); go_simp <;> with_reducible rfl)
        simp only [Act.put, List.setIfInBounds_toArray, List.set_cons_zero, List.set_cons_succ, List.getElem_toArray, List.getElem_cons_zero, List.getElem_cons_succ]
        refine wpAnyH_take (i := 14) (v := ?hv16x14) rfl (by kernel_rfl) (by kernel_rfl) (by kernel_rfl) (fun _ _ _ h => h) (Or.inl ⟨by kernel_rfl, ?hy16x14⟩) (by assumption) ?hr16x14
        case hy16x14 => (intro w hSw; (try dsimp only at hSw); go_simp <;> with_reducible rfl)
        simp only [Act.put, List.setIfInBounds_toArray, List.set_cons_zero, List.set_cons_succ, List.getElem_toArray, List.getElem_cons_zero, List.getElem_cons_succ]
        refine wpAnyH_take (i := 15) (v := ?hv17x15) rfl (by kernel_rfl) (by kernel_rfl) (by kernel_rfl) (fun _ _ _ h => h) (Or.inl ⟨by kernel_rfl, ?hy17x15⟩) (by assumption) ?hr17x15
        case hy17x15 => (intro w hSw; (try dsimp only at hSw); go_simp <;> with_reducible rfl)
        simp only [Act.put, List.setIfInBounds_toArray, List.set_cons_zero, List.set_cons_succ, List.getElem_toArray, List.getElem_cons_zero, List.getElem_cons_succ]
        refine wpAnyH_take (i := 16) (v := ?hv18x16) rfl (by kernel_rfl) (by kernel_rfl) (by kernel_rfl) (fun _ _ _ h => h) (Or.inl ⟨by kernel_rfl, ?hy18x16⟩) (by assumption) ?hr18x16
        case hy18x16 => (intro w hSw; (try dsimp only at hSw); go_simp <;> with_reducible rfl)
        simp only [Act.put, List.setIfInBounds_toArray, List.set_cons_zero, List.set_cons_succ, List.getElem_toArray, List.getElem_cons_zero, List.getElem_cons_succ]
        refine wpAnyH_take (i := 17) (v := ?hv19x17) rfl (by kernel_rfl) (by kernel_rfl) (by kernel_rfl) (fun _ _ _ h => h) (Or.inl ⟨by kernel_rfl, ?hy19x17⟩) (by assumption) ?hr19x17
        case hy19x17 => (intro w hSw; (try dsimp only at hSw); go_simp <;> with_reducible rfl)
        simp only [Act.put, List.setIfInBounds_toArray, List.set_cons_zero, List.set_cons_succ, List.getElem_toArray, List.getElem_cons_zero, List.getElem_cons_succ]
        refine wpAnyH_ready (rs := [18]) (by kernel_rfl) (by simp) ?_
        refine AllReadyH.cons rfl (fun K hK => ?_) AllReadyH.nil
        go_simp
        have bb : Below w1.heap.size w1 ((w1.alloc (.cells #[.int .i64 (px + gx), .int .i64 py] 39)).drew) := nextw (alB' _ _) (by exact sm)
        have B_cc : Hid (Bx ((w1.alloc (.cells #[.int .i64 (px + gx), .int .i64 py] 39)).drew) w1.heap.size 39 #[.int .i64 (px + gx), .int .i64 py]) := Lib.hid (Bx.new w1 _ _)
        replace B_z0 := mv B_z0 bb
        replace L := Lib.hid (PL.below L.out bb)
        replace VR := Lib.hid (OwnP.below VR.out bb)
        replace HBS := Lib.hid (lebel HBS.out bb)
        replace HB := nx HB bb
        clear bb c0z0 c1z0 e0 e1
        generalize (w1.alloc (.cells #[.int .i64 (px + gx), .int .i64 py] 39)).drew = wq at *
        have c0z0 : wq.cell? ⟨w.heap.size, 0, none⟩ = some (.int .i64 gx) := B_z0.out.cell 0 rfl
        have c1z0 : wq.cell? ⟨w.heap.size, 1, none⟩ = some (.int .i64 0) := B_z0.out.cell 1 rfl
        have e0 : wq.cell? ⟨g, o + k * 2, none⟩ = some (.int .i64 px) := (PL.elemAt L.out HLT.out HPE.out).1
        have e1 : wq.cell? ⟨g, o + k * 2 + 1, none⟩ = some (.int .i64 py) := (PL.elemAt L.out HLT.out HPE.out).2
        refine hK.out _ _ ?_ (fun hH1 => ?_)
        · ((try dsimp only); (repeat' apply And.intro) <;> (first | (with_reducible assumption) | ((repeat (first | (with_reducible refine Eq.trans (cell_drew1 _ _) ?_) | (with_reducible refine Eq.trans (cell_far (by omega) _ _ _) ?_) | (with_reducible refine Eq.trans (World.cell?_alloc_lt _ _ _ (by first | (dsimp only; omega) | (simp only [World.size_alloc, World.size_setCell]; omega))) ?_))); with_reducible assumption) | assumption | go_keep))
        clear hK K hH0
        try simp only [Act.put, List.setIfInBounds_toArray, List.set_cons_zero, List.set_cons_succ, List.getElem_toArray, List.getElem_cons_zero, List.getElem_cons_succ]
        obtain ⟨v5, w5, hr5, ho5, hb5⟩ := run_app_pl wq 22 VR.out (pl_1 B_cc.out) (by omega) (by omega) HBS.out
        have nz := Lib.hid (Bx.below B_z0.out hb5 LT_z0.out)
        have nHB := Lib.hid (HB.out.trans (hb5.mono HW.out))
        have nL := Lib.hid (PL.belowB L.out hb5 TL_L.out)
        have nHBS : Hid (base ≤ w5.heap.size) := Nat.le_trans HBS.out hb5.size
        have VR5 := Lib.hid ho5
        clear ho5 hb5
        refine wpAnyH_ready (rs := [19]) (by kernel_rfl) (by simp) ?_
        refine AllReadyH.cons rfl (fun K hK => ?_) AllReadyH.nil
        refine step_app_run rfl _ _ rfl rfl rfl hr5 ?_
        clear hr5 B_z0 B_cc HB L HBS VR c0z0 c1z0 e0 e1
        have B_z0 := nz
        have HB := nHB
        have L := nL
        have HBS := nHBS
        clear nz nHB nL nHBS
        have c0z0 : w5.cell? ⟨w.heap.size, 0, none⟩ = some (.int .i64 gx) := B_z0.out.cell 0 rfl
        have c1z0 : w5.cell? ⟨w.heap.size, 1, none⟩ = some (.int .i64 0) := B_z0.out.cell 1 rfl
        have e0 : w5.cell? ⟨g, o + k * 2, none⟩ = some (.int .i64 px) := (PL.elemAt L.out HLT.out HPE.out).1
        have e1 : w5.cell? ⟨g, o + k * 2 + 1, none⟩ = some (.int .i64 py) := (PL.elemAt L.out HLT.out HPE.out).2
        refine hK.out _ _ ?_ (fun hH2 => ?_)
        · ((try dsimp only); (repeat' apply And.intro) <;> (first | (with_reducible assumption) | ((repeat (first | (with_reducible refine Eq.trans (cell_drew1 _ _) ?_) | (with_reducible refine Eq.trans (cell_far (by omega) _ _ _) ?_) | (with_reducible refine Eq.trans (World.cell?_alloc_lt _ _ _ (by first | (dsimp only; omega) | (simp only [World.size_alloc, World.size_setCell]; omega))) ?_))); with_reducible assumption) | assumption | go_keep))
        clear hK K hH1
        try simp only [Act.put, List.setIfInBounds_toArray, List.set_cons_zero, List.set_cons_succ, List.getElem_toArray, List.getElem_cons_zero, List.getElem_cons_succ]
        refine wpAnyH_take (i := 20) (v := ?hv20x20) rfl (by kernel_rfl) (by kernel_rfl) (by kernel_rfl) (fun _ _ _ h => h) (Or.inl ⟨by kernel_rfl, ?hy20x20⟩) (by assumption) ?hr20x20
        case hy20x20 => (intro w hSw; (try dsimp only at hSw); go_simp <;> with_reducible rfl)
        simp only [Act.put, List.setIfInBounds_toArray, List.set_cons_zero, List.set_cons_succ, List.getElem_toArray, List.getElem_cons_zero, List.getElem_cons_succ]
        refine wpAnyH_done (by kernel_rfl) ?_ _
        clear hH2
        clear e0 e1 c0z0 c1z0
        have VRn : Hid (OwnP w5 base v5 (putS (gx, 0) l (k + 1)).1) := by rw [HPS.out]; show OwnP w5 base v5 (ol ++ [addP (px, py) (gx, 0)]); rw [show addP (px, py) (gx, 0) = (px + gx, py) from by simp [addP]]; exact VR5.out
        have HD1 : Hid ((putS (gx, 0) l (k + 1)).2 = true) := by unfold Hid; rw [HPS.out]
        skip
        all_goals go_wp2_with fail
        go_roundw
        case rel => exact ⟨k + 1, by omega, by go_num, by rw [HD1.out], VRn, HBS, L, B_z0, HB⟩
        case measure => simp only [intOf]; omega
      · skip
        have hd0 : (d == 0) = false := by simpa using hz
        rw [if_neg hz] at HPS
        clear hz
        by_cases hp : 0 < d
        · skip
          cases dl
          · skip
            rw [if_pos ⟨hp, rfl⟩] at HPS
            have od1 : decide (0 < d) = true := decide_eq_true hp
            clear hp
            go_upto_region 10 with (fail)
            obtain ⟨c0z0, c1z0⟩ := cells2 B_z0
            have e0 : wr.cell? ⟨g, o + k * 2, none⟩ = some (.int .i64 px) := (PL.elemAt L.out HLT.out HPE.out).1
            have e1 : wr.cell? ⟨g, o + k * 2 + 1, none⟩ = some (.int .i64 py) := (PL.elemAt L.out HLT.out HPE.out).2
            have tk2x0 : True := trivial
            go_region_held3 (fun w' => w'.cell? ⟨g, o + k * 2, none⟩ = some (.int .i64 px) ∧ w'.cell? ⟨g, o + k * 2 + 1, none⟩ = some (.int .i64 py) ∧ w'.cell? ⟨w.heap.size, 0, none⟩ = some (.int .i64 gx) ∧ w'.cell? ⟨w.heap.size, 1, none⟩ = some (.int .i64 0)) (((try dsimp only); (repeat' apply And.intro) <;> (first | (with_reducible assumption) | ((repeat (first | (with_reducible refine Eq.trans (cell_drew1 _ _) ?_) | (with_reducible refine Eq.trans (cell_far (by omega) _ _ _) ?_) | (with_reducible refine Eq.trans (World.cell?_alloc_lt _ _ _ (by first | (dsimp only; omega) | (simp only [World.size_alloc, World.size_setCell]; omega))) ?_))); with_reducible assumption) | assumption | go_keep)))
    (first
      | (clear tk2x0; go_at_call 54; refine (HD.out _).mono ?_; rintro e w21 ⟨rfl, bb⟩; replace bb := nextw (w0 := wr) (by exact sm) bb; replace B_z0 := mv B_z0 bb; replace L := Lib.hid (PL.below L.out bb); replace VR := Lib.hid (OwnP.below VR.out bb); replace HBS := Lib.hid (lebel HBS.out bb); replace HB := nx HB bb; clear bb c0z0 c1z0 e0 e1; have e0 : w21.cell? ⟨g, o + k * 2, none⟩ = some (.int .i64 px) := (PL.elemAt L.out HLT.out HPE.out).1; have e1 : w21.cell? ⟨g, o + k * 2 + 1, none⟩ = some (.int .i64 py) := (PL.elemAt L.out HLT.out HPE.out).2; have c0z0 : w21.cell? ⟨w.heap.size, 0, none⟩ = some (.int .i64 gx) := B_z0.out.cell 0 rfl; have c1z0 : w21.cell? ⟨w.heap.size, 1, none⟩ = some (.int .i64 0) := B_z0.out.cell 1 rfl; have tk2x1 : True := trivial))
            clear c0z0 c1z0 e0 e1
            go_upto_region 15 with (fail)
            obtain ⟨c0z0, c1z0⟩ := cells2 B_z0
            have HG := Lib.hid (fun wzz (hg : (w21.alloc (.cells #[.int .i64 gx, .int .i64 0] 39)).grownBy wzz (Value.ownBlock u5)) => grown_below VR.out HBS.out hg)
            go_upto_region 17 with (at_builtin; refine wpList_append_own _ rfl _ _ 22 rfl base 39 i0 (.agg #[.int .i64 0, .int .i64 0]) 2 16 Try.underlying22 HI.out hz0 hz1 hz2 rfl (by decide) u5 (ol).length (pts (ol)) rfl (VR.out.alloc _) ⟨w21.heap.size, 0, none⟩ 1 1 (pts [(gx, 0)]) rfl rfl (new_pt w21 _ _) (pts_one _) (by simp only [maxLen]; omega) (by omega) (by have := HBS.out; simp; omega) ?_; intro va22 wa22 hown3 hgrow3 hnil3; have HX3 := Lib.hid hown3; have HY3 := Lib.hid (HG.out _ hgrow3); clear hown3 hgrow3 hnil3)
            have VRn : Hid (OwnP wa22 base va22 (ol ++ [(gx, 0)])) := by have h := HX3.out; rw [pts_append] at h; unfold Hid OwnP; rw [List.length_append]; exact h
            replace B_z0 := Lib.hid (Bx.below B_z0.out HY3.out LT_z0.out)
            replace L := Lib.hid (PL.belowB L.out HY3.out TL_L.out)
            replace HB := Lib.hid (HB.out.trans (HY3.out.mono HW.out))
            replace HBS := Lib.hid (Nat.le_trans HBS.out HY3.out.size)
            clear HX3 HY3 HG
            clear c0z0 c1z0
            clear VR
            have hol2 : (ol ++ [(gx, 0)]).length ≤ 2001 := by simp; omega
            generalize ol ++ [(gx, 0)] = ol2 at *
            have e0 : wa22.cell? ⟨g, o + k * 2, none⟩ = some (.int .i64 px) := (PL.elemAt L.out HLT.out HPE.out).1
            have e1 : wa22.cell? ⟨g, o + k * 2 + 1, none⟩ = some (.int .i64 py) := (PL.elemAt L.out HLT.out HPE.out).2
            have HG := Lib.hid (fun wzz (hg : (wa22.alloc (.cells #[.int .i64 px, .int .i64 py] 39)).grownBy wzz (Value.ownBlock va22)) => grown_below VRn.out HBS.out hg)
            go_wp2_with (at_builtin; refine wpList_append_own _ rfl _ _ 22 rfl base 39 i0 (.agg #[.int .i64 0, .int .i64 0]) 2 16 Try.underlying22 HI.out hz0 hz1 hz2 rfl (by decide) va22 (ol2).length (pts (ol2)) rfl (VRn.out.alloc _) ⟨wa22.heap.size, 0, none⟩ 1 1 (pts [(px, py)]) rfl rfl (new_pt wa22 _ _) (pts_one _) (by simp only [maxLen]; omega) (by omega) (by have := HBS.out; simp; omega) ?_; intro va23 wa23 hown3 hgrow3 hnil3; have HX3 := Lib.hid hown3; have HY3 := Lib.hid (HG.out _ hgrow3); clear hown3 hgrow3 hnil3)
            have VRm : Hid (OwnP wa23 base va23 (ol2 ++ [(px, py)])) := by have h := HX3.out; rw [pts_append] at h; unfold Hid OwnP; rw [List.length_append]; exact h
            replace B_z0 := Lib.hid (Bx.below B_z0.out HY3.out LT_z0.out)
            replace L := Lib.hid (PL.belowB L.out HY3.out TL_L.out)
            replace HB := Lib.hid (HB.out.trans (HY3.out.mono HW.out))
            replace HBS := Lib.hid (Nat.le_trans HBS.out HY3.out.size)
            clear HX3 HY3 HG
            have VRk : Hid (OwnP wa23 base va23 (putS (gx, 0) l (k + 1)).1) := by rw [HPS.out]; exact VRm.out
            have HD1 : Hid ((putS (gx, 0) l (k + 1)).2 = true) := by unfold Hid; rw [HPS.out]
            all_goals go_wp2_with fail
            clear e0 e1
            go_roundw
            case rel => exact ⟨k + 1, by omega, by go_num, by rw [HD1.out], VRk, HBS, L, B_z0, HB⟩
            case measure => simp only [intOf]; omega
          · skip
            rw [if_neg (by simp)] at HPS
            have od1 : decide (0 < d) = true := decide_eq_true hp
            clear hp
            go_upto_region 10 with (fail)
            obtain ⟨c0z0, c1z0⟩ := cells2 B_z0
            have e0 : wr.cell? ⟨g, o + k * 2, none⟩ = some (.int .i64 px) := (PL.elemAt L.out HLT.out HPE.out).1
            have e1 : wr.cell? ⟨g, o + k * 2 + 1, none⟩ = some (.int .i64 py) := (PL.elemAt L.out HLT.out HPE.out).2
            have tk3x0 : True := trivial
            go_region_held3 (fun w' => w'.cell? ⟨g, o + k * 2, none⟩ = some (.int .i64 px) ∧ w'.cell? ⟨g, o + k * 2 + 1, none⟩ = some (.int .i64 py) ∧ w'.cell? ⟨w.heap.size, 0, none⟩ = some (.int .i64 gx) ∧ w'.cell? ⟨w.heap.size, 1, none⟩ = some (.int .i64 0)) (((try dsimp only); (repeat' apply And.intro) <;> (first | (with_reducible assumption) | ((repeat (first | (with_reducible refine Eq.trans (cell_drew1 _ _) ?_) | (with_reducible refine Eq.trans (cell_far (by omega) _ _ _) ?_) | (with_reducible refine Eq.trans (World.cell?_alloc_lt _ _ _ (by first | (dsimp only; omega) | (simp only [World.size_alloc, World.size_setCell]; omega))) ?_))); with_reducible assumption) | assumption | go_keep)))
    (first
      | (clear tk3x0; go_at_call 54; refine (HD.out _).mono ?_; rintro e w24 ⟨rfl, bb⟩; replace bb := nextw (w0 := wr) (by exact sm) bb; replace B_z0 := mv B_z0 bb; replace L := Lib.hid (PL.below L.out bb); replace VR := Lib.hid (OwnP.below VR.out bb); replace HBS := Lib.hid (lebel HBS.out bb); replace HB := nx HB bb; clear bb c0z0 c1z0 e0 e1; have e0 : w24.cell? ⟨g, o + k * 2, none⟩ = some (.int .i64 px) := (PL.elemAt L.out HLT.out HPE.out).1; have e1 : w24.cell? ⟨g, o + k * 2 + 1, none⟩ = some (.int .i64 py) := (PL.elemAt L.out HLT.out HPE.out).2; have c0z0 : w24.cell? ⟨w.heap.size, 0, none⟩ = some (.int .i64 gx) := B_z0.out.cell 0 rfl; have c1z0 : w24.cell? ⟨w.heap.size, 1, none⟩ = some (.int .i64 0) := B_z0.out.cell 1 rfl; have tk3x1 : True := trivial))
            clear c0z0 c1z0 e0 e1
            go_upto_region 17 with (fail)
            have e0 : w24.cell? ⟨g, o + k * 2, none⟩ = some (.int .i64 px) := (PL.elemAt L.out HLT.out HPE.out).1
            have e1 : w24.cell? ⟨g, o + k * 2 + 1, none⟩ = some (.int .i64 py) := (PL.elemAt L.out HLT.out HPE.out).2
            have HG := Lib.hid (fun wzz (hg : (w24.alloc (.cells #[.int .i64 px, .int .i64 py] 39)).grownBy wzz (Value.ownBlock u5)) => grown_below VR.out HBS.out hg)
            go_wp2_with (at_builtin; refine wpList_append_own _ rfl _ _ 22 rfl base 39 i0 (.agg #[.int .i64 0, .int .i64 0]) 2 16 Try.underlying22 HI.out hz0 hz1 hz2 rfl (by decide) u5 (ol).length (pts (ol)) rfl (VR.out.alloc _) ⟨w24.heap.size, 0, none⟩ 1 1 (pts [(px, py)]) rfl rfl (new_pt w24 _ _) (pts_one _) (by simp only [maxLen]; omega) (by omega) (by have := HBS.out; simp; omega) ?_; intro va25 wa25 hown3 hgrow3 hnil3; have HX3 := Lib.hid hown3; have HY3 := Lib.hid (HG.out _ hgrow3); clear hown3 hgrow3 hnil3)
            have VRm : Hid (OwnP wa25 base va25 (ol ++ [(px, py)])) := by have h := HX3.out; rw [pts_append] at h; unfold Hid OwnP; rw [List.length_append]; exact h
            replace B_z0 := Lib.hid (Bx.below B_z0.out HY3.out LT_z0.out)
            replace L := Lib.hid (PL.belowB L.out HY3.out TL_L.out)
            replace HB := Lib.hid (HB.out.trans (HY3.out.mono HW.out))
            replace HBS := Lib.hid (Nat.le_trans HBS.out HY3.out.size)
            clear HX3 HY3 HG
            have VRk : Hid (OwnP wa25 base va25 (putS (gx, 0) l (k + 1)).1) := by rw [HPS.out]; exact VRm.out
            have HD1 : Hid ((putS (gx, 0) l (k + 1)).2 = true) := by unfold Hid; rw [HPS.out]
            all_goals go_wp2_with fail
            clear e0 e1
            go_roundw
            case rel => exact ⟨k + 1, by omega, by go_num, by rw [HD1.out], VRk, HBS, L, B_z0, HB⟩
            case measure => simp only [intOf]; omega
        · skip
          rw [if_neg (fun h => hp h.1)] at HPS
          have od1 : decide (0 < d) = false := decide_eq_false hp
          clear hp
          go_upto_region 10 with (fail)
          obtain ⟨c0z0, c1z0⟩ := cells2 B_z0
          have e0 : wr.cell? ⟨g, o + k * 2, none⟩ = some (.int .i64 px) := (PL.elemAt L.out HLT.out HPE.out).1
          have e1 : wr.cell? ⟨g, o + k * 2 + 1, none⟩ = some (.int .i64 py) := (PL.elemAt L.out HLT.out HPE.out).2
          have tk4x0 : True := trivial
          go_region_held3 (fun w' => w'.cell? ⟨g, o + k * 2, none⟩ = some (.int .i64 px) ∧ w'.cell? ⟨g, o + k * 2 + 1, none⟩ = some (.int .i64 py) ∧ w'.cell? ⟨w.heap.size, 0, none⟩ = some (.int .i64 gx) ∧ w'.cell? ⟨w.heap.size, 1, none⟩ = some (.int .i64 0)) (((try dsimp only); (repeat' apply And.intro) <;> (first | (with_reducible assumption) | ((repeat (first | (with_reducible refine Eq.trans (cell_drew1 _ _) ?_) | (with_reducible refine Eq.trans (cell_far (by omega) _ _ _) ?_) | (with_reducible refine Eq.trans (World.cell?_alloc_lt _ _ _ (by first | (dsimp only; omega) | (simp only [World.size_alloc, World.size_setCell]; omega))) ?_))); with_reducible assumption) | assumption | go_keep)))
    (first
      | (clear tk4x0; go_at_call 54; refine (HD.out _).mono ?_; rintro e w26 ⟨rfl, bb⟩; replace bb := nextw (w0 := wr) (by exact sm) bb; replace B_z0 := mv B_z0 bb; replace L := Lib.hid (PL.below L.out bb); replace VR := Lib.hid (OwnP.below VR.out bb); replace HBS := Lib.hid (lebel HBS.out bb); replace HB := nx HB bb; clear bb c0z0 c1z0 e0 e1; have e0 : w26.cell? ⟨g, o + k * 2, none⟩ = some (.int .i64 px) := (PL.elemAt L.out HLT.out HPE.out).1; have e1 : w26.cell? ⟨g, o + k * 2 + 1, none⟩ = some (.int .i64 py) := (PL.elemAt L.out HLT.out HPE.out).2; have c0z0 : w26.cell? ⟨w.heap.size, 0, none⟩ = some (.int .i64 gx) := B_z0.out.cell 0 rfl; have c1z0 : w26.cell? ⟨w.heap.size, 1, none⟩ = some (.int .i64 0) := B_z0.out.cell 1 rfl; have tk4x1 : True := trivial))
          clear c0z0 c1z0 e0 e1
          go_upto_region 17 with (fail)
          have e0 : w26.cell? ⟨g, o + k * 2, none⟩ = some (.int .i64 px) := (PL.elemAt L.out HLT.out HPE.out).1
          have e1 : w26.cell? ⟨g, o + k * 2 + 1, none⟩ = some (.int .i64 py) := (PL.elemAt L.out HLT.out HPE.out).2
          have HG := Lib.hid (fun wzz (hg : (w26.alloc (.cells #[.int .i64 px, .int .i64 py] 39)).grownBy wzz (Value.ownBlock u5)) => grown_below VR.out HBS.out hg)
          go_wp2_with (at_builtin; refine wpList_append_own _ rfl _ _ 22 rfl base 39 i0 (.agg #[.int .i64 0, .int .i64 0]) 2 16 Try.underlying22 HI.out hz0 hz1 hz2 rfl (by decide) u5 (ol).length (pts (ol)) rfl (VR.out.alloc _) ⟨w26.heap.size, 0, none⟩ 1 1 (pts [(px, py)]) rfl rfl (new_pt w26 _ _) (pts_one _) (by simp only [maxLen]; omega) (by omega) (by have := HBS.out; simp; omega) ?_; intro va27 wa27 hown3 hgrow3 hnil3; have HX3 := Lib.hid hown3; have HY3 := Lib.hid (HG.out _ hgrow3); clear hown3 hgrow3 hnil3)
          have VRm : Hid (OwnP wa27 base va27 (ol ++ [(px, py)])) := by have h := HX3.out; rw [pts_append] at h; unfold Hid OwnP; rw [List.length_append]; exact h
          replace B_z0 := Lib.hid (Bx.below B_z0.out HY3.out LT_z0.out)
          replace L := Lib.hid (PL.belowB L.out HY3.out TL_L.out)
          replace HB := Lib.hid (HB.out.trans (HY3.out.mono HW.out))
          replace HBS := Lib.hid (Nat.le_trans HBS.out HY3.out.size)
          clear HX3 HY3 HG
          have VRk : Hid (OwnP wa27 base va27 (putS (gx, 0) l (k + 1)).1) := by rw [HPS.out]; exact VRm.out
          have HD1 : Hid ((putS (gx, 0) l (k + 1)).2 = dl) := by unfold Hid; rw [HPS.out]
          all_goals go_wp2_with fail
          clear e0 e1
          go_roundw
          case rel => exact ⟨k + 1, by omega, by go_num, by rw [HD1.out], VRk, HBS, L, B_z0, HB⟩
          case measure => simp only [intOf]; omega
    · skip
      obtain rfl : k = n := by omega
      have hlen := L.out.len
      have hq := putS_putD (gx, 0) l k (by omega)
      rw [List.drop_of_length_le (by omega)] at hq
      have hln := putS_len (gx, 0) l k
      generalize putS (gx, 0) l k = st at *
      obtain ⟨ol, dl⟩ := st
      dsimp only at VR hq hln
      have hol : ol.length ≤ 900 := by omega
      clear hlen hln
      cases dl
      · skip
        have HQ : Hid (putD (gx, 0) false l = ol ++ [(gx, 0)]) := by unfold Hid; rw [hq]; simp [putD]
        clear hq
        go_upto_region 19 with (fail)
        obtain ⟨c0z0, c1z0⟩ := cells2 B_z0
        have HG := Lib.hid (fun wzz (hg : (wr.alloc (.cells #[.int .i64 gx, .int .i64 0] 39)).grownBy wzz (Value.ownBlock u5)) => grown_below VR.out HBS.out hg)
        go_upto_region 20 with (at_builtin; refine wpList_append_own _ rfl _ _ 22 rfl base 39 i0 (.agg #[.int .i64 0, .int .i64 0]) 2 16 Try.underlying22 HI.out hz0 hz1 hz2 rfl (by decide) u5 (ol).length (pts (ol)) rfl (VR.out.alloc _) ⟨wr.heap.size, 0, none⟩ 1 1 (pts [(gx, 0)]) rfl rfl (new_pt wr _ _) (pts_one _) (by simp only [maxLen]; omega) (by omega) (by have := HBS.out; simp; omega) ?_; intro va28 wa28 hown3 hgrow3 hnil3; have HX3 := Lib.hid hown3; have HY3 := Lib.hid (HG.out _ hgrow3); clear hown3 hgrow3 hnil3)
        have VRn : Hid (OwnP wa28 base va28 (ol ++ [(gx, 0)])) := by have h := HX3.out; rw [pts_append] at h; unfold Hid OwnP; rw [List.length_append]; exact h
        replace B_z0 := Lib.hid (Bx.below B_z0.out HY3.out LT_z0.out)
        replace L := Lib.hid (PL.belowB L.out HY3.out TL_L.out)
        replace HB := Lib.hid (HB.out.trans (HY3.out.mono HW.out))
        replace HBS := Lib.hid (Nat.le_trans HBS.out HY3.out.size)
        clear HX3 HY3 HG
        clear c0z0 c1z0 VR
        obtain ⟨A5, c5, e5, p5, -⟩ := VRn.out.pl
        subst e5
        have P5 := Lib.hid p5
        clear p5 VRn
        have HE : Hid ((ol ++ [(gx, 0)]).length = (putD (gx, 0) false l).length) := by unfold Hid; rw [HQ.out]
        generalize (ol ++ [(gx, 0)]) = fl at *
        go_wp2
        go_ret
        exact ⟨A5, c5, congrArg (fun t => Ending.returned (.slice A5 t c5)) HE.out, by rw [HQ.out]; exact PL.outw P5.out HW.out, HB.out⟩
      · skip
        have HQ : Hid (putD (gx, 0) false l = ol) := by unfold Hid; rw [hq]; simp [putD]
        clear hq
        obtain ⟨A5, c5, e5, p5, -⟩ := VR.out.pl
        subst e5
        have P5 := Lib.hid p5
        clear p5 VR
        have HE : Hid (ol.length = (putD (gx, 0) false l).length) := by unfold Hid; rw [HQ.out]
        skip
        go_wp2
        go_ret
        exact ⟨A5, c5, congrArg (fun t => Ending.returned (.slice A5 t c5)) HE.out, by rw [HQ.out]; exact PL.outw P5.out HW.out, HB.out⟩

theorem put_is (a b : Int) (A : Option Addr) (n c : Nat) (l : List P2) (hn : n ≤ 400) (hl : ∀ p ∈ l, Bd 16777216 p) (hg : Bd 16777216 (a, b)) (hne : (a, b) ≠ (0, 0)) (w : World) {lo hi : Nat} (L : PL w lo hi A n c l) :
    Calls Try.prog 75 #[.slice A n c, .agg #[.int .i64 a, .int .i64 b]] w fun e w' => ∃ A' c', e = .returned (.slice A' (putZ l (a, b)).length c') ∧ PL w' w.heap.size w'.heap.size A' (putZ l (a, b)).length c' (putZ l (a, b)) ∧ Below w.heap.size w w' := by
  have hz : putZ l (a, b) = putD (upP (a, b)) false l := if_neg hne
  have hu := Bd.up hg
  rw [hz]
  by_cases hb : b < 0
  · have hd : Dn a b := Or.inl hb
    have e : upP (a, b) = (-a, -b) := by unfold upP upX upY; rw [if_pos hd, if_pos hd]
    rw [e] at hu ⊢
    have h := put_n (-a) (-b) A n c l hn hl hu (by omega) w L
    rw [Int.neg_neg, Int.neg_neg] at h
    exact h
  · by_cases hb0 : b = 0
    · subst hb0
      by_cases ha : a < 0
      · have hd : Dn a 0 := Or.inr ⟨rfl, ha⟩
        have e : upP (a, 0) = (-a, 0) := by unfold upP upX upY; rw [if_pos hd, if_pos hd]; rfl
        rw [e] at hu ⊢
        have h := put_f (-a) A n c l hn hl hu (by omega) w L
        rw [Int.neg_neg] at h
        exact h
      · have ha0 : 0 < a := by
          rcases Int.lt_trichotomy a 0 with h | h | h
          · omega
          · subst h; exact absurd rfl hne
          · exact h
        have hd : ¬ Dn a 0 := by unfold Dn; omega
        have e : upP (a, 0) = (a, 0) := by unfold upP upX upY; rw [if_neg hd, if_neg hd]
        rw [e] at hu ⊢
        exact put_z a A n c l hn hl hu ha0 w L
    · have hd : ¬ Dn a b := by unfold Dn; omega
      have e : upP (a, b) = (a, b) := by unfold upP upX upY; rw [if_neg hd, if_neg hd]
      rw [e] at hu ⊢
      exact put_p a b A n c l hn hl hu (by omega) w L
end Go.Proofs.Ytpjbkadhmjlpfaa
