/- zonogon.Corners. -/
import Derived.Test.YtpjbkadhmjlpfaaZ15
set_option linter.unusedVariables false
set_option linter.unusedSimpArgs false
namespace Go.Proofs.Ytpjbkadhmjlpfaa
open Go Go.RowKit Hd

/-- The point moved by s times each of the first k vectors. -/
def mvp (a : P2) (s : Int) (l : List P2) : Nat → P2
  | 0 => a
  | k + 1 => ((mvp a s l k).1 + s * (l.getD k z2).1, (mvp a s l k).2 + s * (l.getD k z2).2)
/-- The points on the way. -/
def vis (a : P2) (s : Int) (l : List P2) : Nat → List P2
  | 0 => []
  | k + 1 => vis a s l k ++ [mvp a s l (k + 1)]
theorem vis_len (a : P2) (s : Int) (l : List P2) (k : Nat) : (vis a s l k).length = k := by
  induction k with
  | zero => rfl
  | succ k ih => simp [vis, ih]
theorem mvp_bd {a : P2} {s : Int} {l : List P2} {M N : Int} (ha : Bd M a) (hs : -2 ≤ s ∧ s ≤ 2) (hl : ∀ p ∈ l, Bd N p) (k : Nat) (hk : k ≤ l.length) : Bd (M + k * (2 * N)) (mvp a s l k) := by
  induction k with
  | zero => simpa [mvp] using ha
  | succ k ih =>
    have h1 := ih (by omega)
    have h2 := hl _ (getD_mem (z := z2) (show k < l.length by omega))
    have e : mvp a s l (k + 1) = ((mvp a s l k).1 + s * (l.getD k z2).1, (mvp a s l k).2 + s * (l.getD k z2).2) := rfl
    have e2 : ((k + 1 : Nat) : Int) * (2 * N) = k * (2 * N) + 2 * N := by rw [Int.natCast_add, Int.add_mul]; omega
    rw [e, e2]
    generalize l.getD k z2 = g at *
    generalize mvp a s l k = q at *
    obtain ⟨⟨a1, a2⟩, a3, a4⟩ := h1
    have w1 := wi_mul (A := 2) (⟨by omega, by omega⟩ : Wi s 2) h2.1
    have w2 := wi_mul (A := 2) (⟨by omega, by omega⟩ : Wi s 2) h2.2
    obtain ⟨b1, b2⟩ := w1
    obtain ⟨b3, b4⟩ := w2
    generalize (k : Int) * (2 * N) = t at *
    exact ⟨⟨by dsimp only; omega, by dsimp only; omega⟩, by dsimp only; omega, by dsimp only; omega⟩
/-- The corners of a canonical form. -/
def cornW (a : P2) (g : List P2) : List P2 := [mvp a (-1) g g.length] ++ vis (mvp a (-1) g g.length) 2 g g.length ++ vis (mvp (mvp a (-1) g g.length) 2 g g.length) (-2) g g.length
def cornL (a : P2) (g : List P2) : List P2 := (cornW a g).take (max 1 ((cornW a g).length - 1))
theorem OwnP.far {w : World} {base x : Nat} {v : Value} {l : List P2} (h : OwnP w base v l) (hx : x < base) (k : Nat) (u : Value) : OwnP (w.setCell ⟨x, k, none⟩ u) base v l := by
  refine ⟨h.1, ?_⟩
  rcases h.2 with h2 | ⟨g, cap, cur, rfl, hg, hh, r⟩
  · exact .inl h2
  · exact .inr ⟨g, cap, cur, rfl, hg, (heap_setCell_other w ⟨x, k, none⟩ g u (by show g ≠ x; omega)).trans hh, r⟩

theorem sign_0 (w : World) : (Instr.index 62 (.agg #[.int .i64 1, .int .i64 (-1)]) (.int .i64 0)).run Try.prog w = .ok (.int .i64 1) w := by kernel_rfl
theorem sign_1 (w : World) : (Instr.index 62 (.agg #[.int .i64 1, .int .i64 (-1)]) (.int .i64 1)).run Try.prog w = .ok (.int .i64 (-1)) w := by kernel_rfl

set_option maxRecDepth 100000 in
set_option maxHeartbeats 4000000 in
theorem Corners_w1 (x y : Int) (A : Option Addr) (n c : Nat) (l : List P2)  (hn : n ≤ 1000) (dd0 : ¬ (OkZ x y l)) (w : World) {lo_L hi_L : Nat} (L : PL w lo_L hi_L A n c l) :
    Calls Try.prog 25 #[.agg #[.int .i64 x, .int .i64 y, .slice A n c]] w fun e w' => e = .returned (.slice none 0 0) ∧ Below w.heap.size w w' := by
  replace L := Lib.hid L
  obtain ⟨HB, B_z0⟩ := box1 w 24 #[.int .i64 x, .int .i64 y, .slice A n c]
  replace L := Lib.hid (PL.below L.out HB.out)
  go_enter Try.func25, Try.ntmps25
  go_upto_region 1 with (fail)
  generalize w.alloc (.cells #[.int .i64 x, .int .i64 y, .slice A n c] 24) = W0 at *
  obtain ⟨c0z0, c1z0, c2z0⟩ := cells3 B_z0
  go_wp2_with fail
  refine (Valid_no dd0 (by omega) _ (PL.below L.out (by exact sm))).mono ?_
  clear c0z0 c1z0 c2z0
  rintro e w1 ⟨rfl, bb⟩
  replace bb := nextw (w0 := W0) (by exact sm) bb
  replace B_z0 := mv B_z0 bb
  replace L := Lib.hid (PL.below L.out bb)
  replace HB := nx HB bb
  clear bb
  go_wp2
  go_ret
  exact ⟨(by first | rfl | exact rbt (by omega) | exact rbf (by omega)), nextw HB.out (by exact sm)⟩

set_option maxRecDepth 100000 in
set_option maxHeartbeats 4000000 in
theorem Corners_yes (x y : Int) (A : Option Addr) (n c : Nat) (l : List P2) (hn : n ≤ 1000) (hz : OkZ x y l) (w : World) {lo_L hi_L : Nat} (L : PL w lo_L hi_L A n c l) :
    Calls Try.prog 25 #[.agg #[.int .i64 x, .int .i64 y, .slice A n c]] w fun e w' => ∃ A' c', e = .returned (.slice A' (cornL (x, y) (canL l)).length c') ∧ PL w' w.heap.size w'.heap.size A' (cornL (x, y) (canL l)).length c' (cornL (x, y) (canL l)) ∧ Below w.heap.size w w' := by
  have x1 := hz.1.1
  have x2 := hz.1.2
  have y1 := hz.2.1.1
  have y2 := hz.2.1.2
  obtain ⟨i0, hi0, hz0, hz1, hz2⟩ := info_parts info2
  have HI := Lib.hid hi0
  clear hi0
  have HAB : Hid (Bd 8388608 (x, y)) := ⟨⟨by omega, by omega⟩, by omega, by omega⟩
  have HCN := Lib.hid (fun (w : World) (lo hi : Nat) (M : PL w lo hi A n c l) => canonical_is x y A n c l hn (okz_bd hz) w M)
  have hq := canL_all (okz_bd6 hz) (by decide)
  have hq2 := okz_len hz
  have hgl : (canL l).length ≤ 16 := by omega
  have HGB : Hid (∀ p ∈ canL l, Bd 1048576 p) := fun p hp => (hq.1 p hp).mono (by omega)
  have HCS : Hid (cornL (x, y) (canL l) = cornL (x, y) (canL l)) := rfl
  clear hq hq2
  generalize canL l = gl at *
  clear HCS
  have hfd := field_gens
  have hs0 := sign_0
  have hs1 := sign_1
  replace L := Lib.hid L
  obtain ⟨HB, B_z0⟩ := box1 w 24 #[.int .i64 x, .int .i64 y, .slice A n c]
  replace L := plm L HB.out
  go_enter Try.func25, Try.ntmps25
  go_upto_region 1 with (fail)
  generalize w.alloc (.cells #[.int .i64 x, .int .i64 y, .slice A n c] 24) = W0 at *
  obtain ⟨c0z0, c1z0, c2z0⟩ := cells3 B_z0
  go_wp2_with fail
  refine (Valid_yes hz (by omega) _ (PL.below L.out (by exact sm))).mono ?_
  clear c0z0 c1z0 c2z0
  rintro e w1 ⟨rfl, bb⟩
  replace bb := nextw (w0 := W0) (by exact sm) bb
  replace B_z0 := mv B_z0 bb
  replace L := Lib.hid (PL.below L.out bb)
  replace HB := nx HB bb
  clear bb
  obtain ⟨c0z0, c1z0, c2z0⟩ := cells3 B_z0
  go_wp2_with fail
  refine (HCN.out _ _ _ (PL.below L.out (by exact sm))).mono ?_
  clear c0z0 c1z0 c2z0
  rintro e w2 ⟨A1, c1, rfl, LC, bb⟩
  replace bb := nextw (w0 := w1) (by exact sm) bb
  replace B_z0 := mv B_z0 bb
  replace L := Lib.hid (PL.below L.out bb)
  replace HB := nx HB bb
  clear bb
  have LC2 := Lib.hid LC
  clear LC
  obtain ⟨lo_LC, hi_LC, hLC, LC⟩ : ∃ lo hi, Hid (hi ≤ w2.heap.size) ∧ Hid (PL w2 lo hi A1 gl.length c1 gl) := ⟨_, _, LC2.out.top, LC2⟩
  clear LC2
  obtain ⟨c0z0, c1z0, c2z0⟩ := cells3 B_z0
  go_wp2_with fail
  refine (middle_is x y A n c l _ (PL.below L.out (by exact sm))).mono ?_
  clear c0z0 c1z0 c2z0
  rintro e w3 ⟨rfl, bb⟩
  replace bb := nextw (w0 := w2) (by exact sm) bb
  replace B_z0 := mv B_z0 bb
  replace LC := Lib.hid (PL.below LC.out bb)
  replace L := Lib.hid (PL.below L.out bb)
  replace HB := nx HB bb
  clear bb
  replace hLC : Hid (hi_LC ≤ w3.heap.size) := LC.out.top
  clear L
  have hpa0 : w.heap.size < w3.heap.size := B_z0.out.lt
  have lt_atz0 := B_z0.out.lt
  obtain ⟨bb, B_at⟩ := box1 w3 39 #[.int .i64 x, .int .i64 y]
  replace bb := bb.out
  replace B_z0 := mv B_z0 bb
  replace LC := Lib.hid (PL.below LC.out bb)
  replace HB := nx HB bb
  clear bb
  go_wp2_with fail
  generalize w3.alloc (.cells #[.int .i64 x, .int .i64 y] 39) = WA at *
  generalize w3.heap.size = pa at *
  clear B_z0
  have hgl2 : gl.length ≤ 16 := hgl
  go_loopw [22] (fun  kk wx => ∃ (k : Nat), k ≤ gl.length ∧ kk = .int .i64 k ∧ Hid (Bx wx (pa) 39 #[.int .i64 ((mvp (x, y) (-1) gl k).1), .int .i64 ((mvp (x, y) (-1) gl k).2)]) ∧ Hid (PL wx lo_LC hi_LC A1 gl.length c1 gl) ∧ Hid (Below w.heap.size w wx)) (fun  kk _ => gl.length - (intOf kk).toNat)
  case atStart => exact ⟨0, by omega, rfl, by simpa [mvp] using B_at, LC, HB⟩
  case round =>
    clear B_at LC HB
    obtain ⟨k, hk, rfl, B_at, LC, HB⟩ := hrel
    by_cases hlt : k < gl.length
    · skip
      obtain ⟨g, o, eA, hg, e0, e1⟩ := LC.out.elem hlt
      have hlen := LC.out.len
      have hmem : gl.getD k z2 ∈ gl := getD_mem (by omega)
      have HT := Lib.hid (take_snoc gl z2 (k := k) (by omega))
      subst eA
      have hb := mvp_bd (a := (x, y)) (s := -1) (M := 8388608) (N := 1048576) HAB.out (by decide) HGB.out k (by omega)
      have hg1 := HGB.out _ hmem
      have HMV : Hid (mvp (x, y) (-1) gl (k + 1) = ((mvp (x, y) (-1) gl k).1 + (-1) * (gl.getD k z2).1, (mvp (x, y) (-1) gl k).2 + (-1) * (gl.getD k z2).2)) := rfl
      have HVS : Hid (vis (x, y) (-1) gl (k + 1) = vis (x, y) (-1) gl k ++ [mvp (x, y) (-1) gl (k + 1)]) := rfl
      generalize gl.getD k z2 = q at *
      obtain ⟨px, py⟩ := q
      generalize mvp (x, y) (-1) gl k = qa at *
      obtain ⟨ax, ay⟩ := qa
      dsimp only at e0 e1
      obtain ⟨⟨b1, b2⟩, b3, b4⟩ := hb
      obtain ⟨⟨g1, g2⟩, g3, g4⟩ := hg1
      dsimp only at b1 b2 b3 b4 g1 g2 g3 g4
      have hk16 : (k : Int) * (2 * 1048576) ≤ 33554432 := by omega
      clear hmem hg hlen
      have ea : IntKind.i64.wrap (ax - px) = ax - px := by rw [IntKind.wrap_i64]; omega
      have eb : IntKind.i64.wrap (ay - py) = ay - py := by rw [IntKind.wrap_i64]; omega
      have lta := B_at.out.lt
      have lt_gat := B_at.out.lt
      obtain ⟨bb, B_g⟩ := box1 wr 39 #[.int .i64 px, .int .i64 py]
      replace bb := bb.out
      replace B_at := mv B_at bb
      replace LC := Lib.hid (PL.below LC.out bb)
      replace HB := nx HB bb
      clear bb
      go_upto_region 8 with (fail)
      generalize wr.alloc (.cells #[.int .i64 px, .int .i64 py] 39) = WG at *
      clear e0 e1
      obtain ⟨c0at, c1at⟩ := cells2 B_at
      obtain ⟨c0g, c1g⟩ := cells2 B_g
      obtain ⟨f0at, f1at⟩ := froz2 B_at
      have ne_g : Hid ((wr.heap.size) ≠ (pa)) := by unfold Hid; omega
      have n_at : Hid (Bx ((WG.setCell ⟨pa, 0, none⟩ (.int .i64 (ax - px))).setCell ⟨pa, 1, none⟩ (.int .i64 (ay - py))) (pa) 39 #[.int .i64 (ax - px), .int .i64 (ay - py)]) := (B_at.out.set 0 (.int .i64 (ax - px))).set 1 (.int .i64 (ay - py))
      have n_g := far2 B_g ne_g.out 0 (.int .i64 (ax - px)) 1 (.int .i64 (ay - py))
      have nHB := stb2 HB (y := pa) (by omega) 0 (.int .i64 (ax - px)) 1 (.int .i64 (ay - py))
      have n_LC := Lib.hid (PL.set (PL.set LC.out (Or.inr hLC.out) 0 (.int .i64 (ax - px))) (Or.inr hLC.out) 1 (.int .i64 (ay - py)))
      go_wp2_with fail
      clear c0at c1at c0g c1g f0at f1at
      clear ne_g
      generalize (WG.setCell ⟨pa, 0, none⟩ (.int .i64 (ax - px))).setCell ⟨pa, 1, none⟩ (.int .i64 (ay - py)) = WS at *
      clear B_at
      have B_at := n_at
      clear n_at
      clear B_g
      have B_g := n_g
      clear n_g
      clear LC
      have LC := n_LC
      clear n_LC
      clear HB
      have HB := nHB
      clear nHB
      have HV : (ax - px, ay - py) = mvp (x, y) (-1) gl (k + 1) := by rw [HMV.out]; exact Prod.ext (by dsimp only; omega) (by dsimp only; omega)
      have B_at2 : Hid (Bx WS (pa) 39 #[.int .i64 ((mvp (x, y) (-1) gl (k + 1)).1), .int .i64 ((mvp (x, y) (-1) gl (k + 1)).2)]) := by rw [← HV]; exact B_at
      go_wp2_with fail
      go_roundw
      case rel => exact ⟨k + 1, by omega, by go_num, B_at2, LC, HB⟩
      case measure => simp only [intOf]; omega
    · skip
      have hkl : k = gl.length := by omega
      rw [hkl] at B_at
      have hb0 := mvp_bd (a := (x, y)) (s := -1) (M := 8388608) (N := 1048576) HAB.out (by decide) HGB.out gl.length (Nat.le_refl _)
      obtain ⟨c0, hc0⟩ : ∃ c0, mvp (x, y) (-1) gl gl.length = c0 := ⟨_, rfl⟩
      rw [hc0] at B_at hb0
      have HC0 := Lib.hid hc0
      clear hc0
      obtain ⟨cx, cy⟩ := c0
      have HAB1 : Hid (Bd 41943040 (cx, cy)) := hb0.mono (by omega)
      clear hb0 HAB
      have HAB := HAB1
      clear HAB1
      have hnlt : ¬ ((k : Int) < (gl.length : Int)) := by omega
      have lta := B_at.out.lt
      obtain ⟨base, hbase⟩ : ∃ base, base = wr.heap.size := ⟨_, rfl⟩
      have hpb : pa < base := by omega
      have HW : Hid (w.heap.size ≤ base) := by have := HB.out.size; unfold Hid; omega
      have TL_LC : Hid (hi_LC ≤ base) := by have := LC.out.top; unfold Hid; omega
      have LT_at : Hid (pa < base) := hpb
      have VR : Hid (OwnP (wr.alloc (.cells #[.int .i64 cx, .int .i64 cy] 39)) base (.slice (some ⟨base, 0, none⟩) 1 1) [(cx, cy)]) := by rw [hbase]; exact ⟨rfl, .inr ⟨_, 1, _, rfl, Nat.le_refl _, heap_alloc_new _ _, Nat.le_refl _, by decide, rfl, rfl⟩⟩
      have HBS : Hid (base ≤ (wr.alloc (.cells #[.int .i64 cx, .int .i64 cy] 39)).heap.size) := by unfold Hid; rw [hbase]; simp
      obtain ⟨c0at, c1at⟩ := cells2 B_at
      have bb : Below wr.heap.size wr (wr.alloc (.cells #[.int .i64 cx, .int .i64 cy] 39)) := (Below.refl _ _).alloc (Nat.le_refl _) _
      replace B_at := mv B_at bb
      replace LC := Lib.hid (PL.below LC.out bb)
      replace HB := nx HB bb
      clear bb
      go_wp2_with fail
      clear c0at c1at
      generalize wr.alloc (.cells #[.int .i64 cx, .int .i64 cy] 39) = WB at *
      rw [← hbase]
      clear hbase
      refine wp_loop_rounds 3 ?_
      rw [rounds_succ]
      go_wp2_with fail
      have HL0 : Hid (([(cx, cy)] : List P2).length ≤ 100) := by unfold Hid; simp
      have HAB0 := HAB
      go_loopw [7, 46] (fun a0 kk wx => ∃ (k : Nat), k ≤ gl.length ∧ kk = .int .i64 k ∧ Hid (OwnP wx base a0 ([(cx, cy)] ++ vis (cx, cy) 2 gl k)) ∧ Hid (base ≤ wx.heap.size) ∧ Hid (Bx wx (pa) 39 #[.int .i64 ((mvp (cx, cy) 2 gl k).1), .int .i64 ((mvp (cx, cy) 2 gl k).2)]) ∧ Hid (PL wx lo_LC hi_LC A1 gl.length c1 gl) ∧ Hid (Below w.heap.size w wx)) (fun _ kk _ => gl.length - (intOf kk).toNat)
      case atStart => exact ⟨0, by omega, rfl, VR, HBS, B_at, LC, HB⟩
      case round =>
        clear VR HBS B_at LC HB
        obtain ⟨k, hk, rfl, VR, HBS, B_at, LC, HB⟩ := hrel
        by_cases hlt : k < gl.length
        · skip
          obtain ⟨g, o, eA, hg, e0, e1⟩ := LC.out.elem hlt
          have hlen := LC.out.len
          have hmem : gl.getD k z2 ∈ gl := getD_mem (by omega)
          have HT := Lib.hid (take_snoc gl z2 (k := k) (by omega))
          subst eA
          have hb := mvp_bd (a := (cx, cy)) (s := 2) (M := 41943040) (N := 1048576) HAB.out (by decide) HGB.out k (by omega)
          have hg1 := HGB.out _ hmem
          have HMV : Hid (mvp (cx, cy) 2 gl (k + 1) = ((mvp (cx, cy) 2 gl k).1 + 2 * (gl.getD k z2).1, (mvp (cx, cy) 2 gl k).2 + 2 * (gl.getD k z2).2)) := rfl
          have HVS : Hid (vis (cx, cy) 2 gl (k + 1) = vis (cx, cy) 2 gl k ++ [mvp (cx, cy) 2 gl (k + 1)]) := rfl
          generalize gl.getD k z2 = q at *
          obtain ⟨px, py⟩ := q
          generalize mvp (cx, cy) 2 gl k = qa at *
          obtain ⟨ax, ay⟩ := qa
          dsimp only at e0 e1
          obtain ⟨⟨b1, b2⟩, b3, b4⟩ := hb
          obtain ⟨⟨g1, g2⟩, g3, g4⟩ := hg1
          dsimp only at b1 b2 b3 b4 g1 g2 g3 g4
          have hk16 : (k : Int) * (2 * 1048576) ≤ 33554432 := by omega
          clear hmem hg hlen
          have hv := vis_len (cx, cy) 2 gl k
          have ell : Hid (([(cx, cy)] ++ vis (cx, cy) 2 gl k).length ≤ 900) := by unfold Hid; rw [List.length_append, hv]; have := HL0.out; omega
          clear hv
          have ea0 : IntKind.i64.wrap (2 * px) = 2 * px := by rw [IntKind.wrap_i64]; omega
          have eb0 : IntKind.i64.wrap (2 * py) = 2 * py := by rw [IntKind.wrap_i64]; omega
          have ea : IntKind.i64.wrap (ax + 2 * px) = ax + 2 * px := by rw [IntKind.wrap_i64]; omega
          have eb : IntKind.i64.wrap (ay + 2 * py) = ay + 2 * py := by rw [IntKind.wrap_i64]; omega
          have lta := B_at.out.lt
          have lt_gat := B_at.out.lt
          obtain ⟨bb, B_g⟩ := box1 wr 39 #[.int .i64 px, .int .i64 py]
          replace bb := bb.out
          replace B_at := mv B_at bb
          replace LC := Lib.hid (PL.below LC.out bb)
          replace VR := Lib.hid (OwnP.below VR.out bb)
          replace HBS := Lib.hid (lebel HBS.out bb)
          replace HB := nx HB bb
          clear bb
          go_upto_region 17 with (fail)
          generalize wr.alloc (.cells #[.int .i64 px, .int .i64 py] 39) = WG at *
          clear e0 e1
          obtain ⟨c0at, c1at⟩ := cells2 B_at
          obtain ⟨c0g, c1g⟩ := cells2 B_g
          obtain ⟨f0at, f1at⟩ := froz2 B_at
          have ne_g : Hid ((wr.heap.size) ≠ (pa)) := by unfold Hid; omega
          have n_at : Hid (Bx ((WG.setCell ⟨pa, 0, none⟩ (.int .i64 (ax + 2 * px))).setCell ⟨pa, 1, none⟩ (.int .i64 (ay + 2 * py))) (pa) 39 #[.int .i64 (ax + 2 * px), .int .i64 (ay + 2 * py)]) := (B_at.out.set 0 (.int .i64 (ax + 2 * px))).set 1 (.int .i64 (ay + 2 * py))
          have n_g := far2 B_g ne_g.out 0 (.int .i64 (ax + 2 * px)) 1 (.int .i64 (ay + 2 * py))
          have nHB := stb2 HB (y := pa) (by omega) 0 (.int .i64 (ax + 2 * px)) 1 (.int .i64 (ay + 2 * py))
          have n_LC := Lib.hid (PL.set (PL.set LC.out (Or.inr hLC.out) 0 (.int .i64 (ax + 2 * px))) (Or.inr hLC.out) 1 (.int .i64 (ay + 2 * py)))
          have n_VR := Lib.hid (OwnP.far (OwnP.far VR.out hpb 0 (.int .i64 (ax + 2 * px))) hpb 1 (.int .i64 (ay + 2 * py)))
          have nHBS : Hid (base ≤ (((WG.setCell ⟨pa, 0, none⟩ (.int .i64 (ax + 2 * px))).setCell ⟨pa, 1, none⟩ (.int .i64 (ay + 2 * py)))).heap.size) := by have := HBS.out; unfold Hid; simpa using this
          go_upto_region 18 with (fail)
          clear c0at c1at c0g c1g f0at f1at
          clear ne_g
          generalize (WG.setCell ⟨pa, 0, none⟩ (.int .i64 (ax + 2 * px))).setCell ⟨pa, 1, none⟩ (.int .i64 (ay + 2 * py)) = WS at *
          clear B_at
          have B_at := n_at
          clear n_at
          clear B_g
          have B_g := n_g
          clear n_g
          clear LC
          have LC := n_LC
          clear n_LC
          clear VR
          have VR := n_VR
          clear n_VR
          clear HB
          have HB := nHB
          clear nHB
          clear HBS
          have HBS := nHBS
          clear nHBS
          have HV : (ax + 2 * px, ay + 2 * py) = mvp (cx, cy) 2 gl (k + 1) := HMV.out.symm
          generalize ax + 2 * px = bx' at *
          generalize ay + 2 * py = by' at *
          clear ea eb ea0 eb0
          have HV2 := Lib.hid HV
          clear HV
          have ell2 := ell.out
          obtain ⟨c0at, c1at⟩ := cells2 B_at
          have HG := Lib.hid (fun wzz (hg : (WS.alloc (.cells #[.int .i64 bx', .int .i64 by'] 39)).grownBy wzz (Value.ownBlock u7)) => grown_below VR.out HBS.out hg)
          go_wp2_with (at_builtin; refine wpList_append_own _ rfl _ _ 22 rfl base 39 i0 (.agg #[.int .i64 0, .int .i64 0]) 2 16 Try.underlying22 HI.out hz0 hz1 hz2 rfl (by decide) u7 ([(cx, cy)] ++ vis (cx, cy) 2 gl k).length (pts ([(cx, cy)] ++ vis (cx, cy) 2 gl k)) rfl (VR.out.alloc _) ⟨WS.heap.size, 0, none⟩ 1 1 (pts [(bx', by')]) rfl rfl (new_pt WS _ _) (pts_one _) (by simp only [maxLen]; omega) (by omega) (by have := HBS.out; simp; omega) ?_; intro va4 wa4 hown3 hgrow3 hnil3; have HX3 := Lib.hid hown3; have HY3 := Lib.hid (HG.out _ hgrow3); clear hown3 hgrow3 hnil3)
          have VRn : Hid (OwnP wa4 base va4 ([(cx, cy)] ++ vis (cx, cy) 2 gl k ++ [(bx', by')])) := by have h := HX3.out; rw [pts_append] at h; unfold Hid OwnP; rw [List.length_append]; exact h
          replace B_at := Lib.hid (Bx.below B_at.out HY3.out LT_at.out)
          replace LC := Lib.hid (PL.belowB LC.out HY3.out TL_LC.out)
          replace HB := Lib.hid (HB.out.trans (HY3.out.mono HW.out))
          replace HBS := Lib.hid (Nat.le_trans HBS.out HY3.out.size)
          clear HX3 HY3 HG
          clear B_g
          rw [HV2.out, List.append_assoc, ← HVS.out] at VRn
          have B_at2 : Hid (Bx wa4 (pa) 39 #[.int .i64 ((mvp (cx, cy) 2 gl (k + 1)).1), .int .i64 ((mvp (cx, cy) 2 gl (k + 1)).2)]) := by rw [← HV2.out]; exact B_at
          go_wp2_with fail
          clear c0at c1at
          go_roundw
          case rel => exact ⟨k + 1, by omega, by go_num, VRn, HBS, B_at2, LC, HB⟩
          case measure => simp only [intOf]; omega
        · skip
          have hkl2 : k = gl.length := by omega
          rw [hkl2] at B_at VR
          have hv := vis_len (cx, cy) 2 gl gl.length
          have hb0 := mvp_bd (a := (cx, cy)) (s := 2) (M := 41943040) (N := 1048576) HAB.out (by decide) HGB.out gl.length (Nat.le_refl _)
          obtain ⟨lst, hlst⟩ : ∃ lst, [(cx, cy)] ++ vis (cx, cy) 2 gl gl.length = lst := ⟨_, rfl⟩
          rw [hlst] at VR
          have hll : lst.length = gl.length + 1 := by rw [← hlst]; simp [hv]
          have HLS := Lib.hid hlst
          have HLL := Lib.hid hll
          have HL02 : Hid (lst.length ≤ 100) := by unfold Hid; omega
          clear hlst hv hll HL0
          obtain ⟨c1', hc1⟩ : ∃ c1', mvp (cx, cy) 2 gl gl.length = c1' := ⟨_, rfl⟩
          rw [hc1] at B_at hb0
          have HC1 := Lib.hid hc1
          clear hc1
          obtain ⟨dx, dy⟩ := c1'
          have HAB1 : Hid (Bd 75497472 (dx, dy)) := hb0.mono (by omega)
          clear hb0 HAB HAB0
          have HAB := HAB1
          clear HAB1
          have HL0 := HL02
          have hnlt : ¬ ((k : Int) < (gl.length : Int)) := by omega
          go_wp2_with fail
          rw [rounds_succ]
          go_wp2_with fail
          go_loopw [7, 46] (fun a0 kk wx => ∃ (k : Nat), k ≤ gl.length ∧ kk = .int .i64 k ∧ Hid (OwnP wx base a0 (lst ++ vis (dx, dy) (-2) gl k)) ∧ Hid (base ≤ wx.heap.size) ∧ Hid (Bx wx (pa) 39 #[.int .i64 ((mvp (dx, dy) (-2) gl k).1), .int .i64 ((mvp (dx, dy) (-2) gl k).2)]) ∧ Hid (PL wx lo_LC hi_LC A1 gl.length c1 gl) ∧ Hid (Below w.heap.size w wx)) (fun _ kk _ => gl.length - (intOf kk).toNat)
          case atStart => exact ⟨0, by omega, rfl, by simpa [vis] using VR, HBS, by simpa [mvp] using B_at, LC, HB⟩
          case round =>
            clear VR HBS B_at LC HB
            obtain ⟨k, hk, rfl, VR, HBS, B_at, LC, HB⟩ := hrel
            by_cases hlt : k < gl.length
            · skip
              obtain ⟨g, o, eA, hg, e0, e1⟩ := LC.out.elem hlt
              have hlen := LC.out.len
              have hmem : gl.getD k z2 ∈ gl := getD_mem (by omega)
              have HT := Lib.hid (take_snoc gl z2 (k := k) (by omega))
              subst eA
              have hb := mvp_bd (a := (dx, dy)) (s := -2) (M := 75497472) (N := 1048576) HAB.out (by decide) HGB.out k (by omega)
              have hg1 := HGB.out _ hmem
              have HMV : Hid (mvp (dx, dy) (-2) gl (k + 1) = ((mvp (dx, dy) (-2) gl k).1 + (-2) * (gl.getD k z2).1, (mvp (dx, dy) (-2) gl k).2 + (-2) * (gl.getD k z2).2)) := rfl
              have HVS : Hid (vis (dx, dy) (-2) gl (k + 1) = vis (dx, dy) (-2) gl k ++ [mvp (dx, dy) (-2) gl (k + 1)]) := rfl
              generalize gl.getD k z2 = q at *
              obtain ⟨px, py⟩ := q
              generalize mvp (dx, dy) (-2) gl k = qa at *
              obtain ⟨ax, ay⟩ := qa
              dsimp only at e0 e1
              obtain ⟨⟨b1, b2⟩, b3, b4⟩ := hb
              obtain ⟨⟨g1, g2⟩, g3, g4⟩ := hg1
              dsimp only at b1 b2 b3 b4 g1 g2 g3 g4
              have hk16 : (k : Int) * (2 * 1048576) ≤ 33554432 := by omega
              clear hmem hg hlen
              have hv := vis_len (dx, dy) (-2) gl k
              have ell : Hid ((lst ++ vis (dx, dy) (-2) gl k).length ≤ 900) := by unfold Hid; rw [List.length_append, hv]; have := HL0.out; omega
              clear hv
              have ea0 : IntKind.i64.wrap (-2 * px) = -2 * px := by rw [IntKind.wrap_i64]; omega
              have eb0 : IntKind.i64.wrap (-2 * py) = -2 * py := by rw [IntKind.wrap_i64]; omega
              have ea : IntKind.i64.wrap (ax + -2 * px) = ax + -2 * px := by rw [IntKind.wrap_i64]; omega
              have eb : IntKind.i64.wrap (ay + -2 * py) = ay + -2 * py := by rw [IntKind.wrap_i64]; omega
              have lta := B_at.out.lt
              have lt_gat := B_at.out.lt
              obtain ⟨bb, B_g⟩ := box1 wr 39 #[.int .i64 px, .int .i64 py]
              replace bb := bb.out
              replace B_at := mv B_at bb
              replace LC := Lib.hid (PL.below LC.out bb)
              replace VR := Lib.hid (OwnP.below VR.out bb)
              replace HBS := Lib.hid (lebel HBS.out bb)
              replace HB := nx HB bb
              clear bb
              go_upto_region 17 with (fail)
              generalize wr.alloc (.cells #[.int .i64 px, .int .i64 py] 39) = WG at *
              clear e0 e1
              obtain ⟨c0at, c1at⟩ := cells2 B_at
              obtain ⟨c0g, c1g⟩ := cells2 B_g
              obtain ⟨f0at, f1at⟩ := froz2 B_at
              have ne_g : Hid ((wr.heap.size) ≠ (pa)) := by unfold Hid; omega
              have n_at : Hid (Bx ((WG.setCell ⟨pa, 0, none⟩ (.int .i64 (ax + -2 * px))).setCell ⟨pa, 1, none⟩ (.int .i64 (ay + -2 * py))) (pa) 39 #[.int .i64 (ax + -2 * px), .int .i64 (ay + -2 * py)]) := (B_at.out.set 0 (.int .i64 (ax + -2 * px))).set 1 (.int .i64 (ay + -2 * py))
              have n_g := far2 B_g ne_g.out 0 (.int .i64 (ax + -2 * px)) 1 (.int .i64 (ay + -2 * py))
              have nHB := stb2 HB (y := pa) (by omega) 0 (.int .i64 (ax + -2 * px)) 1 (.int .i64 (ay + -2 * py))
              have n_LC := Lib.hid (PL.set (PL.set LC.out (Or.inr hLC.out) 0 (.int .i64 (ax + -2 * px))) (Or.inr hLC.out) 1 (.int .i64 (ay + -2 * py)))
              have n_VR := Lib.hid (OwnP.far (OwnP.far VR.out hpb 0 (.int .i64 (ax + -2 * px))) hpb 1 (.int .i64 (ay + -2 * py)))
              have nHBS : Hid (base ≤ (((WG.setCell ⟨pa, 0, none⟩ (.int .i64 (ax + -2 * px))).setCell ⟨pa, 1, none⟩ (.int .i64 (ay + -2 * py)))).heap.size) := by have := HBS.out; unfold Hid; simpa using this
              go_upto_region 18 with (fail)
              clear c0at c1at c0g c1g f0at f1at
              clear ne_g
              generalize (WG.setCell ⟨pa, 0, none⟩ (.int .i64 (ax + -2 * px))).setCell ⟨pa, 1, none⟩ (.int .i64 (ay + -2 * py)) = WS at *
              clear B_at
              have B_at := n_at
              clear n_at
              clear B_g
              have B_g := n_g
              clear n_g
              clear LC
              have LC := n_LC
              clear n_LC
              clear VR
              have VR := n_VR
              clear n_VR
              clear HB
              have HB := nHB
              clear nHB
              clear HBS
              have HBS := nHBS
              clear nHBS
              have HV : (ax + -2 * px, ay + -2 * py) = mvp (dx, dy) (-2) gl (k + 1) := HMV.out.symm
              generalize ax + -2 * px = bx' at *
              generalize ay + -2 * py = by' at *
              clear ea eb ea0 eb0
              have HV2 := Lib.hid HV
              clear HV
              have ell2 := ell.out
              obtain ⟨c0at, c1at⟩ := cells2 B_at
              have HG := Lib.hid (fun wzz (hg : (WS.alloc (.cells #[.int .i64 bx', .int .i64 by'] 39)).grownBy wzz (Value.ownBlock u7)) => grown_below VR.out HBS.out hg)
              go_wp2_with (at_builtin; refine wpList_append_own _ rfl _ _ 22 rfl base 39 i0 (.agg #[.int .i64 0, .int .i64 0]) 2 16 Try.underlying22 HI.out hz0 hz1 hz2 rfl (by decide) u7 (lst ++ vis (dx, dy) (-2) gl k).length (pts (lst ++ vis (dx, dy) (-2) gl k)) rfl (VR.out.alloc _) ⟨WS.heap.size, 0, none⟩ 1 1 (pts [(bx', by')]) rfl rfl (new_pt WS _ _) (pts_one _) (by simp only [maxLen]; omega) (by omega) (by have := HBS.out; simp; omega) ?_; intro va5 wa5 hown3 hgrow3 hnil3; have HX3 := Lib.hid hown3; have HY3 := Lib.hid (HG.out _ hgrow3); clear hown3 hgrow3 hnil3)
              have VRn : Hid (OwnP wa5 base va5 (lst ++ vis (dx, dy) (-2) gl k ++ [(bx', by')])) := by have h := HX3.out; rw [pts_append] at h; unfold Hid OwnP; rw [List.length_append]; exact h
              replace B_at := Lib.hid (Bx.below B_at.out HY3.out LT_at.out)
              replace LC := Lib.hid (PL.belowB LC.out HY3.out TL_LC.out)
              replace HB := Lib.hid (HB.out.trans (HY3.out.mono HW.out))
              replace HBS := Lib.hid (Nat.le_trans HBS.out HY3.out.size)
              clear HX3 HY3 HG
              clear B_g
              rw [HV2.out, List.append_assoc, ← HVS.out] at VRn
              have B_at2 : Hid (Bx wa5 (pa) 39 #[.int .i64 ((mvp (dx, dy) (-2) gl (k + 1)).1), .int .i64 ((mvp (dx, dy) (-2) gl (k + 1)).2)]) := by rw [← HV2.out]; exact B_at
              go_wp2_with fail
              clear c0at c1at
              go_roundw
              case rel => exact ⟨k + 1, by omega, by go_num, VRn, HBS, B_at2, LC, HB⟩
              case measure => simp only [intOf]; omega
            · skip
              have hkl3 : k = gl.length := by omega
              rw [hkl3] at VR
              have hv := vis_len (dx, dy) (-2) gl gl.length
              have hnlt : ¬ ((k : Int) < (gl.length : Int)) := by omega
              obtain ⟨fl, hfl⟩ : ∃ fl, lst ++ vis (dx, dy) (-2) gl gl.length = fl := ⟨_, rfl⟩
              rw [hfl] at VR
              have hfll : fl.length = 2 * gl.length + 1 := by rw [← hfl, List.length_append, hv, HLL.out]; omega
              have HFL := Lib.hid hfl
              clear hfl hv
              obtain ⟨A5, c5, e5, p5, -⟩ := VR.out.pl
              subst e5
              rw [hfll] at p5 ⊢
              have P5 := Lib.hid p5
              have hcap5 := p5.cap
              have HFLL := Lib.hid hfll
              clear p5 VR hfll
              have HCW : Hid (cornW (x, y) gl = fl) := by unfold Hid cornW; rw [HC0.out, HC1.out, HLS.out, HFL.out]
              go_wp2_with fail
              rw [rounds_succ]
              by_cases hm0 : gl.length = 0
              · skip
                rw [hm0] at P5 ⊢
                have HE : Hid (1 = (cornL (x, y) gl).length) := by unfold Hid cornL; rw [HCW.out, List.length_take, HFLL.out, hm0]; rfl
                have HCL : Hid (cornL (x, y) gl = fl.take 1) := by unfold Hid cornL; rw [HCW.out, HFLL.out, hm0]; rfl
                have hcz : (1 : Int) ≤ (c5 : Int) := by omega
                have HPL : Hid (PL wr base wr.heap.size A5 (cornL (x, y) gl).length c5 (cornL (x, y) gl)) := by unfold Hid; rw [← HE.out, HCL.out]; exact PL.take P5.out 1 (by omega)
                clear hm0
                go_wp2
                go_ret
                exact ⟨A5, c5, congrArg (fun t => Ending.returned (.slice A5 t c5)) HE.out, PL.outw HPL.out HW.out, HB.out⟩
              · skip
                obtain ⟨r, hr⟩ : ∃ r, 2 * gl.length = r := ⟨_, rfl⟩
                rw [hr] at P5 hcap5 ⊢
                have hr2 : 2 ≤ r := by omega
                have HE : Hid (r = (cornL (x, y) gl).length) := by unfold Hid cornL; rw [HCW.out, List.length_take, HFLL.out]; omega
                have HCL : Hid (cornL (x, y) gl = fl.take r) := by unfold Hid cornL; rw [HCW.out, HFLL.out]; congr 1; omega
                have hcz : (r : Int) ≤ (c5 : Int) := by omega
                have e1 : IntKind.i64.wrap (((r + 1 : Nat) : Int) - 1) = (r : Int) := by rw [IntKind.wrap_i64]; omega
                have e2 : IntKind.i64.wrap ((r : Int) + 1 - 1) = (r : Int) := by rw [IntKind.wrap_i64]; omega
                have e3 : IntKind.i64.wrap (r : Int) = (r : Int) := by rw [IntKind.wrap_i64]; omega
                have e4 : (1 : Int) < (r : Int) := by omega
                have hrc : r ≤ c5 := by omega
                have e5 : (max (1 : Int) (r : Int)).toNat = r := by omega
                have HPL : Hid (PL wr base wr.heap.size A5 (cornL (x, y) gl).length c5 (cornL (x, y) gl)) := by unfold Hid; rw [← HE.out, HCL.out]; exact PL.take P5.out r (by omega)
                clear hr hm0
                go_wp2
                go_ret
                exact ⟨A5, c5, congrArg (fun t => Ending.returned (.slice A5 t c5)) HE.out, PL.outw HPL.out HW.out, HB.out⟩
end Go.Proofs.Ytpjbkadhmjlpfaa
