/- zonogon.Area. -/
import Derived.Test.YtpjbkadhmjlpfaaZ14
set_option linter.unusedVariables false
set_option linter.unusedSimpArgs false
namespace Go.Proofs.Ytpjbkadhmjlpfaa
open Go Go.RowKit Hd

/-- The areas of the parallelograms with g. -/
def arow (g : P2) (l : List P2) : Int := (l.map fun h => mg (crs g h)).sum
theorem arow_snoc (g : P2) (l : List P2) (p : P2) : arow g (l ++ [p]) = arow g l + mg (crs g p) := by simp [arow]
def areaN (l : List P2) : Nat → Int
  | 0 => 0
  | k + 1 => areaN l k + arow (l.getD k z2) (l.take k)
def areaL (l : List P2) : Int := areaN l l.length
theorem crs_bd6 {g p : P2} (hg : Bd 65536 g) (hp : Bd 65536 p) : Sm (g.1 * p.2) ∧ Sm (g.2 * p.1) ∧ Wi (crs g p) 8589934592 := by
  have h1 := wi_mul hg.1 hp.2
  have h2 := wi_mul hg.2 hp.1
  obtain ⟨a1, a2⟩ := h1
  obtain ⟨b1, b2⟩ := h2
  refine ⟨⟨by omega, by omega⟩, ⟨by omega, by omega⟩, ?_⟩
  unfold crs cr
  exact ⟨by omega, by omega⟩
theorem arow_bd {g : P2} {l : List P2} (hg : Bd 65536 g) (hl : ∀ p ∈ l, Bd 65536 p) : 0 ≤ arow g l ∧ arow g l ≤ l.length * 8589934592 := by
  induction l with
  | nil => simp [arow]
  | cons p t ih =>
    have h1 := ih (fun x hx => hl x (List.mem_cons_of_mem _ hx))
    have h2 := mg_le (crs_bd6 hg (hl p List.mem_cons_self)).2.2
    have h3 := mg_nonneg (crs g p)
    have e : arow g (p :: t) = mg (crs g p) + arow g t := rfl
    rw [e, List.length_cons]
    omega
theorem areaN_bd {l : List P2} (hl : ∀ p ∈ l, Bd 65536 p) (h16 : l.length ≤ 16) (k : Nat) (hk : k ≤ l.length) : 0 ≤ areaN l k ∧ areaN l k ≤ k * 137438953472 := by
  induction k with
  | zero => simp [areaN]
  | succ k ih =>
    have h1 := ih (by omega)
    have h2 := arow_bd (hl _ (getD_mem (z := z2) (show k < l.length by omega))) (l := l.take k) (fun p hp => hl p (List.mem_of_mem_take hp))
    have h3 : ((l.take k).length : Int) ≤ 16 := by rw [List.length_take]; omega
    have e : areaN l (k + 1) = areaN l k + arow (l.getD k z2) (l.take k) := rfl
    rw [e]
    omega

set_option maxRecDepth 100000 in
set_option maxHeartbeats 4000000 in
theorem Area_w1 (x y : Int) (A : Option Addr) (n c : Nat) (l : List P2)  (hn : n ≤ 1000) (dd0 : ¬ (OkZ x y l)) (w : World) {lo_L hi_L : Nat} (L : PL w lo_L hi_L A n c l) :
    Calls Try.prog 22 #[.agg #[.int .i64 x, .int .i64 y, .slice A n c]] w fun e w' => e = .returned (.int .i64 0) ∧ Below w.heap.size w w' := by
  replace L := Lib.hid L
  obtain ⟨HB, B_z0⟩ := box1 w 24 #[.int .i64 x, .int .i64 y, .slice A n c]
  replace L := Lib.hid (PL.below L.out HB.out)
  go_enter Try.func22, Try.ntmps22
  go_upto_region 1 with (fail)
  generalize w.alloc (.cells #[.int .i64 x, .int .i64 y, .slice A n c] 24) = W0 at *
  obtain ⟨c0z0, c1z0, c2z0⟩ := cells3 B_z0
  go_wp2_with fail
  refine (Valid_no dd0 (by omega) _ (PL.below L.out (by exact sm))).mono ?_
  clear c0z0 c1z0 c2z0
  rintro e w1 ⟨rfl, bb⟩
  replace bb := nextw (w0 := W0) (by exact sm) bb
  replace B_z0 := mv B_z0 bb
  replace L := Lib.hid (PL.below L.out bb)
  replace HB := nx HB bb
  clear bb
  go_wp2
  go_ret
  exact ⟨(by first | rfl | exact rbt (by omega) | exact rbf (by omega)), nextw HB.out (by exact sm)⟩

set_option maxRecDepth 100000 in
set_option maxHeartbeats 4000000 in
theorem Area_yes (x y : Int) (A : Option Addr) (n c : Nat) (l : List P2) (hn : n ≤ 1000) (hz : OkZ x y l) (w : World) {lo_L hi_L : Nat} (L : PL w lo_L hi_L A n c l) :
    Calls Try.prog 22 #[.agg #[.int .i64 x, .int .i64 y, .slice A n c]] w fun e w' => e = .returned (.int .i64 (areaL l)) ∧ Below w.heap.size w w' := by
  have H6 := Lib.hid (okz_bd6 hz)
  have H16 : l.length ≤ 16 := okz_len hz
  have hzL := Lib.hid H16
  clear H16
  replace L := Lib.hid L
  obtain ⟨HB, B_z0⟩ := box1 w 24 #[.int .i64 x, .int .i64 y, .slice A n c]
  replace L := plm L HB.out
  go_enter Try.func22, Try.ntmps22
  go_upto_region 1 with (fail)
  generalize w.alloc (.cells #[.int .i64 x, .int .i64 y, .slice A n c] 24) = W0 at *
  have hcap := L.out.cap
  have hn16 : n ≤ 16 := by have := L.out.len; have := hzL.out; omega
  obtain ⟨c0z0, c1z0, c2z0⟩ := cells3 B_z0
  go_wp2_with fail
  refine (Valid_yes hz (by omega) _ (PL.below L.out (by exact sm))).mono ?_
  clear c0z0 c1z0 c2z0
  rintro e w1 ⟨rfl, bb⟩
  replace bb := nextw (w0 := W0) (by exact sm) bb
  replace B_z0 := mv B_z0 bb
  replace L := Lib.hid (PL.below L.out bb)
  replace HB := nx HB bb
  clear bb
  obtain ⟨c0z0, c1z0, c2z0⟩ := cells3 B_z0
  go_wp2_with fail
  clear c0z0 c1z0 c2z0
  go_loopw [3, 14] (fun a0 kk wx => ∃ (i : Nat), i ≤ n ∧ kk = .int .i64 i ∧ a0 = (.int .i64 (areaN l i)) ∧ Hid (PL wx lo_L hi_L A n c l) ∧ Hid (Bx wx (w.heap.size) 24 #[.int .i64 x, .int .i64 y, .slice A n c]) ∧ Hid (Below w.heap.size w wx)) (fun _ kk _ => n - (intOf kk).toNat)
  case atStart => exact ⟨0, by omega, rfl, rfl, L, B_z0, HB⟩
  case round =>
    clear L B_z0 HB
    obtain ⟨i, hk, rfl, rfl, L, B_z0, HB⟩ := hrel
    by_cases hlt : i < n
    · skip
      obtain ⟨g, o, eA, hg, e0, e1⟩ := L.out.elem hlt
      have hlen := L.out.len
      have hmem : l.getD i z2 ∈ l := getD_mem (by omega)
      have HT := Lib.hid (take_snoc l z2 (k := i) (by omega))
      subst eA
      have hB := H6.out _ hmem
      have hNb := areaN_bd H6.out hzL.out i (by omega)
      have HAS : Hid (areaN l (i + 1) = areaN l i + arow (l.getD i z2) (l.take i)) := rfl
      obtain ⟨S, hS⟩ : ∃ S, areaN l i = S := ⟨_, rfl⟩
      rw [hS] at hNb HAS ⊢
      have HS := Lib.hid hS
      clear hS
      generalize l.getD i z2 = q at *
      obtain ⟨px, py⟩ := q
      dsimp only at e0 e1
      have M := Lib.hid (PL.take L.out i (by omega))
      have HB6 := Lib.hid hB
      have hi16 : i ≤ 16 := by omega
      have hic : i ≤ c := by omega
      have hicz : (i : Int) ≤ (c : Int) := by omega
      clear hmem hg hlen hB
      have lt_gz0 := B_z0.out.lt
      obtain ⟨bb, B_g⟩ := box1 wr 39 #[.int .i64 px, .int .i64 py]
      replace bb := bb.out
      replace B_z0 := mv B_z0 bb
      replace L := Lib.hid (PL.below L.out bb)
      replace M := Lib.hid (PL.below M.out bb)
      replace HB := nx HB bb
      clear bb
      go_upto_region 7 with (fail)
      generalize wr.alloc (.cells #[.int .i64 px, .int .i64 py] 39) = WG at *
      clear e0 e1
      generalize wr.heap.size = ag at *
      obtain ⟨c0z0, c1z0, c2z0⟩ := cells3 B_z0
      go_wp2_with fail
      clear c0z0 c1z0 c2z0
      go_loopw [3, 24] (fun a0 kk wx => ∃ (k : Nat), k ≤ i ∧ kk = .int .i64 k ∧ a0 = (.int .i64 (S + arow (px, py) ((l.take i).take k))) ∧ Hid (PL wx lo_L hi_L (some ⟨g, o, none⟩) n c l) ∧ Hid (PL wx lo_L hi_L (some ⟨g, o, none⟩) i c (l.take i)) ∧ Hid (Bx wx (w.heap.size) 24 #[.int .i64 x, .int .i64 y, .slice (some ⟨g, o, none⟩) n c]) ∧ Hid (Bx wx (ag) 39 #[.int .i64 px, .int .i64 py]) ∧ Hid (Below w.heap.size w wx)) (fun _ kk _ => i - (intOf kk).toNat)
      case atStart => exact ⟨0, by omega, rfl, by simp [arow], L, M, B_z0, B_g, HB⟩
      case round =>
        clear L M B_z0 B_g HB
        obtain ⟨k, hkj, rfl, rfl, L, M, B_z0, B_g, HB⟩ := hrel
        by_cases hltj : k < i
        · skip
          obtain ⟨g2, o2, eB, hg2, f0, f1⟩ := M.out.elem hltj
          cases eB
          have hlen2 := M.out.len
          have hmem2 : (l.take i).getD k z2 ∈ l := List.mem_of_mem_take (getD_mem (by omega))
          have hP := H6.out _ hmem2
          have HT2 := Lib.hid (take_snoc (l.take i) z2 (k := k) (by omega))
          have hR := arow_bd HB6.out (l := (l.take i).take k) (fun p hp => H6.out p (List.mem_of_mem_take (List.mem_of_mem_take hp)))
          have hR2 : (((l.take i).take k).length : Int) ≤ 16 := by rw [List.length_take, List.length_take]; omega
          generalize (l.take i).getD k z2 = q2 at *
          obtain ⟨sx, sy⟩ := q2
          dsimp only at f0 f1
          have hc3 := crs_bd6 HB6.out hP
          obtain ⟨R, hR0⟩ : ∃ R, arow (px, py) ((l.take i).take k) = R := ⟨_, rfl⟩
          rw [hR0] at hR ⊢
          have HR0 := Lib.hid hR0
          clear hR0
          have HX := Lib.hid (fun w => cross_is px py sx sy hc3.1 hc3.2.1 w)
          have hc4 := hc3.2.2
          have HDE : Hid (mg (crs (px, py) (sx, sy)) = mg (cr px py sx sy)) := rfl
          have hc5 : Wi (cr px py sx sy) 8589934592 := hc4
          obtain ⟨d, hd⟩ : ∃ d, cr px py sx sy = d := ⟨_, rfl⟩
          rw [hd] at HX HDE hc5
          clear hd hc3 hc4 hP hmem2 hg2 hlen2
          obtain ⟨d1, d2⟩ := hc5
          have HG := Lib.hid (fun w => magnitude_is d ⟨by omega, by omega⟩ w)
          have hmm : 0 ≤ mg d ∧ mg d ≤ 8589934592 := by unfold mg; split <;> omega
          generalize mg d = m at *
          have ew : IntKind.i64.wrap (S + R + m) = S + R + m := by rw [IntKind.wrap_i64]; omega
          have lt_hz0 := B_z0.out.lt
          have lt_hg := B_g.out.lt
          obtain ⟨bb, B_h⟩ := box1 wr 39 #[.int .i64 sx, .int .i64 sy]
          replace bb := bb.out
          replace B_z0 := mv B_z0 bb
          replace B_g := mv B_g bb
          replace L := Lib.hid (PL.below L.out bb)
          replace M := Lib.hid (PL.below M.out bb)
          replace HB := nx HB bb
          clear bb
          go_upto_region 10 with (fail)
          generalize wr.alloc (.cells #[.int .i64 sx, .int .i64 sy] 39) = WH at *
          clear f0 f1
          obtain ⟨c0g, c1g⟩ := cells2 B_g
          obtain ⟨c0h, c1h⟩ := cells2 B_h
          go_wp2_with fail
          refine (HX.out _).mono ?_
          clear c0g c1g c0h c1h
          rintro e w2 ⟨rfl, bb⟩
          replace bb := nextw (w0 := WH) (by exact sm) bb
          replace B_z0 := mv B_z0 bb
          replace B_g := mv B_g bb
          replace B_h := mv B_h bb
          replace L := Lib.hid (PL.below L.out bb)
          replace M := Lib.hid (PL.below M.out bb)
          replace HB := nx HB bb
          clear bb
          go_wp2_with fail
          refine (HG.out _).mono ?_
          rintro e w3 ⟨rfl, bb⟩
          replace bb := nextw (w0 := w2) (by exact sm) bb
          replace B_z0 := mv B_z0 bb
          replace B_g := mv B_g bb
          replace B_h := mv B_h bb
          replace L := Lib.hid (PL.below L.out bb)
          replace M := Lib.hid (PL.below M.out bb)
          replace HB := nx HB bb
          clear bb
          have HF : Hid (S + R + m = S + arow (px, py) ((l.take i).take (k + 1))) := by unfold Hid; rw [HT2.out, arow_snoc, HR0.out, HDE.out]; omega
          go_wp2_with fail
          go_roundw
          case rel => exact ⟨k + 1, by omega, by go_num, by rw [HF.out], L, M, B_z0, B_g, HB⟩
          case measure => simp only [intOf]; omega
        · skip
          obtain rfl : k = i := by omega
          have HF : Hid (S + arow (px, py) ((l.take k).take k) = areaN l (k + 1)) := by unfold Hid; rw [List.take_take, Nat.min_self, HAS.out]
          rw [HF.out]
          go_wp2_with fail
          go_roundw
          case rel => exact ⟨k + 1, by omega, by go_num, rfl, L, B_z0, HB⟩
          case measure => simp only [intOf]; omega
    · skip
      obtain rfl : i = n := by omega
      have hlen := L.out.len
      have HF : areaN l i = areaL l := by unfold areaL; rw [hlen]
      rw [HF]
      clear HF hlen
      go_wp2
      go_ret
      exact ⟨rfl, HB.out⟩
end Go.Proofs.Ytpjbkadhmjlpfaa
