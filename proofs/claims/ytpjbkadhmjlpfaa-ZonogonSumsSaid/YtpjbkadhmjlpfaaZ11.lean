/- slices.Concat and slices.Clone at points. -/
import Derived.Test.YtpjbkadhmjlpfaaZ8
import Derived.Test.YtpjbkadhmjlpfaaShelf2
import Derived.Shelf.Spec.SlicesGrow
import Derived.Shelf.SlicesE.Clone
set_option linter.unusedSimpArgs false
set_option linter.unusedVariables false
namespace Go.Proofs.Ytpjbkadhmjlpfaa
open Go Go.RowKit Hd

/-- A list appended to a row of the call's own. -/
theorem run_app_pl (w : World) (ty : TypeId) {base lo hi n c : Nat} {v : Value} {A : Option Addr} {l m : List P2} (hown : OwnP w base v l) (L : PL w lo hi A n c m) (hl : l.length ≤ 1000) (hm : n ≤ 1000) (hb : base ≤ w.heap.size) :
    ∃ v' w', (Builtin.append_ #[22, 22] ty #[v, .slice A n c]).run Try.prog w = .ok v' w' ∧ OwnP w' base v' (l ++ m) ∧ Below base w w' := by
  obtain ⟨i0, hi, hz0, hz1, hz2⟩ := info_parts info2
  have hn := L.len
  cases A with
  | none =>
    have hm0 : m = [] := by
      apply Classical.byContradiction
      intro h
      obtain ⟨g, o, e, -⟩ := L.row h
      cases e
    subst hm0
    have hn0 : n = 0 := hn
    subst hn0
    refine ⟨v, w, ?_, by simpa using hown, Below.refl _ _⟩
    have hu := run_underlying (P := Try.prog) Try.underlying22
    rcases hown.2 with ⟨rfl, h0⟩ | ⟨g, cap, cur, rfl, hg, hh, hnc, hcm, hcs, htake⟩
    · simp [Builtin.append_, hu, sizeOf, typeInfo, hi, Builtin.lenOf, run_firstCells_none]
    · simp [Builtin.append_, hu, sizeOf, typeInfo, hi, Builtin.lenOf, run_firstCells_none, hnc, storeCells]
  | some ad =>
    have hnews : ∀ j u, (pts m)[j]? = some u → w.cell? (ad.add j) = some u := by
      by_cases hne : m = []
      · subst hne; intro j u hu; simp [pts] at hu
      · obtain ⟨ad2, e, h⟩ := L.addr hne
        cases e
        exact h
    obtain ⟨v', w', hr, h2, h3, -⟩ := run_append_own (P := Try.prog) (w := w) base 22 ty 39 i0 (.agg #[.int .i64 0, .int .i64 0]) 2 16 Try.underlying22 hi hz0 hz1 hz2 rfl (by decide) v l.length (pts l) hown ad n c (pts m) (by rw [pts_length, hn]) hnews (pts_one _) (by simp only [maxLen]; omega) (by omega) hb
    refine ⟨v', w', hr, ?_, grown_below0 hown hb h3⟩
    unfold OwnP
    rw [List.length_append, ← pts_append, ← hn]
    exact h2

/-- A row of the call's own without elements. -/
theorem Grow_is (n : Nat) (hn : n ≤ 2000) (w : World) :
    Calls Try.prog 77 #[.slice none 0 0, .int .i64 n] w fun e w' => ∃ v, e = .returned v ∧ OwnP w' w.heap.size v [] ∧ Below w.heap.size w w' := by
  obtain ⟨i0, hi, hz0, hz1, hz2⟩ := info_parts info2
  by_cases h0 : n = 0
  · subst h0
    exact (Any8.slices_Grow_room Try.gr none 0 0 0 w (Nat.le_refl _) (by omega) (by omega) (Nat.le_refl _)).mono fun e w' ⟨he, hw⟩ => ⟨_, he, by rw [hw]; exact own_nil _ _, by rw [hw]; exact Below.refl _ _⟩
  · have h := Any8.slices_Grow_grow Try.gr i0 (.agg #[.int .i64 0, .int .i64 0]) hi hz0 (by omega) none 0 0 n [] w (Nat.le_refl _) (by omega) (by rw [hz2]; omega) (by omega) (by simp) (fun _ => rfl) (by intro a h; cases h)
    rw [show (Try.gr_ren).t 25 = 39 from rfl] at h
    simp only [Nat.zero_add, Nat.sub_zero] at h
    refine h.mono ?_
    rintro e w' ⟨rfl, rfl⟩
    have hG := grownCap_ge w n 0 39
    have hG2 := grownCap_le_maxLen w n 0 39 (by unfold maxLen; omega)
    refine ⟨_, rfl, ?_, (bel_drewN (Below.refl _ _) 1).alloc (by simp) _⟩
    refine ⟨rfl, .inr ⟨w.heap.size, _, _, rfl, Nat.le_refl _, heap_alloc_new w.drew _, Nat.zero_le _, hG2, ?_, by simp [pts]⟩⟩
    simp [size_zeroCells, Value.cells]
    omega

set_option maxRecDepth 100000 in
set_option maxHeartbeats 4000000 in
theorem Concat_is (g : Nat) (A1 A2 : Option Addr) (n1 c1 n2 c2 : Nat) (l1 l2 : List P2) (h1 : n1 ≤ 900) (h2 : n2 ≤ 900) (w : World) (Bg : Bx w g 22 #[.slice A1 n1 c1, .slice A2 n2 c2]) {lo1 hi1 lo2 hi2 : Nat} (L1 : PL w lo1 hi1 A1 n1 c1 l1) (L2 : PL w lo2 hi2 A2 n2 c2 l2) :
    Calls Try.prog 61 #[.slice (some ⟨g, 0, none⟩) 2 2] w fun e w' => ∃ A' c', e = .returned (.slice A' (l1 ++ l2).length c') ∧ PL w' w.heap.size w'.heap.size A' (l1 ++ l2).length c' (l1 ++ l2) ∧ Below w.heap.size w w' := by
  have T1 := L1.top
  have T2 := L2.top
  have TG := Bg.lt
  have N1 := Lib.hid L1.len
  have N2 := Lib.hid L2.len
  have HG := Lib.hid (fun w => Grow_is (n1 + n2) (by omega) w)
  replace L1 := Lib.hid L1
  replace L2 := Lib.hid L2
  replace Bg := Lib.hid Bg
  have e1 : IntKind.i64.wrap (n1 : Int) = (n1 : Int) := by rw [IntKind.wrap_i64]; omega
  have e2 : IntKind.i64.wrap ((n1 : Int) + (n2 : Int)) = (n1 : Int) + (n2 : Int) := by rw [IntKind.wrap_i64]; omega
  have f1 : ¬ ((n1 : Int) < 0) := by omega
  have f2 : ¬ ((n1 : Int) + (n2 : Int) < 0) := by omega
  obtain ⟨c0, c1'⟩ := cells2 Bg
  go_enter Try.func61, Try.ntmps61
  go_wp2_with fail
  refine wp_loop_rounds 3 ?_
  rw [rounds_succ]
  go_wp2_with fail
  rw [rounds_succ]
  go_wp2_with fail
  rw [rounds_succ]
  go_wp2_with fail
  clear c0 c1' e1 e2 f1 f2
  refine (HG.out _).mono ?_
  rintro e w1 ⟨v, rfl, ho, bb⟩
  replace L1 := plm L1 bb
  replace L2 := plm L2 bb
  replace Bg := mv Bg bb
  have HO := Lib.hid ho
  have HB := Lib.hid bb
  clear ho bb
  obtain ⟨c0, c1'⟩ := cells2 Bg
  obtain ⟨v1, w2, hr1, ho1, hb1⟩ := run_app_pl w1 22 HO.out L1.out (by simp) (by omega) HB.out.size
  have HO1 := Lib.hid ho1
  have HB1 := Lib.hid hb1
  have hr1' : ∀ ty, (Builtin.append_ #[22, 22] ty #[v, .slice A1 n1 c1]).run Try.prog w1 = .ok v1 w2 := fun _ => hr1
  clear ho1 hb1 hr1
  go_wp2_with fail
  refine wp_loop_rounds 3 ?_
  rw [rounds_succ]
  go_wp2_with (at_builtin; refine Lib.wpList_append_run _ rfl _ _ _ _ rfl _ _ rfl rfl _ _ (hr1' _) ?_)
  clear c0 c1' hr1'
  replace L2 := Lib.hid (PL.belowB L2.out HB1.out T2)
  replace Bg := Lib.hid (Bx.below Bg.out HB1.out TG)
  have HB2 := Lib.hid (HB.out.trans HB1.out)
  obtain ⟨c0, c1'⟩ := cells2 Bg
  have NL : Hid (l1.length ≤ 900) := by have := N1.out; unfold Hid; omega
  obtain ⟨v2, w3, hr2, ho2, hb2⟩ := run_app_pl w2 22 HO1.out L2.out (by have := NL.out; simp; omega) (by omega) HB2.out.size
  have HO2 := Lib.hid ho2
  have HB3 := Lib.hid (HB2.out.trans hb2)
  have hr2' : ∀ ty, (Builtin.append_ #[22, 22] ty #[v1, .slice A2 n2 c2]).run Try.prog w2 = .ok v2 w3 := fun _ => hr2
  clear ho2 hb2 hr2
  rw [rounds_succ]
  go_wp2_with (at_builtin; refine Lib.wpList_append_run _ rfl _ _ _ _ rfl _ _ rfl rfl _ _ (hr2' _) ?_)
  clear c0 c1' hr2'
  rw [List.nil_append] at HO2
  obtain ⟨A', c', e', pl', -⟩ := HO2.out.pl
  subst e'
  have PL' := Lib.hid pl'
  clear pl' HO2 HO1
  rw [rounds_succ]
  go_wp2
  go_ret
  exact ⟨A', c', rfl, PL'.out, HB3.out⟩

/-- A copy of the call's own, as long as the list. -/
theorem Clone_is (A : Option Addr) (n c : Nat) (l : List P2) (hn : n ≤ 1000) (w : World) {lo hi : Nat} (L : PL w lo hi A n c l) :
    Calls Try.prog 67 #[.slice A n c] w fun e w' => ∃ v, e = .returned v ∧ OwnP w' w.heap.size v l ∧ Below w.heap.size w w' := by
  obtain ⟨i0, hi, hz0, hz1, hz2⟩ := info_parts info2
  have hl := L.len
  cases A with
  | none =>
    have hm0 : l = [] := by
      apply Classical.byContradiction
      intro h
      obtain ⟨g, o, e, -⟩ := L.row h
      cases e
    subst hm0
    exact (AnyE.slices_Clone_nil Try.cl n c w).mono fun e w' ⟨he, hw⟩ => ⟨_, he, own_nil _ _, by rw [hw]; exact Below.refl _ _⟩
  | some ad =>
    have hnews : ∀ j u, (pts l)[j]? = some u → w.cell? (ad.add j) = some u := by
      by_cases hne : l = []
      · subst hne; intro j u hu; simp [pts] at hu
      · obtain ⟨ad2, e, h⟩ := L.addr hne
        cases e
        exact h
    have q22 : ∀ (w : World) (a : Option Addr) (n c n' c' : Nat), (binOp .eql 22 (.slice a n c) (.slice none n' c')).run Try.prog w = .ok (.bool a.isNone) w := fun w a n c n' c' => Lib.run_eql_slice_nil w _ _ a n c n' c' Try.underlying22
    have HA := Lib.hid hnews
    have HI := Lib.hid hi
    have HLN := Lib.hid hl
    clear hnews hi hl L
    go_enter Try.func67, Try.ntmps67
    go_wp2_with (at_builtin; refine wpList_append_own _ rfl _ _ 22 rfl w.heap.size 39 i0 (.agg #[.int .i64 0, .int .i64 0]) 2 16 Try.underlying22 HI.out hz0 hz1 hz2 rfl (by decide) _ _ _ rfl (World.ownsRow_made w #[] 0 (Nat.le_refl _) (Nat.zero_le _) (by simp)) ad n c (pts l) rfl ?qc1 ?qc2 ?qc3 ?qc4 ?qc5 ?qc6 ?_)
    case qc1 => rw [pts_length, HLN.out]
    case qc2 => intro j u hj; exact Lib.cell?_alloc_some _ (HA.out j u hj)
    case qc3 => exact pts_one _
    case qc4 => unfold maxLen; omega
    case qc5 => omega
    case qc6 => simp
    intro v' w1 hown hgrow hnil
    have HO : Hid (OwnP w1 w.heap.size v' l) := by unfold Hid OwnP; rw [← HLN.out]; simpa using hown
    have HB : Hid (Below w.heap.size w w1) := ((Below.refl _ w).alloc (Nat.le_refl _) _).grown hgrow (by simp) (by intro k hk; simp [Value.ownBlock] at hk; omega)
    clear hown hgrow hnil
    go_wp2
    go_ret
    exact ⟨v', rfl, HO.out, HB.out⟩
end Go.Proofs.Ytpjbkadhmjlpfaa
