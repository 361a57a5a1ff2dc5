/- slices.SortStableFunc for few points by their lengths. -/
import Derived.Test.YtpjbkadhmjlpfaaZ17
set_option linter.unusedSimpArgs false
set_option linter.unusedVariables false
namespace Go.Proofs.Ytpjbkadhmjlpfaa
open Go Go.RowKit Hd Go.Sort

/-- Draws and new blocks alone. -/
def Gr (w w' : World) : Prop := ∃ q os, w' = grow (w.drewN q) os
theorem gr_refl (w : World) : Gr w w := ⟨0, #[], (grow_empty w).symm⟩
theorem gr_drew (w : World) : Gr w w.drew := ⟨1, #[], (grow_empty _).symm⟩
theorem gr_trans {a b c : World} (h : Gr a b) (k : Gr b c) : Gr a c := by
  obtain ⟨q, os, rfl⟩ := h
  obtain ⟨q2, os2, rfl⟩ := k
  exact ⟨q + q2, os ++ os2, by show grow (grow ((a.drewN q).drewN q2) os) os2 = _; rw [grow_grow, World.drewN_drewN]⟩
theorem gr_bel {w w' : World} (h : Gr w w') : Below w.heap.size w w' := by
  obtain ⟨q, os, rfl⟩ := h
  refine ⟨rfl, rfl, rfl, by simp [grow, World.drewN], fun k hk => ?_⟩
  exact heap_grow_old _ _ hk
theorem gr_two (w : World) (a b : Obj) : Gr w ((w.alloc a).alloc b) := ⟨0, #[a] ++ #[b], by rw [alloc_eq_grow, alloc_eq_grow, grow_grow]; rfl⟩

set_option maxRecDepth 100000 in
set_option maxHeartbeats 1000000 in
theorem magnitude_gr (n : Int) (hn : Sm n) (w : World) : Calls Try.prog 52 #[.int .i64 n] w fun e w' => e = .returned (.int .i64 (mg n)) ∧ w' = w := by
  have h1 := hn.1
  have h2 := hn.2
  have e1 : IntKind.i64.wrap (-n) = -n := by rw [IntKind.wrap_i64]; omega
  obtain ⟨M, hM⟩ : ∃ M, mg n = M := ⟨_, rfl⟩
  have hm : max n (-n) = M := by rw [← hM, Int.max_def]; unfold mg; split <;> split <;> omega
  rw [hM]
  clear hM hn
  go_enter Try.func52, Try.ntmps52
  go_wp2
  go_ret
  exact ⟨by first | rfl | (rw [← hm]; rfl), rfl⟩
set_option maxRecDepth 100000 in
set_option maxHeartbeats 1000000 in
theorem length_gr (a b : Int) (ha : Wi a 4194304) (hb : Wi b 4194304) (w : World) : Calls Try.prog 81 #[.agg #[.int .i64 a, .int .i64 b]] w fun e w' => e = .returned (.int .i64 (mg a + mg b)) ∧ Gr w w' := by
  have HA := Lib.hid (fun w => magnitude_gr a ⟨by have := ha.1; omega, by have := ha.2; omega⟩ w)
  have HB := Lib.hid (fun w => magnitude_gr b ⟨by have := hb.1; omega, by have := hb.2; omega⟩ w)
  have m1 := mg_le ha
  have m2 := mg_le hb
  have m3 := mg_nonneg a
  have m4 := mg_nonneg b
  have e1 : IntKind.i64.wrap (mg a + mg b) = mg a + mg b := by rw [IntKind.wrap_i64]; omega
  generalize mg a = p at *
  generalize mg b = q at *
  obtain ⟨-, B_z0⟩ := box1 w 39 #[.int .i64 a, .int .i64 b]
  have HG : Hid (Gr w (w.alloc (.cells #[.int .i64 a, .int .i64 b] 39))) := ⟨0, #[_], by rw [alloc_eq_grow]; rfl⟩
  go_enter Try.func81, Try.ntmps81
  go_upto_region 1 with (fail)
  generalize w.alloc (.cells #[.int .i64 a, .int .i64 b] 39) = W0 at *
  obtain ⟨c0z0, c1z0⟩ := cells2 B_z0
  go_quiet (first | (go_at_call 52; exact Calls.quiet_of_same (HA.out _)) | (go_at_call 52; exact Calls.quiet_of_same (HB.out _)))
  go_wp2
  go_ret
  exact ⟨rfl, gr_trans HG.out ⟨nq, #[], (grow_empty _).symm⟩⟩

abbrev B2 := { p : P2 // Bd 4194304 p }
instance : Inhabited B2 := ⟨⟨(0, 0), ⟨by decide, by decide⟩, by decide, by decide⟩⟩
def lenC (a b : B2) : Int := Lib.compareInt (mg a.1.1 + mg a.1.2) (mg b.1.1 + mg b.1.2)
def bndB (l : List P2) (h : ∀ p ∈ l, Bd 4194304 p) : List B2 := l.pmap (fun p hp => ⟨p, hp⟩) h
theorem bndB_map (l : List P2) (h : ∀ p ∈ l, Bd 4194304 p) : (bndB l h).map Subtype.val = l := by simp [bndB, List.map_pmap]
/-- The points by their lengths, equal ones in their order. -/
def insB (l : List P2) (h : ∀ p ∈ l, Bd 4194304 p) : List P2 := (Sort.insertionSort (ltOf lenC) (bndB l h).toArray 0 l.length).toList.map Subtype.val

theorem size_insInner {α : Type} [Inhabited α] (lt : α → α → Bool) (a : Nat) : ∀ (j : Nat) (d : Array α), (insInner lt a j d).size = d.size
  | 0, d => rfl
  | j + 1, d => by
    unfold insInner
    split
    · rw [size_insInner lt a j]; simp [swp]
    · rfl
theorem size_insOuter {α : Type} [Inhabited α] (lt : α → α → Bool) (a b : Nat) : ∀ (m i : Nat) (d : Array α), b - i ≤ m → (insOuter lt a b i d).size = d.size
  | 0, i, d, h => by unfold insOuter; rw [if_neg (by omega)]
  | m + 1, i, d, h => by
    unfold insOuter
    split
    · rw [size_insOuter lt a b m (i + 1) _ (by omega), size_insInner]
    · rfl
theorem size_insB {α : Type} [Inhabited α] (lt : α → α → Bool) (d : Array α) (a b : Nat) : (Sort.insertionSort lt d a b).size = d.size := size_insOuter lt a b _ _ _ (Nat.le_refl _)
theorem boxedF_eg : ∀ args w, (callFunc 80 args).run Try.prog w = .ok (.enter 80 args) w := enters_of Try.func80 (by kernel_rfl) rfl
set_option maxRecDepth 100000 in
set_option maxHeartbeats 1000000 in
theorem boxedF (x y : B2) (w : World) : Calls Try.prog 80 #[.agg #[.int .i64 x.1.1, .int .i64 x.1.2], .agg #[.int .i64 y.1.1, .int .i64 y.1.2]] w fun e w' => e = .returned (.int .i64 (lenC x y)) ∧ Gr w w' := by
  have hcon := fun W' => AnyG.cmp_Compare_int Try.cc (mg x.1.1 + mg x.1.2) (mg y.1.1 + mg y.1.2) W'
  change ∀ W', Calls Try.prog 73 _ _ _ at hcon
  have HC := Lib.hid hcon
  have HX := Lib.hid (fun w => length_gr x.1.1 x.1.2 x.2.1 x.2.2 w)
  have HY := Lib.hid (fun w => length_gr y.1.1 y.1.2 y.2.1 y.2.2 w)
  unfold lenC
  clear hcon
  generalize Lib.compareInt (mg x.1.1 + mg x.1.2) (mg y.1.1 + mg y.1.2) = r at *
  generalize mg x.1.1 + mg x.1.2 = p at *
  generalize mg y.1.1 + mg y.1.2 = q at *
  generalize x.1.1 = a0 at *
  generalize x.1.2 = a1 at *
  generalize y.1.1 = b0 at *
  generalize y.1.2 = b1 at *
  obtain ⟨-, B_z0, B_z1⟩ := box2 w 39 #[.int .i64 a0, .int .i64 a1] 39 #[.int .i64 b0, .int .i64 b1]
  have HG : Hid (Gr w ((w.alloc (.cells #[.int .i64 a0, .int .i64 a1] 39)).alloc (.cells #[.int .i64 b0, .int .i64 b1] 39))) := gr_two _ _ _
  go_enter Try.func80, Try.ntmps80
  go_upto_region 1 with (fail)
  generalize (w.alloc (.cells #[.int .i64 a0, .int .i64 a1] 39)).alloc (.cells #[.int .i64 b0, .int .i64 b1] 39) = W0 at *
  obtain ⟨c0z0, c1z0⟩ := cells2 B_z0
  obtain ⟨c0z1, c1z1⟩ := cells2 B_z1
  have tk1x0 : True := trivial
  go_region_held3 (fun w' => w'.cell? ⟨w.heap.size, 0, none⟩ = some (.int .i64 a0) ∧ w'.cell? ⟨w.heap.size, 1, none⟩ = some (.int .i64 a1) ∧ w'.cell? ⟨w.heap.size + 1, 0, none⟩ = some (.int .i64 b0) ∧ w'.cell? ⟨w.heap.size + 1, 1, none⟩ = some (.int .i64 b1)) (((try dsimp only); (repeat' apply And.intro) <;> (first | (with_reducible assumption) | ((repeat (first | (with_reducible refine Eq.trans (cell_drew1 _ _) ?_) | (with_reducible refine Eq.trans (cell_far (by omega) _ _ _) ?_) | (with_reducible refine Eq.trans (World.cell?_alloc_lt _ _ _ (by first | (dsimp only; omega) | (simp only [World.size_alloc, World.size_setCell]; omega))) ?_))); with_reducible assumption) | assumption | go_keep)))
    (first
      | (clear tk1x0; go_at_call 81; refine (HX.out _).mono ?_; rintro e w1 ⟨rfl, gg⟩; have bb := nextw (w0 := W0) (by exact sm) (gr_bel gg); replace HG := Lib.hid (gr_trans HG.out (gr_trans (by first | exact gr_refl _ | exact gr_drew _) gg)); replace B_z0 := mv B_z0 bb; replace B_z1 := mv B_z1 bb; clear bb gg c0z0 c1z0 c0z1 c1z1; have c0z0 : w1.cell? ⟨w.heap.size, 0, none⟩ = some (.int .i64 a0) := B_z0.out.cell 0 rfl; have c1z0 : w1.cell? ⟨w.heap.size, 1, none⟩ = some (.int .i64 a1) := B_z0.out.cell 1 rfl; have c0z1 : w1.cell? ⟨w.heap.size + 1, 0, none⟩ = some (.int .i64 b0) := B_z1.out.cell 0 rfl; have c1z1 : w1.cell? ⟨w.heap.size + 1, 1, none⟩ = some (.int .i64 b1) := B_z1.out.cell 1 rfl; have tk1x1 : True := trivial)
      | (clear tk1x1; go_at_call 81; refine (HY.out _).mono ?_; rintro e w2 ⟨rfl, gg⟩; have bb := nextw (w0 := w1) (by exact sm) (gr_bel gg); replace HG := Lib.hid (gr_trans HG.out (gr_trans (by first | exact gr_refl _ | exact gr_drew _) gg)); replace B_z0 := mv B_z0 bb; replace B_z1 := mv B_z1 bb; clear bb gg c0z0 c1z0 c0z1 c1z1; have c0z0 : w2.cell? ⟨w.heap.size, 0, none⟩ = some (.int .i64 a0) := B_z0.out.cell 0 rfl; have c1z0 : w2.cell? ⟨w.heap.size, 1, none⟩ = some (.int .i64 a1) := B_z0.out.cell 1 rfl; have c0z1 : w2.cell? ⟨w.heap.size + 1, 0, none⟩ = some (.int .i64 b0) := B_z1.out.cell 0 rfl; have c1z1 : w2.cell? ⟨w.heap.size + 1, 1, none⟩ = some (.int .i64 b1) := B_z1.out.cell 1 rfl; have tk1x2 : True := trivial)
      | (clear tk1x2; go_at_call 73; refine (HC.out _).mono ?_; rintro e w3 ⟨rfl, rfl⟩; have tk1x3 : True := trivial))
  clear c0z0 c1z0 c0z1 c1z1
  go_wp2
  go_ret
  exact ⟨rfl, gr_trans HG.out (by first | exact gr_refl _ | exact gr_drew _)⟩

set_option maxRecDepth 100000 in
set_option maxHeartbeats 1000000 in
/-- slices.SortStableFunc at fewer than twenty points. -/
theorem StableF_any {base g cap : Nat} {l : List P2} (hl : ∀ x ∈ l, Bd 4194304 x) (hn : l.length ≤ 19) (w : World) (hown : OwnP w base (.slice (some ⟨g, 0, none⟩) l.length cap) l) (hb : base ≤ w.heap.size) :
    Calls Try.prog 79 #[.slice (some ⟨g, 0, none⟩) l.length cap, .func (.func 80) #[] #[]] w fun e w' => e = .returned (.tuple #[]) ∧ OwnP w' base (.slice (some ⟨g, 0, none⟩) l.length cap) (insB l hl) ∧ Below base w w' := by
  have hz := bndB_map l hl
  have hsz : (bndB l hl).length = l.length := by have := congrArg List.length hz; simpa using this
  have hH := holds_own (fun x : B2 => x.1) (bndB l hl) hz hown
  have hlt : g < w.heap.size := (hown.lt g rfl).2
  have hcon := AnyQ.insertionSortCmpFunc ({ Try.sf with } : SlLaysF0.n20 Try.prog Try.sf_ren) 2 Try.isAgg39 Try.sizeOf39 (fun x : B2 => enc2 x.1) (fun _ => rfl) (fun x v hv => by simp [enc2] at hv; rcases hv with rfl | rfl <;> rfl) lenC 80 #[] g 0 cap 0 l.length (bndB l hl).toArray w boxedF_eg (fun _ _ _ _ x y => boxedF x y _) hH hlt (Nat.zero_le _) (by simp [hsz]) (by simp [hsz]; omega)
  rw [show (bndB l hl).toArray.size = l.length by simp [hsz]] at hcon
  have hins : (Sort.insertionSort (ltOf lenC) (bndB l hl).toArray 0 l.length).size = l.length := by
    rw [size_insB]; simp [hsz]
  have HC : Hid (Calls Try.prog 86 #[.slice (some ⟨g, 0, none⟩) l.length cap, .int .i64 0, .int .i64 l.length, .func (.func 80) #[] #[]] w fun e w' => e = .returned (.tuple #[]) ∧ OwnP w' base (.slice (some ⟨g, 0, none⟩) l.length cap) (insB l hl) ∧ Below base w w') := by
    refine hcon.mono ?_
    rintro e w' ⟨he, n, os, rfl⟩
    exact ⟨he, own_sorted (fun x : B2 => x.1) _ hins hown, below_own (fun x : B2 => x.1) _ hown hb⟩
  clear hcon hH hlt hins hsz hz hown
  generalize insB l hl = s at *
  generalize l.length = n at *
  have h1 : ¬ ((20 : Int) ≤ (n : Int)) := by omega
  have h2 : ¬ ((20 : Int) < (n : Int)) := by omega
  have HS : ∀ W, W = w → Calls Try.prog 85 #[.slice (some ⟨g, 0, none⟩) n cap, .int .i64 n, .func (.func 80) #[] #[]] W fun e w' => e = .returned (.tuple #[]) ∧ OwnP w' base (.slice (some ⟨g, 0, none⟩) n cap) s ∧ Below base w w' := by
    rintro W rfl
    go_enter Try.func85, Try.ntmps85
    go_wp2_with fail
    refine wp_loop_rounds 1 ?_
    rw [rounds_succ]
    go_wp2_with fail
    refine HC.out.mono ?_
    rintro e w1 ⟨rfl, ho, bb⟩
    have HO := Lib.hid ho
    have HB := Lib.hid bb
    clear ho bb
    go_wp2_with fail
    refine wp_loop_rounds 1 ?_
    rw [rounds_succ]
    go_wp2_with fail
    go_end0
    exact ⟨rfl, HO.out, HB.out⟩
  clear h1 h2
  have HS2 := Lib.hid (HS w rfl)
  clear HS
  go_enter Try.func79, Try.ntmps79
  go_wp2_with fail
  refine HS2.out.mono ?_
  rintro e w1 ⟨rfl, ho, bb⟩
  have HO := Lib.hid ho
  have HB := Lib.hid bb
  clear ho bb
  go_wp2_with fail
  go_end0
  exact ⟨rfl, HO.out, HB.out⟩
end Go.Proofs.Ytpjbkadhmjlpfaa
