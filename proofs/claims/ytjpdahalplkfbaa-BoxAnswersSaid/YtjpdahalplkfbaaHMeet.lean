/- heading.ahead; appending an arc. -/
import Derived.Test.YtjpdahalplkfbaaHHull2
import Derived.Maps.AppendAt
namespace Go.Proofs.Ytjpdahalplkfbaa
open Go Go.RowKit Hd

/-- Whether the mark m is in both arcs. -/
def bothB (f c g d m : Int) : Bool := hasB f c m && hasB g d m
/-- Whether the marks of both begin at m. -/
def startB (f c g d m : Int) : Bool := bothB f c g d m && !bothB f c g d (m - 1)
def ah (f c m : Int) : Int := if c = 256 then 256 else c - (m - f) % 256
def cntM (f c g d m : Int) : Int := if ah g d m < ah f c m then ah g d m else ah f c m
/-- The cells of a list of arcs. -/
def arcs (l : List (Int × Int)) : List Value := l.flatMap fun p => [.int .i64 p.1, .int .i64 p.2]
theorem arcs_snoc (l : List (Int × Int)) (F N : Int) : arcs l ++ [.int .i64 F, .int .i64 N] = arcs (l ++ [(F, N)]) := by simp [arcs]
theorem arcs_length (l : List (Int × Int)) : (arcs l).length = l.length * 2 := by
  induction l with
  | nil => rfl
  | cons p l ih => simp [arcs, List.flatMap_cons] at *; omega
theorem infoA : (Try.prog.info? 59).map (fun i => (i.zero, i.size, i.bytes)) = some (some (.agg #[.int .i64 0, .int .i64 0]), 2, 16) := by kernel_rfl
theorem new_arc {w : World} {g : Nat} {F N : Int} (hg : w.heap[g]? = some (.cells #[.int .i64 F, .int .i64 N] 59 (0, 0))) : ∀ j u, [Value.int .i64 F, Value.int .i64 N][j]? = some u → w.cell? ((⟨g, 0, none⟩ : Addr).add j) = some u := by
  intro j u hu
  have h := fun o => cell_of_row w g o _ _ (0, 0) hg
  match j, hu with
  | 0, hu => rw [Addr.add, if_pos rfl, h 0]; exact hu
  | 1, hu =>
    have e : ((⟨g, 0, none⟩ : Addr).add 1) = ⟨g, 1, none⟩ := by simp [Addr.add]
    rw [e, h 1]; exact hu
theorem run_app_arc (w : World) (ty : TypeId) {base g : Nat} {v : Value} {l : List (Int × Int)} {F N : Int} (hg : w.heap[g]? = some (.cells #[.int .i64 F, .int .i64 N] 59 (0, 0)))
    (hown : w.ownsRow base 59 2 v l.length (arcs l)) (hl : l.length ≤ 1000) (hbase : base ≤ w.heap.size) :
    ∃ v' w', (Builtin.append_ #[67, 67] ty #[v, .slice (some ⟨g, 0, none⟩) 1 1]).run Try.prog w = .ok v' w' ∧ w'.ownsRow base 59 2 v' (l.length + 1) (arcs (l ++ [(F, N)])) ∧ w.grownBy w' v.ownBlock := by
  obtain ⟨i0, hi, hz0, hz1, hz2⟩ := info_parts infoA
  obtain ⟨v', w', hr, h2, h3, -, -⟩ := run_append_own_at (P := Try.prog) w base 67 ty 59 i0 (.agg #[.int .i64 0, .int .i64 0]) 2 16 Try.underlying67 hi hz0 hz1 hz2 rfl (by decide) v l.length (arcs l) hown ⟨g, 0, none⟩ 1 1 [.int .i64 F, .int .i64 N] rfl (new_arc hg) (by intro u hu; simp at hu; rcases hu with rfl | rfl <;> rfl) (by simp only [maxLen]; omega) (by omega) hbase
  rw [arcs_snoc] at h2
  exact ⟨v', w', hr, h2, h3⟩
theorem step_app_arc {ops : Array Oper} {o : Oper} {a : Act} {w : World} {K : Act → World → Prop} {Q : Exit → Act → World → Prop} {E : Prop} (hgd : o.guard = none) (s x : Operand)
    (ho : o.op = .call { callee := .builtin .append, args := #[s, x], argTypes := #[67, 67] })
    {base g : Nat} {v : Value} {l : List (Int × Int)} {F N : Int} (hs : a.eval s = v) (hx : a.eval x = .slice (some ⟨g, 0, none⟩) 1 1) (hg : w.heap[g]? = some (.cells #[.int .i64 F, .int .i64 N] 59 (0, 0)))
    (hown : w.ownsRow base 59 2 v l.length (arcs l)) (hl : l.length ≤ 1000) (hbase : base ≤ w.heap.size)
    (h : ∀ v' w', w'.ownsRow base 59 2 v' (l.length + 1) (arcs (l ++ [(F, N)])) → w.grownBy w' v.ownBlock → K (a.put o.dst v') w') :
    if Region.wanted o (yielded ops a.tmps) = true then Oper.wp Try.prog o a w K Q else E := by
  have hw : Region.wanted o (yielded ops a.tmps) = true := by simp [Region.wanted, hgd]
  rw [if_pos hw]
  obtain ⟨v', w', hr, h2, h3⟩ := run_app_arc w o.type hg hown hl hbase
  unfold Oper.wp execOp
  simp only [ho, resolve, invoke, builtin, Sem.run_bind, Sem.run_pure, Result.andThen_ok, List.map_toArray, List.map_cons, List.map_nil, hs, hx, hr]
  exact h v' w' h2 h3

set_option maxRecDepth 100000 in
set_option maxHeartbeats 1000000 in
theorem ahead_full (f m : Int) (w : World) :
    Calls Try.prog 72 #[av f 256, .int .i64 m] w fun e w' => e = .returned (.int .i64 256) ∧ Below w.heap.size w w' := by
  have HB := Lib.hid (show Below w.heap.size w (w.alloc (.cells #[.int .i64 f, .int .i64 256] 59)) from ((Below.refl _ _).alloc (by simp <;> omega) _))
  have B_a : Box2 (w.alloc (.cells #[.int .i64 f, .int .i64 256] 59)) (w.heap.size) f 256 := by have h := (Box2.new w f 256); simpa using h
  replace B_a := Lib.hid B_a
  go_enter Try.func72, Try.ntmps72
  go_wp2_with fail
  generalize w.alloc (.cells #[.int .i64 f, .int .i64 256] 59) = W0 at *
  have c0a := B_a.out.c0
  have c1a := B_a.out.c1
  go_wp2
  go_ret
  exact ⟨rfl, nextw HB.out (by exact ⟨rfl, rfl, rfl, Nat.le_refl _, fun _ _ => rfl⟩)⟩

set_option maxRecDepth 100000 in
set_option maxHeartbeats 1000000 in
theorem ahead_part (f c m : Int) (hc : (c == 256) = false) (c0 : 1 ≤ c) (c1 : c ≤ 256) (w : World) :
    Calls Try.prog 72 #[av f c, .int .i64 m] w fun e w' => e = .returned (.int .i64 (c - (m - f) % 256)) ∧ Below w.heap.size w w' := by
  obtain ⟨t, ht⟩ : ∃ t, (m - f) % 256 = t := ⟨_, rfl⟩
  rw [ht]
  have t0 : 0 ≤ t := by omega
  have t1 : t < 256 := by omega
  have HM := Lib.hid (fun w => residue_q ((wrap_mod (m - f)).trans ht) w)
  have e1 : IntKind.i64.wrap (c - t) = c - t := by rw [IntKind.wrap_i64]; omega
  clear ht
  have HB := Lib.hid (show Below w.heap.size w (w.alloc (.cells #[.int .i64 f, .int .i64 c] 59)) from ((Below.refl _ _).alloc (by simp <;> omega) _))
  have B_a : Box2 (w.alloc (.cells #[.int .i64 f, .int .i64 c] 59)) (w.heap.size) f c := by have h := (Box2.new w f c); simpa using h
  replace B_a := Lib.hid B_a
  go_enter Try.func72, Try.ntmps72
  go_wp2_with fail
  generalize w.alloc (.cells #[.int .i64 f, .int .i64 c] 59) = W0 at *
  have c0a := B_a.out.c0
  have c1a := B_a.out.c1
  go_quiet ((go_at_call 63; exact Calls.quiet_of_same (HM.out _)))
  clear c0a c1a
  have bb : Below W0.heap.size W0 (W0.drewN nq) := bel_drewN (Below.refl _ _) _
  generalize W0.drewN nq = w1q at *
  replace B_a := Lib.hid (Box2.below B_a.out bb B_a.out.lt)
  replace HB := Lib.hid (nextw HB.out bb)
  clear bb
  go_wp2
  go_ret
  exact ⟨rfl, nextw HB.out (by exact ⟨rfl, rfl, rfl, Nat.le_refl _, fun _ _ => rfl⟩)⟩

theorem ahead_any (f c m : Int) (hv : OkA f c) (w : World) :
    Calls Try.prog 72 #[av f c, .int .i64 m] w fun e w' => e = .returned (.int .i64 (ah f c m)) ∧ Below w.heap.size w w' := by
  unfold ah
  by_cases hc : c = 256
  · subst hc; rw [if_pos rfl]; exact ahead_full f m w
  · rw [if_neg hc]; exact ahead_part f c m (by simpa using hc) hv.c0 hv.c1 w
end Go.Proofs.Ytjpdahalplkfbaa
