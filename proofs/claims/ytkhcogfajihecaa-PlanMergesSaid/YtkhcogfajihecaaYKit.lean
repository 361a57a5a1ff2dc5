/- The statements' arguments: opening them, and that they read as they did. -/
import Derived.Test.YtkhcogfajihecaaRows
import Derived.Test.YtkhcogfajihecaaChecked
import Derived.WalkKit
import Derived.ChangeAlike
import Derived.ProofKit
import Derived.OpenShut
import Derived.Deep.DeepHandedRow
import Derived.Lib.SmallJoins
import Derived.Lib.Hide
import Derived.ChangeSlices
import Derived.WideKeyArgs
set_option linter.unusedVariables false
set_option maxRecDepth 100000
namespace Go.Proofs.Ytkhcogfajihecaa
open Go Go.ChangeShapes Go.WideShapes Go.ChangeAt Go.RowKit Go.Joins

theorem own : ownKnob Try.prog.godebug = none := by kernel_rfl
theorem laidOut : laidOutB Try.prog = true := by kernel_rfl
/-- A call that writes only memory of its own: the arguments read as they did. -/
theorem post_of_below {H : Type} {enc : TypeId × Value → H} {P : Program} {f : Func} {s : ChangeSpec} {apart fresh handsOn again : Bool} {W W' : World} {args : Array Value} {v : Value} {ds gs : List (DataW H)} {before pa pv : List MemPlace}
    (hW : DataW.Whole enc P f.params.toList s.vars apart W args.toList ds gs before)
    (hres : ∀ (b : Nat) (sp : Nat → Bool) (hd : Bool), DataW.TrodAll enc P W' b sp hd f.resultTypes.toList (v.resultList f.resultTypes.size) (s.fn H (ds ++ gs)).results [])
    (hargs : ∀ sp : Nat → Bool, (∀ p ∈ before, sp p.block = true) → DataW.TrodAll enc P W' 0 sp true f.params.toList args.toList (s.fn H (ds ++ gs)).args pa)
    (hvars : ∀ sp : Nat → Bool, (∀ p ∈ before, sp p.block = true) → DataW.TrodVars enc P W' sp s.vars (s.fn H (ds ++ gs)).vars pv)
    (hps : before = pa ++ pv) (hb : Below W.heap.size W W')
    (hok : ∀ (j : Nat) (t : TypeId) (r : Value), f.resultTypes[j]? = some t → (v.resultList f.resultTypes.size)[j]? = some r → Value.okWide P W' .any 0 t r) :
    s.post enc P f apart fresh handsOn again W args v W' := by
  have hold : ∀ p ∈ before, (fun b => decide (b < W.heap.size)) p.block = true := fun p hp => by simpa using hW.lt p hp
  have hlt : ∀ p ∈ before, p.block < W.heap.size := fun p hp => hW.lt p hp
  refine ⟨ds, gs, before, [], pa, pv, hW, hres _ _ _, hargs _ hold, hvars _ hold, World.keptBut_mono (fun p hp => ⟨hp, ?_⟩) (hb.frame (· ∈ before)), fun _ => ?_⟩
  · rw [hps, List.mem_append] at hp
    exact Or.inr hp
  · obtain ⟨_, _, _, _, _, hz, hn⟩ := hW
    refine ⟨hok, _, _, ([] ++ pa) ++ pv, ⟨[] ++ pa, pv, trodAll_append (hargs _ (fun _ _ => rfl)) (hres _ _ _), hvars _ (fun _ _ => rfl), rfl, ?_, ?_⟩, ?_⟩
    · intro b off hp
      have hp' : MemPlace.cell b off ∈ before := by rw [hps]; simpa using hp
      exact (hb.frozen (p := ⟨b, off, none⟩) (hlt _ hp')).trans (hz b off hp')
    · intro ha
      have h1 := hn ha
      rw [hps] at h1
      simpa using h1
    · intro p hp _
      rw [hps]
      simpa using hp
theorem trodAll_stays {H : Type} {enc : TypeId × Value → H} {P : Program} (hl : laidOutB P = true) {W W' : World} (hb : Below W.heap.size W W') {sp' : Nat → Bool} :
    ∀ (ts : List TypeId) (vs : List Value) (ds : List (DataW H)) (ps : List MemPlace), (∀ t ∈ ts, P.readableRec t = true ∧ t < P.types.size) →
    DataW.TrodAll enc P W 0 (fun _ => true) true ts vs ds ps → (∀ p ∈ ps, p.block < W.heap.size) → (∀ p ∈ ps, sp' p.block = true) → DataW.TrodAll enc P W' 0 sp' true ts vs ds ps
  | [], vs, ds, ps, _, h, _, _ => by
    obtain ⟨rfl, rfl, rfl⟩ := trodAll_nil h
    exact trodAll_mk0
  | t :: ts, vs, ds, ps, hr, h, hlt, hs => by
    obtain ⟨v, vs', d, ds', p, q, rfl, rfl, rfl, h0, h1⟩ := trodAll_cons h
    have ht := hr t (List.mem_cons_self ..)
    refine trodAll_cons_mk (WideElems.Trod_stays hl ht.1 ht.2 h0 (fun x hx => hb.same (hlt x (List.mem_append_left _ hx))) (fun x hx => hs x (List.mem_append_left _ hx))) ?_
    exact trodAll_stays hl hb ts vs' ds' q (fun u hu => hr u (List.mem_cons_of_mem _ hu)) h1 (fun x hx => hlt x (List.mem_append_right _ hx)) (fun x hx => hs x (List.mem_append_right _ hx))

set_option maxRecDepth 100000 in
/-- What a law leaves that answers true and writes nothing that was there. -/
theorem law_post {H : Type} {enc : TypeId × Value → H} {f : Func} {s : ChangeSpec} {apart fresh handsOn again : Bool} {W W' : World} {args : Array Value} {ds gs : List (DataW H)} {before : List MemPlace}
    (hts : ∀ t ∈ f.params.toList, Try.prog.readableRec t = true ∧ t < Try.prog.types.size) (hvars : s.vars = []) (hrt : f.resultTypes = #[4])
    (hW : DataW.Whole enc Try.prog f.params.toList s.vars apart W args.toList ds gs before)
    (hsp : (s.fn H (ds ++ gs)).results = [.lit (.bool true)] ∧ (s.fn H (ds ++ gs)).args = ds ∧ (s.fn H (ds ++ gs)).vars = [])
    (hb : Below W.heap.size W W') : s.post enc Try.prog f apart fresh handsOn again W args (.bool true) W' := by
  have hW' := hW
  have hlt0 : ∀ p ∈ before, p.block < W.heap.size := fun p hp => hW.lt p hp
  obtain ⟨p, q, hA, hV, rfl, hfz, hnd⟩ := hW
  rw [hvars] at hV
  obtain ⟨rfl, rfl⟩ := trodVars_none hV
  refine post_of_below (pa := p) (pv := []) hW' (fun b sp hd => ?_) (fun sp hs => ?_) (fun sp hs => ?_) rfl hb ?_
  · rw [hrt, hsp.1]
    exact trodAll_cons_mk (shut_bool Try.underlying4 _) trodAll_mk0
  · rw [hsp.2.1]
    exact trodAll_stays laidOut hb _ _ _ _ hts hA (fun x hx => hlt0 x (by simpa using hx)) (fun x hx => hs x (by simpa using hx))
  · rw [hvars, hsp.2.2]; rfl
  · exact ok_one hrt rfl (okWide_bool_mk Try.underlying4 _)



section
variable {P : Program} {W : World} {r : Reach} {b0 : Nat} {t : TypeId} {v : Value}
theorem flat_struct {fs : Array Field} (ht : P.underlying t = some (.struct fs)) (h : Value.okWide P W r b0 t v) : ∃ cs, v = .agg cs ∧ cs.size = P.cellsOf t ∧ Row.okWide P W r b0 t cs := by
  simpa only [Value.okWide, ht] using h
theorem flat_array {n : Nat} {e : TypeId} (ht : P.underlying t = some (.array n e)) (h : Value.okWide P W r b0 t v) : ∃ cs, v = .agg cs ∧ cs.size = P.cellsOf t ∧ Row.okWide P W r b0 t cs := by
  simpa only [Value.okWide, ht] using h
theorem flat_int {cs : Array Value} {ts : List TypeId} {u : TypeId} {k : IntKind} (h : Row.okWide P W r b0 t cs) (hts : P.cellTypes P.depth t = some ts) (i : Nat) {x : Value} (hx : cs[i]? = some x) (hu : ts[i % ts.length]? = some u) (hk : P.underlying u = some (.int k)) : ∃ n, x = .int k n ∧ k.has n := by
  obtain ⟨ts', h1, -, h2⟩ := h
  obtain rfl : ts' = ts := by rw [hts] at h1; exact (Option.some.inj h1).symm
  obtain ⟨u', h3, h4⟩ := h2 i x hx
  obtain rfl : u' = u := by rw [hu] at h3; exact (Option.some.inj h3).symm
  simp only [Cell.okWide, hk] at h4
  cases x <;> simp_all [Cell.ok]
end
theorem flat2 {α : Type} {cs : Array α} (h : cs.size = 2) : ∃ c0 c1, cs = #[c0, c1] := by
  obtain ⟨l⟩ := cs
  match l, h with
  | [c0, c1], _ => exact ⟨c0, c1, rfl⟩
theorem flat3 {α : Type} {cs : Array α} (h : cs.size = 3) : ∃ c0 c1 c2, cs = #[c0, c1, c2] := by
  obtain ⟨l⟩ := cs
  match l, h with
  | [c0, c1, c2], _ => exact ⟨c0, c1, c2, rfl⟩
theorem flat4 {α : Type} {cs : Array α} (h : cs.size = 4) : ∃ c0 c1 c2 c3, cs = #[c0, c1, c2, c3] := by
  obtain ⟨l⟩ := cs
  match l, h with
  | [c0, c1, c2, c3], _ => exact ⟨c0, c1, c2, c3, rfl⟩
theorem flat5 {α : Type} {cs : Array α} (h : cs.size = 5) : ∃ c0 c1 c2 c3 c4, cs = #[c0, c1, c2, c3, c4] := by
  obtain ⟨l⟩ := cs
  match l, h with
  | [c0, c1, c2, c3, c4], _ => exact ⟨c0, c1, c2, c3, c4, rfl⟩
theorem flat7 {α : Type} {cs : Array α} (h : cs.size = 7) : ∃ c0 c1 c2 c3 c4 c5 c6, cs = #[c0, c1, c2, c3, c4, c5, c6] := by
  obtain ⟨l⟩ := cs
  match l, h with
  | [c0, c1, c2, c3, c4, c5, c6], _ => exact ⟨c0, c1, c2, c3, c4, c5, c6, rfl⟩
theorem flat8 {α : Type} {cs : Array α} (h : cs.size = 8) : ∃ c0 c1 c2 c3 c4 c5 c6 c7, cs = #[c0, c1, c2, c3, c4, c5, c6, c7] := by
  obtain ⟨l⟩ := cs
  match l, h with
  | [c0, c1, c2, c3, c4, c5, c6, c7], _ => exact ⟨c0, c1, c2, c3, c4, c5, c6, c7, rfl⟩
section
variable {W : World} {r : Reach} {b0 : Nat} {v : Value}
theorem cells_R : Try.prog.cellsOf 45 = 4 := by kernel_rfl
theorem types_R : Try.prog.cellTypes Try.prog.depth 45 = some [3, 3, 3, 3] := by kernel_rfl
theorem open_R (hv : Value.okWide Try.prog W r b0 45 v) : ∃ n0 n1 n2 n3 : Int, v = .agg #[.int .i64 n0, .int .i64 n1, .int .i64 n2, .int .i64 n3] ∧ IntKind.i64.has n0 ∧ IntKind.i64.has n1 ∧ IntKind.i64.has n2 ∧ IntKind.i64.has n3 := by
  obtain ⟨cs, rfl, hs, hr⟩ := flat_struct Try.underlying45 hv
  obtain ⟨c0, c1, c2, c3, rfl⟩ := flat4 (hs.trans cells_R)
  obtain ⟨n0, rfl, h0⟩ := flat_int hr types_R 0 rfl rfl Try.underlying3
  obtain ⟨n1, rfl, h1⟩ := flat_int hr types_R 1 rfl rfl Try.underlying3
  obtain ⟨n2, rfl, h2⟩ := flat_int hr types_R 2 rfl rfl Try.underlying3
  obtain ⟨n3, rfl, h3⟩ := flat_int hr types_R 3 rfl rfl Try.underlying3
  exact ⟨n0, n1, n2, n3, rfl, h0, h1, h2, h3⟩
theorem cells_P : Try.prog.cellsOf 43 = 2 := by kernel_rfl
theorem types_P : Try.prog.cellTypes Try.prog.depth 43 = some [3, 3] := by kernel_rfl
theorem open_P (hv : Value.okWide Try.prog W r b0 43 v) : ∃ n0 n1 : Int, v = .agg #[.int .i64 n0, .int .i64 n1] ∧ IntKind.i64.has n0 ∧ IntKind.i64.has n1 := by
  obtain ⟨cs, rfl, hs, hr⟩ := flat_struct Try.underlying43 hv
  obtain ⟨c0, c1, rfl⟩ := flat2 (hs.trans cells_P)
  obtain ⟨n0, rfl, h0⟩ := flat_int hr types_P 0 rfl rfl Try.underlying3
  obtain ⟨n1, rfl, h1⟩ := flat_int hr types_P 1 rfl rfl Try.underlying3
  exact ⟨n0, n1, rfl, h0, h1⟩
theorem cells_K : Try.prog.cellsOf 37 = 2 := by kernel_rfl
theorem types_K : Try.prog.cellTypes Try.prog.depth 37 = some [3, 3] := by kernel_rfl
theorem open_K (hv : Value.okWide Try.prog W r b0 37 v) : ∃ n0 n1 : Int, v = .agg #[.int .i64 n0, .int .i64 n1] ∧ IntKind.i64.has n0 ∧ IntKind.i64.has n1 := by
  obtain ⟨cs, rfl, hs, hr⟩ := flat_struct Try.underlying37 hv
  obtain ⟨c0, c1, rfl⟩ := flat2 (hs.trans cells_K)
  obtain ⟨n0, rfl, h0⟩ := flat_int hr types_K 0 rfl rfl Try.underlying3
  obtain ⟨n1, rfl, h1⟩ := flat_int hr types_K 1 rfl rfl Try.underlying3
  exact ⟨n0, n1, rfl, h0, h1⟩
theorem cells_Y : Try.prog.cellsOf 61 = 7 := by kernel_rfl
theorem types_Y : Try.prog.cellTypes Try.prog.depth 61 = some [3, 3, 3, 3, 3, 3, 3] := by kernel_rfl
theorem open_Y (hv : Value.okWide Try.prog W r b0 61 v) : ∃ n0 n1 n2 n3 n4 n5 n6 : Int, v = .agg #[.int .i64 n0, .int .i64 n1, .int .i64 n2, .int .i64 n3, .int .i64 n4, .int .i64 n5, .int .i64 n6] ∧ IntKind.i64.has n0 ∧ IntKind.i64.has n1 ∧ IntKind.i64.has n2 ∧ IntKind.i64.has n3 ∧ IntKind.i64.has n4 ∧ IntKind.i64.has n5 ∧ IntKind.i64.has n6 := by
  obtain ⟨cs, rfl, hs, hr⟩ := flat_struct Try.underlying61 hv
  obtain ⟨c0, c1, c2, c3, c4, c5, c6, rfl⟩ := flat7 (hs.trans cells_Y)
  obtain ⟨n0, rfl, h0⟩ := flat_int hr types_Y 0 rfl rfl Try.underlying3
  obtain ⟨n1, rfl, h1⟩ := flat_int hr types_Y 1 rfl rfl Try.underlying3
  obtain ⟨n2, rfl, h2⟩ := flat_int hr types_Y 2 rfl rfl Try.underlying3
  obtain ⟨n3, rfl, h3⟩ := flat_int hr types_Y 3 rfl rfl Try.underlying3
  obtain ⟨n4, rfl, h4⟩ := flat_int hr types_Y 4 rfl rfl Try.underlying3
  obtain ⟨n5, rfl, h5⟩ := flat_int hr types_Y 5 rfl rfl Try.underlying3
  obtain ⟨n6, rfl, h6⟩ := flat_int hr types_Y 6 rfl rfl Try.underlying3
  exact ⟨n0, n1, n2, n3, n4, n5, n6, rfl, h0, h1, h2, h3, h4, h5, h6⟩
end
theorem i16_has {n : Int} (h : IntKind.i16.has n) : -32768 ≤ n ∧ n ≤ 32767 := by
  have h2 : IntKind.i16.min = -32768 := by decide
  have h3 : IntKind.i16.max = 32767 := by decide
  obtain ⟨a, b⟩ := h
  omega
theorem u8_of {n : Int} (h : (Lit.int .u8 n).wf = true) : 0 ≤ n ∧ n ≤ 255 := by
  have h1 : IntKind.u8.min ≤ n ∧ n ≤ IntKind.u8.max := by simpa [Lit.wf] using h
  have h2 : IntKind.u8.min = 0 := by decide
  have h3 : IntKind.u8.max = 255 := by decide
  omega
theorem u16_of {n : Int} (h : (Lit.int .u16 n).wf = true) : 0 ≤ n ∧ n ≤ 65535 := by
  have h1 : IntKind.u16.min ≤ n ∧ n ≤ IntKind.u16.max := by simpa [Lit.wf] using h
  have h2 : IntKind.u16.min = 0 := by decide
  have h3 : IntKind.u16.max = 65535 := by decide
  omega
theorem i64_of {n : Int} (h : (Lit.int .i64 n).wf = true) : -9223372036854775808 ≤ n ∧ n ≤ 9223372036854775807 := by
  have h1 : IntKind.i64.min ≤ n ∧ n ≤ IntKind.i64.max := by simpa [Lit.wf] using h
  have h2 : IntKind.i64.min = -9223372036854775808 := by decide
  have h3 : IntKind.i64.max = 9223372036854775807 := by decide
  omega
theorem i64_has {n : Int} (h : IntKind.i64.has n) : -9223372036854775808 ≤ n ∧ n ≤ 9223372036854775807 := by
  have h2 : IntKind.i64.min = -9223372036854775808 := by decide
  have h3 : IntKind.i64.max = 9223372036854775807 := by decide
  obtain ⟨a, b⟩ := h
  omega
end Go.Proofs.Ytkhcogfajihecaa
