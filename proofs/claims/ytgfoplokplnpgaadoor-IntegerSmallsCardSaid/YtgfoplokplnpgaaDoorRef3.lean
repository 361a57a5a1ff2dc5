/- The reference's Of. -/
import Derived.Test.YtgfoplokplnpgaaDoorRef2
namespace Go.Proofs.YtgfoplokplnpgaaDoor
open Go Go.RowKit Num

set_option maxRecDepth 100000 in
set_option maxHeartbeats 1000000 in
theorem ROf_any (n : Int) (w : World) (h1 : -9223372036854775808 ≤ n) (h2 : n ≤ 9223372036854775807) :
    Calls Tryd.prog 35 #[.int .i64 n] w fun e w' => ∃ v, e = .returned v ∧ Can w' v n ∧ Below w.heap.size w w' := by
  obtain ⟨k, hk⟩ : ∃ k : Nat, k = n.natAbs := ⟨_, rfl⟩
  have hk64 : k < 18446744073709551616 := by omega
  have bR := (Box.new w false (.slice none 0 0)).alloc (.cells #[.int .u32 (k % 4294967296 : Nat), .int .u32 (k / 4294967296 : Nat)] 46)
  have hU : U32 ((w.alloc (.cells #[.bool false, .slice none 0 0] 24)).alloc (.cells #[.int .u32 (k % 4294967296 : Nat), .int .u32 (k / 4294967296 : Nat)] 46)) (.slice (some ⟨w.heap.size + 1, 0, none⟩) 2 2) [k % 4294967296, k / 4294967296] := by
    have := U32.lit (w.alloc (.cells #[.bool false, .slice none 0 0] 24)) [k % 4294967296, k / 4294967296] #[.int .u32 (k % 4294967296 : Nat), .int .u32 (k / 4294967296 : Nat)] 46 (by intro x hx; simp at hx; omega) (by simp [maxLen]) (by simp [ws])
    rw [World.size_alloc] at this
    exact this
  have hb0 : Below w.heap.size w ((w.alloc (.cells #[.bool false, .slice none 0 0] 24)).alloc (.cells #[.int .u32 (k % 4294967296 : Nat), .int .u32 (k / 4294967296 : Nat)] 46)) := ((Below.refl w.heap.size w).alloc (Nat.le_refl _) _).alloc (by simp) _
  have hsz : w.heap.size + 2 = ((w.alloc (.cells #[.bool false, .slice none 0 0] 24)).alloc (.cells #[.int .u32 (k % 4294967296 : Nat), .int .u32 (k / 4294967296 : Nat)] 46)).heap.size := by simp
  have hv : ∀ s, ival s [k % 4294967296, k / 4294967296] = if s then -(k : Int) else k := by
    intro s
    have : val [k % 4294967296, k / 4294967296] = k := by simp only [val]; omega
    unfold ival; rw [this]
  have hw : n < 0 → IntKind.u64.wrap (-(IntKind.u64.wrap n)) = (k : Int) := by
    intro h
    simp only [IntKind.wrap, IntKind.bits, IntKind.signed]
    simp
    omega
  have c0 := fun s => RNorm_any s _ _ _ hU (by simp)
  have HC0 := Lib.hid c0
  have HV := Lib.hid hv
  have HK := Lib.hid hk
  clear c0 hv hk hU
  by_cases hneg : n < 0
  · have hw' := hw hneg
    have HZ : Hid (-(k : Int) = n) := by have := HK.out; unfold Hid; omega
    clear hw
    go_enter Tryd.func35, Tryd.ntmps35
    go_wp2_with fail
    refine (HC0.out true).mono ?_
    rintro e w2 ⟨v2, rfl, hm2, hb2⟩
    rw [HV.out, if_pos rfl, HZ.out] at hm2
    have bR2 := Box.below bR hb2 (by omega)
    have cR0 := Box.c0 bR2
    have cR1 := Box.c1 bR2
    have fR0 := Box.f0 bR2
    have fR1 := Box.f1 bR2
    have hbel := hb0.trans (hb2.mono (by omega))
    have hm3 := hm2
    obtain ⟨m, rfl, hu⟩ := hm2
    obtain ⟨A, c, rfl, -⟩ := id hu.form
    generalize decide (n < 0) = sg at *
    generalize (digs n.natAbs).length = kk at *
    have hfin := bR2.can hm3 sg (.slice A kk c)
    have bS := bR2.store sg (.slice A kk c)
    have s0 := bS.c0
    have s1 := bS.c1
    have hbel2 := Below.store hbel (x := w.heap.size) (by omega) (.bool sg) (.slice A kk c)
    clear hm3 hu hb2 bS hbel HC0
    go_wp2_with fail
    generalize (w2.setCell ⟨w.heap.size, 0, none⟩ (.bool sg)).setCell ⟨w.heap.size, 1, none⟩ (.slice A kk c) = W at *
    exact bodyPost_ret (v := .agg #[.bool sg, .slice A kk c]) (by simp [results, Tryd.results35, go_sem, s0, s1]) rfl ⟨_, rfl, hfin, hbel2⟩
  · have hn0 : 0 ≤ n := by omega
    have hnk : n = (k : Int) := by have := HK.out; omega
    subst hnk
    clear hw HK
    go_enter Tryd.func35, Tryd.ntmps35
    go_wp2_with fail
    refine (HC0.out false).mono ?_
    rintro e w2 ⟨v2, rfl, hm2, hb2⟩
    rw [HV.out] at hm2
    simp only [Bool.false_eq_true, if_false] at hm2
    have bR2 := Box.below bR hb2 (by omega)
    have cR0 := Box.c0 bR2
    have cR1 := Box.c1 bR2
    have fR0 := Box.f0 bR2
    have fR1 := Box.f1 bR2
    have hbel := hb0.trans (hb2.mono (by omega))
    have hm3 := hm2
    obtain ⟨m, rfl, hu⟩ := hm2
    obtain ⟨A, c, rfl, -⟩ := id hu.form
    generalize decide ((k : Int) < 0) = sg at *
    generalize (digs (k : Int).natAbs).length = kk at *
    have hfin := bR2.can hm3 sg (.slice A kk c)
    have bS := bR2.store sg (.slice A kk c)
    have s0 := bS.c0
    have s1 := bS.c1
    have hbel2 := Below.store hbel (x := w.heap.size) (by omega) (.bool sg) (.slice A kk c)
    clear hm3 hu hb2 bS hbel HC0
    go_wp2_with fail
    generalize (w2.setCell ⟨w.heap.size, 0, none⟩ (.bool sg)).setCell ⟨w.heap.size, 1, none⟩ (.slice A kk c) = W at *
    exact bodyPost_ret (v := .agg #[.bool sg, .slice A kk c]) (by simp [results, Tryd.results35, go_sem, s0, s1]) rfl ⟨_, rfl, hfin, hbel2⟩
end Go.Proofs.YtgfoplokplnpgaaDoor
