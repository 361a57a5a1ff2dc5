/- The law BoxMeets. -/
import Derived.Test.YtjpdahalplkfbaaBAwake
import Derived.Test.YtjpdahalplkfbaaBMeetN
set_option linter.unusedVariables false
set_option linter.unusedSimpArgs false
namespace Go.Proofs.Ytjpdahalplkfbaa
open Go Go.RowKit Hd

/-- A box of a list, in memory. -/
def RowAt (w : World) (g o i : Nat) (p : I6) : Prop := g < w.heap.size ∧ At6 w g o i p
theorem RowAt.below {w w' : World} {g o i : Nat} {p : I6} (h : RowAt w g o i p) (hb : Below w.heap.size w w') : RowAt w' g o i p := ⟨Nat.lt_of_lt_of_le h.1 hb.size, h.2.below hb h.1⟩
theorem BMeet_at {x0 y0 x1 y1 f c u0 v0 u1 v1 g d : Int} {L : List I6} (h : meetLL x0 y0 x1 y1 f c u0 v0 u1 v1 g d = L) (w : World) : Calls Try.prog 22 #[.agg #[.int .i64 x0, .int .i64 y0, .int .i64 x1, .int .i64 y1, .int .i64 f, .int .i64 c], .agg #[.int .i64 u0, .int .i64 v0, .int .i64 u1, .int .i64 v1, .int .i64 g, .int .i64 d]] w fun e w' => ∃ v, e = .returned v ∧ AR6 w' v L ∧ Below w.heap.size w w' := h ▸ BMeet_is x0 y0 x1 y1 f c u0 v0 u1 v1 g d w
theorem Vol_eq {x0 y0 x1 y1 f c s : Int} (h : volI x0 y0 x1 y1 f c = s) (w : World) : Calls Try.prog 19 #[.agg #[.int .i64 x0, .int .i64 y0, .int .i64 x1, .int .i64 y1, .int .i64 f, .int .i64 c]] w fun e w' => e = .returned (.int .i64 s) ∧ Below w.heap.size w w' := by
  have e := Vol_is x0 y0 x1 y1 f c w; rwa [h] at e
theorem Has_eq {x0 y0 x1 y1 f c x y h : Int} {t : Bool} (k : decide (HasP x0 y0 x1 y1 f c x y h) = t) (w : World) : Calls Try.prog 17 #[.agg #[.int .i64 x0, .int .i64 y0, .int .i64 x1, .int .i64 y1, .int .i64 f, .int .i64 c], .agg #[.int .i64 x, .int .i64 y, .int .i64 h]] w fun e w' => e = .returned (.bool t) ∧ Below w.heap.size w w' := by
  have e := BoxHas_any x0 y0 x1 y1 f c x y h w; rwa [BoxHas_eq, k] at e
theorem Ins_eq {x0 y0 x1 y1 f c u0 v0 u1 v1 g d : Int} {t : Bool} (k : decide (InsP x0 y0 x1 y1 f c u0 v0 u1 v1 g d) = t) (w : World) : Calls Try.prog 24 #[.agg #[.int .i64 x0, .int .i64 y0, .int .i64 x1, .int .i64 y1, .int .i64 f, .int .i64 c], .agg #[.int .i64 u0, .int .i64 v0, .int .i64 u1, .int .i64 v1, .int .i64 g, .int .i64 d]] w fun e w' => e = .returned (.bool t) ∧ Below w.heap.size w w' := by
  have e := Inside0_any x0 y0 x1 y1 f c u0 v0 u1 v1 g d w; rwa [Inside_eq, k] at e
theorem Valid_eq {x0 y0 x1 y1 f c : Int} {t : Bool} (k : decide (OkB x0 y0 x1 y1 f c) = t) (w : World) : Calls Try.prog 15 #[.agg #[.int .i64 x0, .int .i64 y0, .int .i64 x1, .int .i64 y1, .int .i64 f, .int .i64 c]] w fun e w' => e = .returned (.bool t) ∧ Below w.heap.size w w' := by
  rcases t with _ | _
  · exact Valid_no (of_decide_eq_false k) w
  · exact Valid_yes (of_decide_eq_true k) w

theorem hv_below {L : List I6} {A : Option Addr} {w w' : World} (h : Hid (L ≠ [] → ∃ q o, A = some ⟨q, o, none⟩ ∧ q < w.heap.size ∧ ∀ i, i < L.length → At6 w q o i (L.getD i z6))) (hb : Below w.heap.size w w') : Hid (L ≠ [] → ∃ q o, A = some ⟨q, o, none⟩ ∧ q < w'.heap.size ∧ ∀ i, i < L.length → At6 w' q o i (L.getD i z6)) := fun hne => by
  obtain ⟨q, o, e, hq, hc⟩ := h.out hne
  exact ⟨q, o, e, Nat.lt_of_lt_of_le hq hb.size, fun i hi => (hc i hi).below hb hq⟩

set_option maxRecDepth 100000 in
set_option maxHeartbeats 16000000 in
theorem Meets_any (x0 y0 x1 y1 f c u0 v0 u1 v1 g d x y h : Int) (w : World) :
    Calls Try.prog 9 #[.agg #[.int .i64 x0, .int .i64 y0, .int .i64 x1, .int .i64 y1, .int .i64 f, .int .i64 c], .agg #[.int .i64 u0, .int .i64 v0, .int .i64 u1, .int .i64 v1, .int .i64 g, .int .i64 d], .agg #[.int .i64 x, .int .i64 y, .int .i64 h]] w fun e w' => e = .returned (.bool true) ∧ Below w.heap.size w w' := by
  have HA := Lib.hid (fun w => awake_true w)
  have MF := meet_fine x0 y0 x1 y1 f c u0 v0 u1 v1 g d x y h
  obtain ⟨L, hL⟩ : ∃ L, meetLL x0 y0 x1 y1 f c u0 v0 u1 v1 g d = L := ⟨_, rfl⟩
  rw [hL] at MF
  have HM := Lib.hid (fun w => BMeet_at hL w)
  clear hL
  have hlen := MF.len
  obtain ⟨n, hn⟩ : ∃ n, L.length = n := ⟨_, rfl⟩
  have HN := Lib.hid hn
  rw [hn] at hlen
  clear hn
  have HI := Lib.hid (fun k (hk : k < n) => MF.ins (L.getD k z6) (by rw [List.getD_eq_getElem?_getD, List.getElem?_eq_getElem (by rw [HN.out]; exact hk)]; exact List.getElem_mem _))
  have MO := Lib.hid MF.one
  have MB := Lib.hid MF.both
  have MS := Lib.hid MF.sum
  clear MF
  obtain ⟨HB, B_z0, B_z1, B_z2⟩ := box3 w 23 #[.int .i64 x0, .int .i64 y0, .int .i64 x1, .int .i64 y1, .int .i64 f, .int .i64 c] 23 #[.int .i64 u0, .int .i64 v0, .int .i64 u1, .int .i64 v1, .int .i64 g, .int .i64 d] 25 #[.int .i64 x, .int .i64 y, .int .i64 h]
  go_enter Try.func9, Try.ntmps9
  go_upto_region 1 with (fail)
  generalize ((w.alloc (.cells #[.int .i64 x0, .int .i64 y0, .int .i64 x1, .int .i64 y1, .int .i64 f, .int .i64 c] 23)).alloc (.cells #[.int .i64 u0, .int .i64 v0, .int .i64 u1, .int .i64 v1, .int .i64 g, .int .i64 d] 23)).alloc (.cells #[.int .i64 x, .int .i64 y, .int .i64 h] 25) = W0 at *
  go_wp2_with fail
  refine (HA.out _).mono ?_
  rintro e w1 ⟨rfl, bb⟩
  replace bb := nextw (w0 := W0) (by exact sm) bb
  replace B_z0 := mv B_z0 bb
  replace B_z1 := mv B_z1 bb
  replace B_z2 := mv B_z2 bb
  replace HB := nx HB bb
  clear bb
  clear HA
  obtain ⟨c0z0, c1z0, c2z0, c3z0, c4z0, c5z0⟩ := cells6 B_z0
  obtain ⟨c0z1, c1z1, c2z1, c3z1, c4z1, c5z1⟩ := cells6 B_z1
  go_wp2_with fail
  refine (HM.out _).mono ?_
  clear c0z0 c1z0 c2z0 c3z0 c4z0 c5z0 c0z1 c1z1 c2z1 c3z1 c4z1 c5z1
  rintro e w2 ⟨_, rfl, ⟨A, cap, rfl, hh⟩, bb⟩
  replace bb := nextw (w0 := w1) (by exact sm) bb
  replace B_z0 := mv B_z0 bb
  replace B_z1 := mv B_z1 bb
  replace B_z2 := mv B_z2 bb
  replace HB := nx HB bb
  clear bb
  clear HM
  have HV := Lib.hid hh
  clear hh
  rw [HN.out]
  go_wp2_with fail
  go_loopw [8, 9, 10] (fun cc ss ii wr => ∃ k : Nat, k ≤ n ∧ ii = .int .i64 k ∧ cc = .int .i64 (cntH (L.take k) x y h) ∧ ss = .int .i64 (volS (L.take k)) ∧ Hid (L ≠ [] → ∃ q o, A = some ⟨q, o, none⟩ ∧ q < wr.heap.size ∧ ∀ i, i < L.length → At6 wr q o i (L.getD i z6)) ∧ Hid (Bx wr (w.heap.size) 23 #[.int .i64 x0, .int .i64 y0, .int .i64 x1, .int .i64 y1, .int .i64 f, .int .i64 c]) ∧ Hid (Bx wr (w.heap.size + 1) 23 #[.int .i64 u0, .int .i64 v0, .int .i64 u1, .int .i64 v1, .int .i64 g, .int .i64 d]) ∧ Hid (Bx wr (w.heap.size + 1 + 1) 25 #[.int .i64 x, .int .i64 y, .int .i64 h]) ∧ Hid (Below w.heap.size w wr)) (fun _ _ ii _ => n - (intOf ii).toNat)
  case atStart => exact ⟨0, by omega, rfl, rfl, rfl, HV, B_z0, B_z1, B_z2, HB⟩
  case round =>
    clear HV B_z0 B_z1 B_z2 HB
    obtain ⟨k, hk, rfl, rfl, rfl, HV, B_z0, B_z1, B_z2, HB⟩ := hrel
    by_cases hlt : k < n
    · have hlt2 : k < L.length := by rw [HN.out]; exact hlt
      obtain ⟨q, o, eA, hq, hc⟩ := HV.out (fun e => by rw [e] at hlt2; exact absurd hlt2 (by simp))
      have VQ : Hid (RowAt wr q o k (L.getD k z6)) := ⟨hq, hc k hlt2⟩
      have hi := HI.out k hlt
      have HC := Lib.hid (cntH_take hlt2 x y h)
      have HS := Lib.hid (volS_take hlt2)
      have cb := cntH_bd (L.take k) x y h
      have sb := volS_bd (L.take k)
      have tl : ((L.take k).length : Int) ≤ 2 := by rw [List.length_take]; omega
      generalize L.getD k z6 = r at *
      obtain ⟨r0, r1, r2, r3, r4, r5⟩ := r
      have vb := volI_bd r0 r1 r2 r3 r4 r5
      obtain ⟨v, hv⟩ : ∃ v, volI r0 r1 r2 r3 r4 r5 = v := ⟨_, rfl⟩
      obtain ⟨t, ht⟩ : ∃ t, decide (HasP r0 r1 r2 r3 r4 r5 x y h) = t := ⟨_, rfl⟩
      rw [hv] at vb
      have H0 := Lib.hid (fun w => Inside_yes hi.1 w)
      have H1 := Lib.hid (fun w => Inside_yes hi.2 w)
      have H2 := Lib.hid (fun w => Has_eq ht w)
      have H3 := Lib.hid (fun w => Vol_eq hv w)
      have HS2 : Hid (volS (L.take (k + 1)) = volS (L.take k) + v) := by unfold Hid; rw [HS.out]; exact congrArg _ hv
      have HC2 : Hid (cntH (L.take (k + 1)) x y h = cntH (L.take k) x y h + if t = true then 1 else 0) := by unfold Hid; rw [HC.out, ← ht]; simp only [decide_eq_true_eq]; rfl
      clear hi hv ht HC HS hc hlt2
      generalize cntH (L.take k) x y h = cc at *
      generalize volS (L.take k) = ss at *
      have sb2 : ss ≤ 2251801961169408 := by omega
      have HR := Lib.hid (Below.refl wr.heap.size wr)
      subst eA
      rcases t with _ | _
      all_goals
      go_upto_region 9 with (fail)
      obtain ⟨-, e0, e1, e2, e3, e4, e5⟩ := VQ.out
      obtain ⟨c0z0, c1z0, c2z0, c3z0, c4z0, c5z0⟩ := cells6 B_z0
      obtain ⟨c0z1, c1z1, c2z1, c3z1, c4z1, c5z1⟩ := cells6 B_z1
      have tk1x0 : True := trivial
      go_region_held3 (fun w' => w'.cell? ⟨q, o + k * 6, none⟩ = some (.int .i64 r0) ∧ w'.cell? ⟨q, o + k * 6 + 1, none⟩ = some (.int .i64 r1) ∧ w'.cell? ⟨q, o + k * 6 + 2, none⟩ = some (.int .i64 r2) ∧ w'.cell? ⟨q, o + k * 6 + 3, none⟩ = some (.int .i64 r3) ∧ w'.cell? ⟨q, o + k * 6 + 4, none⟩ = some (.int .i64 r4) ∧ w'.cell? ⟨q, o + k * 6 + 5, none⟩ = some (.int .i64 r5) ∧ w'.cell? ⟨w.heap.size, 0, none⟩ = some (.int .i64 x0) ∧ w'.cell? ⟨w.heap.size, 1, none⟩ = some (.int .i64 y0) ∧ w'.cell? ⟨w.heap.size, 2, none⟩ = some (.int .i64 x1) ∧ w'.cell? ⟨w.heap.size, 3, none⟩ = some (.int .i64 y1) ∧ w'.cell? ⟨w.heap.size, 4, none⟩ = some (.int .i64 f) ∧ w'.cell? ⟨w.heap.size, 5, none⟩ = some (.int .i64 c) ∧ w'.cell? ⟨w.heap.size + 1, 0, none⟩ = some (.int .i64 u0) ∧ w'.cell? ⟨w.heap.size + 1, 1, none⟩ = some (.int .i64 v0) ∧ w'.cell? ⟨w.heap.size + 1, 2, none⟩ = some (.int .i64 u1) ∧ w'.cell? ⟨w.heap.size + 1, 3, none⟩ = some (.int .i64 v1) ∧ w'.cell? ⟨w.heap.size + 1, 4, none⟩ = some (.int .i64 g) ∧ w'.cell? ⟨w.heap.size + 1, 5, none⟩ = some (.int .i64 d)) (((try dsimp only); (repeat' apply And.intro) <;> (first | (with_reducible assumption) | ((repeat (first | (with_reducible refine Eq.trans (cell_drew1 _ _) ?_) | (with_reducible refine Eq.trans (cell_far (by omega) _ _ _) ?_) | (with_reducible refine Eq.trans (World.cell?_alloc_lt _ _ _ (by first | (dsimp only; omega) | (simp only [World.size_alloc, World.size_setCell]; omega))) ?_))); with_reducible assumption) | assumption | go_keep)))
    (first
      | (clear tk1x0; go_at_call 24; refine (H0.out _).mono ?_; rintro e w3 ⟨rfl, bb⟩; replace bb := nextw (w0 := wr) (by exact sm) bb; replace B_z0 := mv B_z0 bb; replace B_z1 := mv B_z1 bb; replace B_z2 := mv B_z2 bb; replace VQ := Lib.hid (RowAt.below VQ.out bb); replace HR := Lib.hid (nextw HR.out bb); replace HB := nx HB bb; clear bb c0z0 c1z0 c2z0 c3z0 c4z0 c5z0 c0z1 c1z1 c2z1 c3z1 c4z1 c5z1; clear e0 e1 e2 e3 e4 e5; obtain ⟨-, e0, e1, e2, e3, e4, e5⟩ := VQ.out; have c0z0 : w3.cell? ⟨w.heap.size, 0, none⟩ = some (.int .i64 x0) := B_z0.out.cell 0 rfl; have c1z0 : w3.cell? ⟨w.heap.size, 1, none⟩ = some (.int .i64 y0) := B_z0.out.cell 1 rfl; have c2z0 : w3.cell? ⟨w.heap.size, 2, none⟩ = some (.int .i64 x1) := B_z0.out.cell 2 rfl; have c3z0 : w3.cell? ⟨w.heap.size, 3, none⟩ = some (.int .i64 y1) := B_z0.out.cell 3 rfl; have c4z0 : w3.cell? ⟨w.heap.size, 4, none⟩ = some (.int .i64 f) := B_z0.out.cell 4 rfl; have c5z0 : w3.cell? ⟨w.heap.size, 5, none⟩ = some (.int .i64 c) := B_z0.out.cell 5 rfl; have c0z1 : w3.cell? ⟨w.heap.size + 1, 0, none⟩ = some (.int .i64 u0) := B_z1.out.cell 0 rfl; have c1z1 : w3.cell? ⟨w.heap.size + 1, 1, none⟩ = some (.int .i64 v0) := B_z1.out.cell 1 rfl; have c2z1 : w3.cell? ⟨w.heap.size + 1, 2, none⟩ = some (.int .i64 u1) := B_z1.out.cell 2 rfl; have c3z1 : w3.cell? ⟨w.heap.size + 1, 3, none⟩ = some (.int .i64 v1) := B_z1.out.cell 3 rfl; have c4z1 : w3.cell? ⟨w.heap.size + 1, 4, none⟩ = some (.int .i64 g) := B_z1.out.cell 4 rfl; have c5z1 : w3.cell? ⟨w.heap.size + 1, 5, none⟩ = some (.int .i64 d) := B_z1.out.cell 5 rfl; have tk1x1 : True := trivial)
      | (clear tk1x1; go_at_call 24; refine (H1.out _).mono ?_; rintro e w4 ⟨rfl, bb⟩; replace bb := nextw (w0 := w3) (by exact sm) bb; replace B_z0 := mv B_z0 bb; replace B_z1 := mv B_z1 bb; replace B_z2 := mv B_z2 bb; replace VQ := Lib.hid (RowAt.below VQ.out bb); replace HR := Lib.hid (nextw HR.out bb); replace HB := nx HB bb; clear bb c0z0 c1z0 c2z0 c3z0 c4z0 c5z0 c0z1 c1z1 c2z1 c3z1 c4z1 c5z1; clear e0 e1 e2 e3 e4 e5; obtain ⟨-, e0, e1, e2, e3, e4, e5⟩ := VQ.out; have c0z0 : w4.cell? ⟨w.heap.size, 0, none⟩ = some (.int .i64 x0) := B_z0.out.cell 0 rfl; have c1z0 : w4.cell? ⟨w.heap.size, 1, none⟩ = some (.int .i64 y0) := B_z0.out.cell 1 rfl; have c2z0 : w4.cell? ⟨w.heap.size, 2, none⟩ = some (.int .i64 x1) := B_z0.out.cell 2 rfl; have c3z0 : w4.cell? ⟨w.heap.size, 3, none⟩ = some (.int .i64 y1) := B_z0.out.cell 3 rfl; have c4z0 : w4.cell? ⟨w.heap.size, 4, none⟩ = some (.int .i64 f) := B_z0.out.cell 4 rfl; have c5z0 : w4.cell? ⟨w.heap.size, 5, none⟩ = some (.int .i64 c) := B_z0.out.cell 5 rfl; have c0z1 : w4.cell? ⟨w.heap.size + 1, 0, none⟩ = some (.int .i64 u0) := B_z1.out.cell 0 rfl; have c1z1 : w4.cell? ⟨w.heap.size + 1, 1, none⟩ = some (.int .i64 v0) := B_z1.out.cell 1 rfl; have c2z1 : w4.cell? ⟨w.heap.size + 1, 2, none⟩ = some (.int .i64 u1) := B_z1.out.cell 2 rfl; have c3z1 : w4.cell? ⟨w.heap.size + 1, 3, none⟩ = some (.int .i64 v1) := B_z1.out.cell 3 rfl; have c4z1 : w4.cell? ⟨w.heap.size + 1, 4, none⟩ = some (.int .i64 g) := B_z1.out.cell 4 rfl; have c5z1 : w4.cell? ⟨w.heap.size + 1, 5, none⟩ = some (.int .i64 d) := B_z1.out.cell 5 rfl; have tk1x2 : True := trivial))
      clear c0z0 c1z0 c2z0 c3z0 c4z0 c5z0 c0z1 c1z1 c2z1 c3z1 c4z1 c5z1
      go_upto_region 11 with (fail)
      obtain ⟨-, e0, e1, e2, e3, e4, e5⟩ := VQ.out
      obtain ⟨c0z2, c1z2, c2z2⟩ := cells3 B_z2
      have tk2x0 : True := trivial
      go_region_held3 (fun w' => w'.cell? ⟨q, o + k * 6, none⟩ = some (.int .i64 r0) ∧ w'.cell? ⟨q, o + k * 6 + 1, none⟩ = some (.int .i64 r1) ∧ w'.cell? ⟨q, o + k * 6 + 2, none⟩ = some (.int .i64 r2) ∧ w'.cell? ⟨q, o + k * 6 + 3, none⟩ = some (.int .i64 r3) ∧ w'.cell? ⟨q, o + k * 6 + 4, none⟩ = some (.int .i64 r4) ∧ w'.cell? ⟨q, o + k * 6 + 5, none⟩ = some (.int .i64 r5) ∧ w'.cell? ⟨w.heap.size + 1 + 1, 0, none⟩ = some (.int .i64 x) ∧ w'.cell? ⟨w.heap.size + 1 + 1, 1, none⟩ = some (.int .i64 y) ∧ w'.cell? ⟨w.heap.size + 1 + 1, 2, none⟩ = some (.int .i64 h)) (((try dsimp only); (repeat' apply And.intro) <;> (first | (with_reducible assumption) | ((repeat (first | (with_reducible refine Eq.trans (cell_drew1 _ _) ?_) | (with_reducible refine Eq.trans (cell_far (by omega) _ _ _) ?_) | (with_reducible refine Eq.trans (World.cell?_alloc_lt _ _ _ (by first | (dsimp only; omega) | (simp only [World.size_alloc, World.size_setCell]; omega))) ?_))); with_reducible assumption) | assumption | go_keep)))
    (first
      | (clear tk2x0; go_at_call 17; refine (H2.out _).mono ?_; rintro e w5 ⟨rfl, bb⟩; replace bb := nextw (w0 := w4) (by exact sm) bb; replace B_z0 := mv B_z0 bb; replace B_z1 := mv B_z1 bb; replace B_z2 := mv B_z2 bb; replace VQ := Lib.hid (RowAt.below VQ.out bb); replace HR := Lib.hid (nextw HR.out bb); replace HB := nx HB bb; clear bb c0z2 c1z2 c2z2; clear e0 e1 e2 e3 e4 e5; obtain ⟨-, e0, e1, e2, e3, e4, e5⟩ := VQ.out; have c0z2 : w5.cell? ⟨w.heap.size + 1 + 1, 0, none⟩ = some (.int .i64 x) := B_z2.out.cell 0 rfl; have c1z2 : w5.cell? ⟨w.heap.size + 1 + 1, 1, none⟩ = some (.int .i64 y) := B_z2.out.cell 1 rfl; have c2z2 : w5.cell? ⟨w.heap.size + 1 + 1, 2, none⟩ = some (.int .i64 h) := B_z2.out.cell 2 rfl; have tk2x1 : True := trivial))
      clear c0z2 c1z2 c2z2
      clear e0 e1 e2 e3 e4 e5
      go_upto_region 13 with (fail)
      obtain ⟨-, e0, e1, e2, e3, e4, e5⟩ := VQ.out
      go_wp2_with fail
      refine (H3.out _).mono ?_
      rintro e w6 ⟨rfl, bb⟩
      replace bb := nextw (w0 := w5) (by exact sm) bb
      replace B_z0 := mv B_z0 bb
      replace B_z1 := mv B_z1 bb
      replace B_z2 := mv B_z2 bb
      replace VQ := Lib.hid (RowAt.below VQ.out bb)
      replace HR := Lib.hid (nextw HR.out bb)
      replace HB := nx HB bb
      clear bb
      clear e0 e1 e2 e3 e4 e5
      have HV3 := hv_below HV HR.out
      go_wp2_with fail
      go_roundw
      case rel => exact ⟨k + 1, by omega, by go_num, congrArg (Value.int .i64) (by rw [HC2.out]; first | rfl | simp), congrArg (Value.int .i64) (by rw [HS2.out]), HV3, B_z0, B_z1, B_z2, HB⟩
      case measure => simp only [intOf]; omega
    · obtain rfl : k = n := by omega
      rw [List.take_of_length_le (Nat.le_of_eq HN.out)]
      have cb := cntH_bd L x y h
      have sb := volS_bd L
      rw [HN.out] at cb sb
      have mo := MO.out
      have vb := volI_bd x0 y0 x1 y1 f c
      obtain ⟨ta, hta⟩ : ∃ t, decide (HasP x0 y0 x1 y1 f c x y h) = t := ⟨_, rfl⟩
      obtain ⟨tb, htb⟩ : ∃ t, decide (HasP u0 v0 u1 v1 g d x y h) = t := ⟨_, rfl⟩
      obtain ⟨ts, hts⟩ : ∃ t, decide (InsP x0 y0 x1 y1 f c u0 v0 u1 v1 g d) = t := ⟨_, rfl⟩
      obtain ⟨ov, hov⟩ : ∃ t, decide (OkB x0 y0 x1 y1 f c) = t := ⟨_, rfl⟩
      obtain ⟨va, hva⟩ : ∃ v, volI x0 y0 x1 y1 f c = v := ⟨_, rfl⟩
      have F0 := Lib.hid (fun w => Has_eq hta w)
      have F1 := Lib.hid (fun w => Has_eq htb w)
      have F2 := Lib.hid (fun w => Ins_eq hts w)
      have F3 := Lib.hid (fun w => Valid_eq hov w)
      have F4 := Lib.hid (fun w => Vol_eq hva w)
      have hb : (ta && tb) = decide (cntH L x y h = 1) := by rw [← hta, ← htb, ← Bool.decide_and]; exact decide_eq_decide.2 MB.out
      have hs : ts = (ov && decide (volS L = va)) := by rw [← hts, ← hov, ← hva, ← Bool.decide_and]; exact decide_eq_decide.2 MS.out
      rw [hva] at vb
      clear hta htb hts hov hva HV HI MO MB MS HN
      generalize cntH L x y h = cc at *
      generalize volS L = ss at *
      have c01 : cc = 0 ∨ cc = 1 := by omega
      clear cb mo
      have hx : (ta = false ∧ cc = 0) ∨ ((ta = true ∧ tb = false) ∧ cc = 0) ∨ ((ta = true ∧ tb = true) ∧ cc = 1) := by
        rcases c01 with rfl | rfl <;> rcases ta with _ | _ <;> rcases tb with _ | _ <;> first | (left; exact ⟨rfl, rfl⟩) | (right; left; exact ⟨⟨rfl, rfl⟩, rfl⟩) | (right; right; exact ⟨⟨rfl, rfl⟩, rfl⟩) | exact absurd hb (by decide)
      have hy : (ov = false ∧ ts = false) ∨ (ov = true ∧ (ss == va) = true ∧ ts = true) ∨ (ov = true ∧ (ss == va) = false ∧ ts = false) := by
        rcases ov with _ | _
        · left; exact ⟨rfl, hs⟩
        · by_cases e : ss = va
          · right; left; exact ⟨rfl, decide_eq_true e, by rw [hs, decide_eq_true e]; rfl⟩
          · right; right; exact ⟨rfl, decide_eq_false e, by rw [hs, decide_eq_false e]; rfl⟩
      clear hb hs c01
      have hl2 : decide ((k : Int) ≤ 2) = true := decide_eq_true (by omega)
      rcases hx with ⟨rfl, rfl⟩ | ⟨⟨rfl, rfl⟩, rfl⟩ | ⟨⟨rfl, rfl⟩, rfl⟩
      · rcases hy with ⟨rfl, rfl⟩ | ⟨rfl, he, rfl⟩ | ⟨rfl, he, rfl⟩
        · skip
          go_upto_region 14 with (fail)
          obtain ⟨c0z0, c1z0, c2z0, c3z0, c4z0, c5z0⟩ := cells6 B_z0
          obtain ⟨c0z2, c1z2, c2z2⟩ := cells3 B_z2
          go_wp2_with fail
          refine (F0.out _).mono ?_
          clear c0z0 c1z0 c2z0 c3z0 c4z0 c5z0 c0z2 c1z2 c2z2
          rintro e w7 ⟨rfl, bb⟩
          replace bb := nextw (w0 := wr) (by exact sm) bb
          replace B_z0 := mv B_z0 bb
          replace B_z1 := mv B_z1 bb
          replace B_z2 := mv B_z2 bb
          replace HB := nx HB bb
          clear bb
          go_upto_region 15 with (fail)
          obtain ⟨c0z0, c1z0, c2z0, c3z0, c4z0, c5z0⟩ := cells6 B_z0
          obtain ⟨c0z1, c1z1, c2z1, c3z1, c4z1, c5z1⟩ := cells6 B_z1
          refine wp_region_held_drew (S := fun w' => w'.cell? ⟨w.heap.size, 0, none⟩ = some (.int .i64 x0) ∧ w'.cell? ⟨w.heap.size, 1, none⟩ = some (.int .i64 y0) ∧ w'.cell? ⟨w.heap.size, 2, none⟩ = some (.int .i64 x1) ∧ w'.cell? ⟨w.heap.size, 3, none⟩ = some (.int .i64 y1) ∧ w'.cell? ⟨w.heap.size, 4, none⟩ = some (.int .i64 f) ∧ w'.cell? ⟨w.heap.size, 5, none⟩ = some (.int .i64 c) ∧ w'.cell? ⟨w.heap.size + 1, 0, none⟩ = some (.int .i64 u0) ∧ w'.cell? ⟨w.heap.size + 1, 1, none⟩ = some (.int .i64 v0) ∧ w'.cell? ⟨w.heap.size + 1, 2, none⟩ = some (.int .i64 u1) ∧ w'.cell? ⟨w.heap.size + 1, 3, none⟩ = some (.int .i64 v1) ∧ w'.cell? ⟨w.heap.size + 1, 4, none⟩ = some (.int .i64 g) ∧ w'.cell? ⟨w.heap.size + 1, 5, none⟩ = some (.int .i64 d)) (by kernel_rfl) ?_ (fun hH1x0 => ?_)
          · ((try dsimp only); (repeat' apply And.intro) <;> (first | (with_reducible assumption) | ((repeat (first | (with_reducible refine Eq.trans (cell_drew1 _ _) ?_) | (with_reducible refine Eq.trans (cell_far (by omega) _ _ _) ?_) | (with_reducible refine Eq.trans (World.cell?_alloc_lt _ _ _ (by first | (dsimp only; omega) | (simp only [World.size_alloc, World.size_setCell]; omega))) ?_))); with_reducible assumption) | assumption | go_keep))
          refine wpAnyH_take (i := 0) (v := ?hv1x0) rfl (by kernel_rfl) (by kernel_rfl) (by kernel_rfl) (fun _ _ _ h => h) (Or.inl ⟨by kernel_rfl, ?hy1x0⟩) (by assumption) ?hr1x0
          case hy1x0 => (intro w hSw; (try dsimp only at hSw); go_simp <;> with_reducible rfl)
          simp only [Act.put, List.setIfInBounds_toArray, List.set_cons_zero, List.set_cons_succ, List.getElem_toArray, List.getElem_cons_zero, List.getElem_cons_succ]
          refine wpAnyH_take (i := 1) (v := ?hv1x1) rfl (by kernel_rfl) (by kernel_rfl) (by kernel_rfl) (fun _ _ _ h => h) (Or.inl ⟨by kernel_rfl, ?hy1x1⟩) (by assumption) ?hr1x1
          case hy1x1 => (intro w hSw; (try dsimp only at hSw); go_simp <;> with_reducible rfl)
          simp only [Act.put, List.setIfInBounds_toArray, List.set_cons_zero, List.set_cons_succ, List.getElem_toArray, List.getElem_cons_zero, List.getElem_cons_succ]
          refine wpAnyH_take (i := 2) (v := ?hv1x2) rfl (by kernel_rfl) (by kernel_rfl) (by kernel_rfl) (fun _ _ _ h => h) (Or.inl ⟨by kernel_rfl, ?hy1x2⟩) (by assumption) ?hr1x2
          case hy1x2 => (intro w hSw; (try dsimp only at hSw); go_simp <;> with_reducible rfl)
          simp only [Act.put, List.setIfInBounds_toArray, List.set_cons_zero, List.set_cons_succ, List.getElem_toArray, List.getElem_cons_zero, List.getElem_cons_succ]
          refine wpAnyH_take (i := 3) (v := ?hv1x3) rfl (by kernel_rfl) (by kernel_rfl) (by kernel_rfl) (fun _ _ _ h => h) (Or.inl ⟨by kernel_rfl, ?hy1x3⟩) (by assumption) ?hr1x3
          case hy1x3 => (intro w hSw; (try dsimp only at hSw); go_simp <;> with_reducible rfl)
          simp only [Act.put, List.setIfInBounds_toArray, List.set_cons_zero, List.set_cons_succ, List.getElem_toArray, List.getElem_cons_zero, List.getElem_cons_succ]
          refine wpAnyH_take (i := 4) (v := ?hv1x4) rfl (by kernel_rfl) (by kernel_rfl) (by kernel_rfl) (fun _ _ _ h => h) (Or.inl ⟨by kernel_rfl, ?hy1x4⟩) (by assumption) ?hr1x4
          case hy1x4 => (intro w hSw; (try dsimp only at hSw); go_simp <;> with_reducible rfl)
          simp only [Act.put, List.setIfInBounds_toArray, List.set_cons_zero, List.set_cons_succ, List.getElem_toArray, List.getElem_cons_zero, List.getElem_cons_succ]
          refine wpAnyH_take (i := 5) (v := ?hv1x5) rfl (by kernel_rfl) (by kernel_rfl) (by kernel_rfl) (fun _ _ _ h => h) (Or.inl ⟨by kernel_rfl, ?hy1x5⟩) (by assumption) ?hr1x5
          case hy1x5 => (intro w hSw; (try dsimp only at hSw); go_simp <;> with_reducible rfl)
          simp only [Act.put, List.setIfInBounds_toArray, List.set_cons_zero, List.set_cons_succ, List.getElem_toArray, List.getElem_cons_zero, List.getElem_cons_succ]
          refine wpAnyH_take (i := 6) (v := ?hv1x6) rfl (by kernel_rfl) (by kernel_rfl) (by kernel_rfl) (fun _ _ _ h => h) (Or.inl ⟨by kernel_rfl, ?hy1x6⟩) (by assumption) ?hr1x6
          case hy1x6 => (intro w hSw; (try dsimp only at hSw); go_simp <;> with_reducible rfl)
          simp only [Act.put, List.setIfInBounds_toArray, List.set_cons_zero, List.set_cons_succ, List.getElem_toArray, List.getElem_cons_zero, List.getElem_cons_succ]
          refine wpAnyH_take (i := 7) (v := ?hv1x7) rfl (by kernel_rfl) (by kernel_rfl) (by kernel_rfl) (fun _ _ _ h => h) (Or.inl ⟨by kernel_rfl, ?hy1x7⟩) (by assumption) ?hr1x7
          case hy1x7 => (intro w hSw; (try dsimp only at hSw); go_simp <;> with_reducible rfl)
          simp only [Act.put, List.setIfInBounds_toArray, List.set_cons_zero, List.set_cons_succ, List.getElem_toArray, List.getElem_cons_zero, List.getElem_cons_succ]
          refine wpAnyH_take (i := 8) (v := ?hv1x8) rfl (by kernel_rfl) (by kernel_rfl) (by kernel_rfl) (fun _ _ _ h => h) (Or.inl ⟨by kernel_rfl, ?hy1x8⟩) (by assumption) ?hr1x8
          case hy1x8 => (intro w hSw; (try dsimp only at hSw); go_simp <;> with_reducible rfl)
          simp only [Act.put, List.setIfInBounds_toArray, List.set_cons_zero, List.set_cons_succ, List.getElem_toArray, List.getElem_cons_zero, List.getElem_cons_succ]
          refine wpAnyH_take (i := 9) (v := ?hv1x9) rfl (by kernel_rfl) (by kernel_rfl) (by kernel_rfl) (fun _ _ _ h => h) (Or.inl ⟨by kernel_rfl, ?hy1x9⟩) (by assumption) ?hr1x9
          case hy1x9 => (intro w hSw; (try dsimp only at hSw); go_simp <;> with_reducible rfl)
          simp only [Act.put, List.setIfInBounds_toArray, List.set_cons_zero, List.set_cons_succ, List.getElem_toArray, List.getElem_cons_zero, List.getElem_cons_succ]
          refine wpAnyH_take (i := 10) (v := ?hv1x10) rfl (by kernel_rfl) (by kernel_rfl) (by kernel_rfl) (fun _ _ _ h => h) (Or.inl ⟨by kernel_rfl, ?hy1x10⟩) (by assumption) ?hr1x10
          case hy1x10 => (intro w hSw; (try dsimp only at hSw); go_simp <;> with_reducible rfl)
          simp only [Act.put, List.setIfInBounds_toArray, List.set_cons_zero, List.set_cons_succ, List.getElem_toArray, List.getElem_cons_zero, List.getElem_cons_succ]
          refine wpAnyH_take (i := 11) (v := ?hv1x11) rfl (by kernel_rfl) (by kernel_rfl) (by kernel_rfl) (fun _ _ _ h => h) (Or.inl ⟨by kernel_rfl, ?hy1x11⟩) (by assumption) ?hr1x11
          case hy1x11 => (intro w hSw; (try dsimp only at hSw); go_simp <;> with_reducible rfl)
          simp only [Act.put, List.setIfInBounds_toArray, List.set_cons_zero, List.set_cons_succ, List.getElem_toArray, List.getElem_cons_zero, List.getElem_cons_succ]
          refine wpAnyH_take (i := 12) (v := ?hv1x12) rfl (by kernel_rfl) (by kernel_rfl) (by kernel_rfl) (fun _ _ _ h => h) (Or.inl ⟨by kernel_rfl, ?hy1x12⟩) (by assumption) ?hr1x12
          case hy1x12 => (intro w hSw; (try dsimp only at hSw); go_simp <;> with_reducible rfl)
          simp only [Act.put, List.setIfInBounds_toArray, List.set_cons_zero, List.set_cons_succ, List.getElem_toArray, List.getElem_cons_zero, List.getElem_cons_succ]
          refine wpAnyH_take (i := 13) (v := ?hv1x13) rfl (by kernel_rfl) (by kernel_rfl) (by kernel_rfl) (fun _ _ _ h => h) (Or.inl ⟨by kernel_rfl, ?hy1x13⟩) (by assumption) ?hr1x13
          case hy1x13 => (intro w hSw; (try dsimp only at hSw); go_simp <;> with_reducible rfl)
          simp only [Act.put, List.setIfInBounds_toArray, List.set_cons_zero, List.set_cons_succ, List.getElem_toArray, List.getElem_cons_zero, List.getElem_cons_succ]
          refine wpAnyH_take (i := 14) (v := ?hv1x14) rfl (by kernel_rfl) (by kernel_rfl) (by kernel_rfl) (fun _ _ _ h => h) (Or.inl ⟨by kernel_rfl, ?hy1x14⟩) (by assumption) ?hr1x14
          case hy1x14 => (intro w hSw; (try dsimp only at hSw); go_simp <;> with_reducible rfl)
          simp only [Act.put, List.setIfInBounds_toArray, List.set_cons_zero, List.set_cons_succ, List.getElem_toArray, List.getElem_cons_zero, List.getElem_cons_succ]
          refine wpAnyH_take (i := 15) (v := ?hv1x15) rfl (by kernel_rfl) (by kernel_rfl) (by kernel_rfl) (fun _ _ _ h => h) (Or.inl ⟨by kernel_rfl, ?hy1x15⟩) (by assumption) ?hr1x15
          case hy1x15 => (intro w hSw; (try dsimp only at hSw); go_simp <;> with_reducible rfl)
          simp only [Act.put, List.setIfInBounds_toArray, List.set_cons_zero, List.set_cons_succ, List.getElem_toArray, List.getElem_cons_zero, List.getElem_cons_succ]
          refine wpAnyH_take (i := 17) (v := ?hv1x17) rfl (by kernel_rfl) (by kernel_rfl) (by kernel_rfl) (fun _ _ _ h => h) (Or.inl ⟨by kernel_rfl, ?hy1x17⟩) (by assumption) ?hr1x17
          case hy1x17 => (intro w hSw; (try dsimp only at hSw); go_simp <;> with_reducible rfl)
          simp only [Act.put, List.setIfInBounds_toArray, List.set_cons_zero, List.set_cons_succ, List.getElem_toArray, List.getElem_cons_zero, List.getElem_cons_succ]
          refine wpAnyH_ready (rs := [16]) (by kernel_rfl) (by simp) ?_
          refine AllReadyH.cons rfl (fun K hK => ?_) AllReadyH.nil
          go_simp
          go_at_call 24
          refine (F2.out _).mono ?_
          rintro e w8 ⟨rfl, bb⟩
          replace bb := nextw (w0 := w7) (by exact sm) bb
          replace B_z0 := mv B_z0 bb
          replace B_z1 := mv B_z1 bb
          replace B_z2 := mv B_z2 bb
          replace HB := nx HB bb
          clear bb c0z0 c1z0 c2z0 c3z0 c4z0 c5z0 c0z1 c1z1 c2z1 c3z1 c4z1 c5z1
          have c0z0 : w8.cell? ⟨w.heap.size, 0, none⟩ = some (.int .i64 x0) := B_z0.out.cell 0 rfl
          have c1z0 : w8.cell? ⟨w.heap.size, 1, none⟩ = some (.int .i64 y0) := B_z0.out.cell 1 rfl
          have c2z0 : w8.cell? ⟨w.heap.size, 2, none⟩ = some (.int .i64 x1) := B_z0.out.cell 2 rfl
          have c3z0 : w8.cell? ⟨w.heap.size, 3, none⟩ = some (.int .i64 y1) := B_z0.out.cell 3 rfl
          have c4z0 : w8.cell? ⟨w.heap.size, 4, none⟩ = some (.int .i64 f) := B_z0.out.cell 4 rfl
          have c5z0 : w8.cell? ⟨w.heap.size, 5, none⟩ = some (.int .i64 c) := B_z0.out.cell 5 rfl
          have c0z1 : w8.cell? ⟨w.heap.size + 1, 0, none⟩ = some (.int .i64 u0) := B_z1.out.cell 0 rfl
          have c1z1 : w8.cell? ⟨w.heap.size + 1, 1, none⟩ = some (.int .i64 v0) := B_z1.out.cell 1 rfl
          have c2z1 : w8.cell? ⟨w.heap.size + 1, 2, none⟩ = some (.int .i64 u1) := B_z1.out.cell 2 rfl
          have c3z1 : w8.cell? ⟨w.heap.size + 1, 3, none⟩ = some (.int .i64 v1) := B_z1.out.cell 3 rfl
          have c4z1 : w8.cell? ⟨w.heap.size + 1, 4, none⟩ = some (.int .i64 g) := B_z1.out.cell 4 rfl
          have c5z1 : w8.cell? ⟨w.heap.size + 1, 5, none⟩ = some (.int .i64 d) := B_z1.out.cell 5 rfl
          go_wp2_with fail
          refine hK.out _ _ ?_ (fun hH1x1 => ?_)
          · ((try dsimp only); (repeat' apply And.intro) <;> (first | (with_reducible assumption) | ((repeat (first | (with_reducible refine Eq.trans (cell_drew1 _ _) ?_) | (with_reducible refine Eq.trans (cell_far (by omega) _ _ _) ?_) | (with_reducible refine Eq.trans (World.cell?_alloc_lt _ _ _ (by first | (dsimp only; omega) | (simp only [World.size_alloc, World.size_setCell]; omega))) ?_))); with_reducible assumption) | assumption | go_keep))
          clear hK K hH1x0
          try simp only [Act.put, List.setIfInBounds_toArray, List.set_cons_zero, List.set_cons_succ, List.getElem_toArray, List.getElem_cons_zero, List.getElem_cons_succ]
          refine wpAnyH_ready (rs := [18]) (by kernel_rfl) (by simp) ?_
          refine AllReadyH.cons rfl (fun K hK => ?_) AllReadyH.nil
          go_simp
          go_at_call 15
          refine (F3.out _).mono ?_
          rintro e w9 ⟨rfl, bb⟩
          replace bb := nextw (w0 := w8) (by exact sm) bb
          replace B_z0 := mv B_z0 bb
          replace B_z1 := mv B_z1 bb
          replace B_z2 := mv B_z2 bb
          replace HB := nx HB bb
          clear bb c0z0 c1z0 c2z0 c3z0 c4z0 c5z0 c0z1 c1z1 c2z1 c3z1 c4z1 c5z1
          have c0z0 : w9.cell? ⟨w.heap.size, 0, none⟩ = some (.int .i64 x0) := B_z0.out.cell 0 rfl
          have c1z0 : w9.cell? ⟨w.heap.size, 1, none⟩ = some (.int .i64 y0) := B_z0.out.cell 1 rfl
          have c2z0 : w9.cell? ⟨w.heap.size, 2, none⟩ = some (.int .i64 x1) := B_z0.out.cell 2 rfl
          have c3z0 : w9.cell? ⟨w.heap.size, 3, none⟩ = some (.int .i64 y1) := B_z0.out.cell 3 rfl
          have c4z0 : w9.cell? ⟨w.heap.size, 4, none⟩ = some (.int .i64 f) := B_z0.out.cell 4 rfl
          have c5z0 : w9.cell? ⟨w.heap.size, 5, none⟩ = some (.int .i64 c) := B_z0.out.cell 5 rfl
          have c0z1 : w9.cell? ⟨w.heap.size + 1, 0, none⟩ = some (.int .i64 u0) := B_z1.out.cell 0 rfl
          have c1z1 : w9.cell? ⟨w.heap.size + 1, 1, none⟩ = some (.int .i64 v0) := B_z1.out.cell 1 rfl
          have c2z1 : w9.cell? ⟨w.heap.size + 1, 2, none⟩ = some (.int .i64 u1) := B_z1.out.cell 2 rfl
          have c3z1 : w9.cell? ⟨w.heap.size + 1, 3, none⟩ = some (.int .i64 v1) := B_z1.out.cell 3 rfl
          have c4z1 : w9.cell? ⟨w.heap.size + 1, 4, none⟩ = some (.int .i64 g) := B_z1.out.cell 4 rfl
          have c5z1 : w9.cell? ⟨w.heap.size + 1, 5, none⟩ = some (.int .i64 d) := B_z1.out.cell 5 rfl
          go_wp2_with fail
          refine hK.out _ _ ?_ (fun hH1x2 => ?_)
          · ((try dsimp only); (repeat' apply And.intro) <;> (first | (with_reducible assumption) | ((repeat (first | (with_reducible refine Eq.trans (cell_drew1 _ _) ?_) | (with_reducible refine Eq.trans (cell_far (by omega) _ _ _) ?_) | (with_reducible refine Eq.trans (World.cell?_alloc_lt _ _ _ (by first | (dsimp only; omega) | (simp only [World.size_alloc, World.size_setCell]; omega))) ?_))); with_reducible assumption) | assumption | go_keep))
          clear hK K hH1x1
          try simp only [Act.put, List.setIfInBounds_toArray, List.set_cons_zero, List.set_cons_succ, List.getElem_toArray, List.getElem_cons_zero, List.getElem_cons_succ]
          refine wpAnyH_take (i := 19) (v := ?hv1x19) rfl (by kernel_rfl) (by kernel_rfl) (by kernel_rfl) (fun _ _ _ h => h) (Or.inl ⟨by kernel_rfl, ?hy1x19⟩) (by assumption) ?hr1x19
          case hy1x19 => (intro w hSw; (try dsimp only at hSw); go_simp <;> with_reducible rfl)
          simp only [Act.put, List.setIfInBounds_toArray, List.set_cons_zero, List.set_cons_succ, List.getElem_toArray, List.getElem_cons_zero, List.getElem_cons_succ]
          refine wpAnyH_take (i := 20) (v := undef) rfl (by kernel_rfl) (by kernel_rfl) (by kernel_rfl) (fun _ _ _ h => h) (Or.inr ⟨by kernel_rfl, rfl⟩) (by assumption) ?_
          simp only [Act.put, List.setIfInBounds_toArray, List.set_cons_zero, List.set_cons_succ, List.getElem_toArray, List.getElem_cons_zero, List.getElem_cons_succ]
          refine wpAnyH_take (i := 21) (v := undef) rfl (by kernel_rfl) (by kernel_rfl) (by kernel_rfl) (fun _ _ _ h => h) (Or.inr ⟨by kernel_rfl, rfl⟩) (by assumption) ?_
          simp only [Act.put, List.setIfInBounds_toArray, List.set_cons_zero, List.set_cons_succ, List.getElem_toArray, List.getElem_cons_zero, List.getElem_cons_succ]
          refine wpAnyH_take (i := 22) (v := undef) rfl (by kernel_rfl) (by kernel_rfl) (by kernel_rfl) (fun _ _ _ h => h) (Or.inr ⟨by kernel_rfl, rfl⟩) (by assumption) ?_
          simp only [Act.put, List.setIfInBounds_toArray, List.set_cons_zero, List.set_cons_succ, List.getElem_toArray, List.getElem_cons_zero, List.getElem_cons_succ]
          refine wpAnyH_take (i := 23) (v := undef) rfl (by kernel_rfl) (by kernel_rfl) (by kernel_rfl) (fun _ _ _ h => h) (Or.inr ⟨by kernel_rfl, rfl⟩) (by assumption) ?_
          simp only [Act.put, List.setIfInBounds_toArray, List.set_cons_zero, List.set_cons_succ, List.getElem_toArray, List.getElem_cons_zero, List.getElem_cons_succ]
          refine wpAnyH_take (i := 24) (v := ?hv1x24) rfl (by kernel_rfl) (by kernel_rfl) (by kernel_rfl) (fun _ _ _ h => h) (Or.inl ⟨by kernel_rfl, ?hy1x24⟩) (by assumption) ?hr1x24
          case hy1x24 => (intro w hSw; (try dsimp only at hSw); go_simp <;> with_reducible rfl)
          simp only [Act.put, List.setIfInBounds_toArray, List.set_cons_zero, List.set_cons_succ, List.getElem_toArray, List.getElem_cons_zero, List.getElem_cons_succ]
          refine wpAnyH_take (i := 25) (v := ?hv1x25) rfl (by kernel_rfl) (by kernel_rfl) (by kernel_rfl) (fun _ _ _ h => h) (Or.inl ⟨by kernel_rfl, ?hy1x25⟩) (by assumption) ?hr1x25
          case hy1x25 => (intro w hSw; (try dsimp only at hSw); go_simp <;> with_reducible rfl)
          simp only [Act.put, List.setIfInBounds_toArray, List.set_cons_zero, List.set_cons_succ, List.getElem_toArray, List.getElem_cons_zero, List.getElem_cons_succ]
          refine wpAnyH_take (i := 26) (v := ?hv1x26) rfl (by kernel_rfl) (by kernel_rfl) (by kernel_rfl) (fun _ _ _ h => h) (Or.inl ⟨by kernel_rfl, ?hy1x26⟩) (by assumption) ?hr1x26
          case hy1x26 => (intro w hSw; (try dsimp only at hSw); go_simp <;> with_reducible rfl)
          simp only [Act.put, List.setIfInBounds_toArray, List.set_cons_zero, List.set_cons_succ, List.getElem_toArray, List.getElem_cons_zero, List.getElem_cons_succ]
          refine wpAnyH_take (i := 27) (v := ?hv1x27) rfl (by kernel_rfl) (by kernel_rfl) (by kernel_rfl) (fun _ _ _ h => h) (Or.inl ⟨by kernel_rfl, ?hy1x27⟩) (by assumption) ?hr1x27
          case hy1x27 => (intro w hSw; (try dsimp only at hSw); go_simp <;> with_reducible rfl)
          simp only [Act.put, List.setIfInBounds_toArray, List.set_cons_zero, List.set_cons_succ, List.getElem_toArray, List.getElem_cons_zero, List.getElem_cons_succ]
          refine wpAnyH_done (by kernel_rfl) ?_ _
          clear hH1x2
          clear c0z0 c1z0 c2z0 c3z0 c4z0 c5z0 c0z1 c1z1 c2z1 c3z1 c4z1 c5z1
          go_wp2
          go_ret
          exact ⟨rfl, nextw HB.out (by exact sm)⟩
        · skip
          go_upto_region 14 with (fail)
          obtain ⟨c0z0, c1z0, c2z0, c3z0, c4z0, c5z0⟩ := cells6 B_z0
          obtain ⟨c0z2, c1z2, c2z2⟩ := cells3 B_z2
          go_wp2_with fail
          refine (F0.out _).mono ?_
          clear c0z0 c1z0 c2z0 c3z0 c4z0 c5z0 c0z2 c1z2 c2z2
          rintro e w7 ⟨rfl, bb⟩
          replace bb := nextw (w0 := wr) (by exact sm) bb
          replace B_z0 := mv B_z0 bb
          replace B_z1 := mv B_z1 bb
          replace B_z2 := mv B_z2 bb
          replace HB := nx HB bb
          clear bb
          go_upto_region 15 with (fail)
          obtain ⟨c0z0, c1z0, c2z0, c3z0, c4z0, c5z0⟩ := cells6 B_z0
          obtain ⟨c0z1, c1z1, c2z1, c3z1, c4z1, c5z1⟩ := cells6 B_z1
          have tk3x0 : True := trivial
          go_region_held3 (fun w' => w'.cell? ⟨w.heap.size, 0, none⟩ = some (.int .i64 x0) ∧ w'.cell? ⟨w.heap.size, 1, none⟩ = some (.int .i64 y0) ∧ w'.cell? ⟨w.heap.size, 2, none⟩ = some (.int .i64 x1) ∧ w'.cell? ⟨w.heap.size, 3, none⟩ = some (.int .i64 y1) ∧ w'.cell? ⟨w.heap.size, 4, none⟩ = some (.int .i64 f) ∧ w'.cell? ⟨w.heap.size, 5, none⟩ = some (.int .i64 c) ∧ w'.cell? ⟨w.heap.size + 1, 0, none⟩ = some (.int .i64 u0) ∧ w'.cell? ⟨w.heap.size + 1, 1, none⟩ = some (.int .i64 v0) ∧ w'.cell? ⟨w.heap.size + 1, 2, none⟩ = some (.int .i64 u1) ∧ w'.cell? ⟨w.heap.size + 1, 3, none⟩ = some (.int .i64 v1) ∧ w'.cell? ⟨w.heap.size + 1, 4, none⟩ = some (.int .i64 g) ∧ w'.cell? ⟨w.heap.size + 1, 5, none⟩ = some (.int .i64 d)) (((try dsimp only); (repeat' apply And.intro) <;> (first | (with_reducible assumption) | ((repeat (first | (with_reducible refine Eq.trans (cell_drew1 _ _) ?_) | (with_reducible refine Eq.trans (cell_far (by omega) _ _ _) ?_) | (with_reducible refine Eq.trans (World.cell?_alloc_lt _ _ _ (by first | (dsimp only; omega) | (simp only [World.size_alloc, World.size_setCell]; omega))) ?_))); with_reducible assumption) | assumption | go_keep)))
    (first
      | (clear tk3x0; go_at_call 24; refine (F2.out _).mono ?_; rintro e w8 ⟨rfl, bb⟩; replace bb := nextw (w0 := w7) (by exact sm) bb; replace B_z0 := mv B_z0 bb; replace B_z1 := mv B_z1 bb; replace B_z2 := mv B_z2 bb; replace HB := nx HB bb; clear bb c0z0 c1z0 c2z0 c3z0 c4z0 c5z0 c0z1 c1z1 c2z1 c3z1 c4z1 c5z1; have c0z0 : w8.cell? ⟨w.heap.size, 0, none⟩ = some (.int .i64 x0) := B_z0.out.cell 0 rfl; have c1z0 : w8.cell? ⟨w.heap.size, 1, none⟩ = some (.int .i64 y0) := B_z0.out.cell 1 rfl; have c2z0 : w8.cell? ⟨w.heap.size, 2, none⟩ = some (.int .i64 x1) := B_z0.out.cell 2 rfl; have c3z0 : w8.cell? ⟨w.heap.size, 3, none⟩ = some (.int .i64 y1) := B_z0.out.cell 3 rfl; have c4z0 : w8.cell? ⟨w.heap.size, 4, none⟩ = some (.int .i64 f) := B_z0.out.cell 4 rfl; have c5z0 : w8.cell? ⟨w.heap.size, 5, none⟩ = some (.int .i64 c) := B_z0.out.cell 5 rfl; have c0z1 : w8.cell? ⟨w.heap.size + 1, 0, none⟩ = some (.int .i64 u0) := B_z1.out.cell 0 rfl; have c1z1 : w8.cell? ⟨w.heap.size + 1, 1, none⟩ = some (.int .i64 v0) := B_z1.out.cell 1 rfl; have c2z1 : w8.cell? ⟨w.heap.size + 1, 2, none⟩ = some (.int .i64 u1) := B_z1.out.cell 2 rfl; have c3z1 : w8.cell? ⟨w.heap.size + 1, 3, none⟩ = some (.int .i64 v1) := B_z1.out.cell 3 rfl; have c4z1 : w8.cell? ⟨w.heap.size + 1, 4, none⟩ = some (.int .i64 g) := B_z1.out.cell 4 rfl; have c5z1 : w8.cell? ⟨w.heap.size + 1, 5, none⟩ = some (.int .i64 d) := B_z1.out.cell 5 rfl; have tk3x1 : True := trivial)
      | (clear tk3x1; go_at_call 15; refine (F3.out _).mono ?_; rintro e w9 ⟨rfl, bb⟩; replace bb := nextw (w0 := w8) (by exact sm) bb; replace B_z0 := mv B_z0 bb; replace B_z1 := mv B_z1 bb; replace B_z2 := mv B_z2 bb; replace HB := nx HB bb; clear bb c0z0 c1z0 c2z0 c3z0 c4z0 c5z0 c0z1 c1z1 c2z1 c3z1 c4z1 c5z1; have c0z0 : w9.cell? ⟨w.heap.size, 0, none⟩ = some (.int .i64 x0) := B_z0.out.cell 0 rfl; have c1z0 : w9.cell? ⟨w.heap.size, 1, none⟩ = some (.int .i64 y0) := B_z0.out.cell 1 rfl; have c2z0 : w9.cell? ⟨w.heap.size, 2, none⟩ = some (.int .i64 x1) := B_z0.out.cell 2 rfl; have c3z0 : w9.cell? ⟨w.heap.size, 3, none⟩ = some (.int .i64 y1) := B_z0.out.cell 3 rfl; have c4z0 : w9.cell? ⟨w.heap.size, 4, none⟩ = some (.int .i64 f) := B_z0.out.cell 4 rfl; have c5z0 : w9.cell? ⟨w.heap.size, 5, none⟩ = some (.int .i64 c) := B_z0.out.cell 5 rfl; have c0z1 : w9.cell? ⟨w.heap.size + 1, 0, none⟩ = some (.int .i64 u0) := B_z1.out.cell 0 rfl; have c1z1 : w9.cell? ⟨w.heap.size + 1, 1, none⟩ = some (.int .i64 v0) := B_z1.out.cell 1 rfl; have c2z1 : w9.cell? ⟨w.heap.size + 1, 2, none⟩ = some (.int .i64 u1) := B_z1.out.cell 2 rfl; have c3z1 : w9.cell? ⟨w.heap.size + 1, 3, none⟩ = some (.int .i64 v1) := B_z1.out.cell 3 rfl; have c4z1 : w9.cell? ⟨w.heap.size + 1, 4, none⟩ = some (.int .i64 g) := B_z1.out.cell 4 rfl; have c5z1 : w9.cell? ⟨w.heap.size + 1, 5, none⟩ = some (.int .i64 d) := B_z1.out.cell 5 rfl; have tk3x2 : True := trivial)
      | (clear tk3x2; go_at_call 19; refine (F4.out _).mono ?_; rintro e w10 ⟨rfl, bb⟩; replace bb := nextw (w0 := w9) (by exact sm) bb; replace B_z0 := mv B_z0 bb; replace B_z1 := mv B_z1 bb; replace B_z2 := mv B_z2 bb; replace HB := nx HB bb; clear bb c0z0 c1z0 c2z0 c3z0 c4z0 c5z0 c0z1 c1z1 c2z1 c3z1 c4z1 c5z1; have c0z0 : w10.cell? ⟨w.heap.size, 0, none⟩ = some (.int .i64 x0) := B_z0.out.cell 0 rfl; have c1z0 : w10.cell? ⟨w.heap.size, 1, none⟩ = some (.int .i64 y0) := B_z0.out.cell 1 rfl; have c2z0 : w10.cell? ⟨w.heap.size, 2, none⟩ = some (.int .i64 x1) := B_z0.out.cell 2 rfl; have c3z0 : w10.cell? ⟨w.heap.size, 3, none⟩ = some (.int .i64 y1) := B_z0.out.cell 3 rfl; have c4z0 : w10.cell? ⟨w.heap.size, 4, none⟩ = some (.int .i64 f) := B_z0.out.cell 4 rfl; have c5z0 : w10.cell? ⟨w.heap.size, 5, none⟩ = some (.int .i64 c) := B_z0.out.cell 5 rfl; have c0z1 : w10.cell? ⟨w.heap.size + 1, 0, none⟩ = some (.int .i64 u0) := B_z1.out.cell 0 rfl; have c1z1 : w10.cell? ⟨w.heap.size + 1, 1, none⟩ = some (.int .i64 v0) := B_z1.out.cell 1 rfl; have c2z1 : w10.cell? ⟨w.heap.size + 1, 2, none⟩ = some (.int .i64 u1) := B_z1.out.cell 2 rfl; have c3z1 : w10.cell? ⟨w.heap.size + 1, 3, none⟩ = some (.int .i64 v1) := B_z1.out.cell 3 rfl; have c4z1 : w10.cell? ⟨w.heap.size + 1, 4, none⟩ = some (.int .i64 g) := B_z1.out.cell 4 rfl; have c5z1 : w10.cell? ⟨w.heap.size + 1, 5, none⟩ = some (.int .i64 d) := B_z1.out.cell 5 rfl; have tk3x3 : True := trivial))
          clear c0z0 c1z0 c2z0 c3z0 c4z0 c5z0 c0z1 c1z1 c2z1 c3z1 c4z1 c5z1
          go_wp2
          go_ret
          exact ⟨rfl, nextw HB.out (by exact sm)⟩
        · skip
          go_upto_region 14 with (fail)
          obtain ⟨c0z0, c1z0, c2z0, c3z0, c4z0, c5z0⟩ := cells6 B_z0
          obtain ⟨c0z2, c1z2, c2z2⟩ := cells3 B_z2
          go_wp2_with fail
          refine (F0.out _).mono ?_
          clear c0z0 c1z0 c2z0 c3z0 c4z0 c5z0 c0z2 c1z2 c2z2
          rintro e w7 ⟨rfl, bb⟩
          replace bb := nextw (w0 := wr) (by exact sm) bb
          replace B_z0 := mv B_z0 bb
          replace B_z1 := mv B_z1 bb
          replace B_z2 := mv B_z2 bb
          replace HB := nx HB bb
          clear bb
          go_upto_region 15 with (fail)
          obtain ⟨c0z0, c1z0, c2z0, c3z0, c4z0, c5z0⟩ := cells6 B_z0
          obtain ⟨c0z1, c1z1, c2z1, c3z1, c4z1, c5z1⟩ := cells6 B_z1
          have tk3x0 : True := trivial
          go_region_held3 (fun w' => w'.cell? ⟨w.heap.size, 0, none⟩ = some (.int .i64 x0) ∧ w'.cell? ⟨w.heap.size, 1, none⟩ = some (.int .i64 y0) ∧ w'.cell? ⟨w.heap.size, 2, none⟩ = some (.int .i64 x1) ∧ w'.cell? ⟨w.heap.size, 3, none⟩ = some (.int .i64 y1) ∧ w'.cell? ⟨w.heap.size, 4, none⟩ = some (.int .i64 f) ∧ w'.cell? ⟨w.heap.size, 5, none⟩ = some (.int .i64 c) ∧ w'.cell? ⟨w.heap.size + 1, 0, none⟩ = some (.int .i64 u0) ∧ w'.cell? ⟨w.heap.size + 1, 1, none⟩ = some (.int .i64 v0) ∧ w'.cell? ⟨w.heap.size + 1, 2, none⟩ = some (.int .i64 u1) ∧ w'.cell? ⟨w.heap.size + 1, 3, none⟩ = some (.int .i64 v1) ∧ w'.cell? ⟨w.heap.size + 1, 4, none⟩ = some (.int .i64 g) ∧ w'.cell? ⟨w.heap.size + 1, 5, none⟩ = some (.int .i64 d)) (((try dsimp only); (repeat' apply And.intro) <;> (first | (with_reducible assumption) | ((repeat (first | (with_reducible refine Eq.trans (cell_drew1 _ _) ?_) | (with_reducible refine Eq.trans (cell_far (by omega) _ _ _) ?_) | (with_reducible refine Eq.trans (World.cell?_alloc_lt _ _ _ (by first | (dsimp only; omega) | (simp only [World.size_alloc, World.size_setCell]; omega))) ?_))); with_reducible assumption) | assumption | go_keep)))
    (first
      | (clear tk3x0; go_at_call 24; refine (F2.out _).mono ?_; rintro e w8 ⟨rfl, bb⟩; replace bb := nextw (w0 := w7) (by exact sm) bb; replace B_z0 := mv B_z0 bb; replace B_z1 := mv B_z1 bb; replace B_z2 := mv B_z2 bb; replace HB := nx HB bb; clear bb c0z0 c1z0 c2z0 c3z0 c4z0 c5z0 c0z1 c1z1 c2z1 c3z1 c4z1 c5z1; have c0z0 : w8.cell? ⟨w.heap.size, 0, none⟩ = some (.int .i64 x0) := B_z0.out.cell 0 rfl; have c1z0 : w8.cell? ⟨w.heap.size, 1, none⟩ = some (.int .i64 y0) := B_z0.out.cell 1 rfl; have c2z0 : w8.cell? ⟨w.heap.size, 2, none⟩ = some (.int .i64 x1) := B_z0.out.cell 2 rfl; have c3z0 : w8.cell? ⟨w.heap.size, 3, none⟩ = some (.int .i64 y1) := B_z0.out.cell 3 rfl; have c4z0 : w8.cell? ⟨w.heap.size, 4, none⟩ = some (.int .i64 f) := B_z0.out.cell 4 rfl; have c5z0 : w8.cell? ⟨w.heap.size, 5, none⟩ = some (.int .i64 c) := B_z0.out.cell 5 rfl; have c0z1 : w8.cell? ⟨w.heap.size + 1, 0, none⟩ = some (.int .i64 u0) := B_z1.out.cell 0 rfl; have c1z1 : w8.cell? ⟨w.heap.size + 1, 1, none⟩ = some (.int .i64 v0) := B_z1.out.cell 1 rfl; have c2z1 : w8.cell? ⟨w.heap.size + 1, 2, none⟩ = some (.int .i64 u1) := B_z1.out.cell 2 rfl; have c3z1 : w8.cell? ⟨w.heap.size + 1, 3, none⟩ = some (.int .i64 v1) := B_z1.out.cell 3 rfl; have c4z1 : w8.cell? ⟨w.heap.size + 1, 4, none⟩ = some (.int .i64 g) := B_z1.out.cell 4 rfl; have c5z1 : w8.cell? ⟨w.heap.size + 1, 5, none⟩ = some (.int .i64 d) := B_z1.out.cell 5 rfl; have tk3x1 : True := trivial)
      | (clear tk3x1; go_at_call 15; refine (F3.out _).mono ?_; rintro e w9 ⟨rfl, bb⟩; replace bb := nextw (w0 := w8) (by exact sm) bb; replace B_z0 := mv B_z0 bb; replace B_z1 := mv B_z1 bb; replace B_z2 := mv B_z2 bb; replace HB := nx HB bb; clear bb c0z0 c1z0 c2z0 c3z0 c4z0 c5z0 c0z1 c1z1 c2z1 c3z1 c4z1 c5z1; have c0z0 : w9.cell? ⟨w.heap.size, 0, none⟩ = some (.int .i64 x0) := B_z0.out.cell 0 rfl; have c1z0 : w9.cell? ⟨w.heap.size, 1, none⟩ = some (.int .i64 y0) := B_z0.out.cell 1 rfl; have c2z0 : w9.cell? ⟨w.heap.size, 2, none⟩ = some (.int .i64 x1) := B_z0.out.cell 2 rfl; have c3z0 : w9.cell? ⟨w.heap.size, 3, none⟩ = some (.int .i64 y1) := B_z0.out.cell 3 rfl; have c4z0 : w9.cell? ⟨w.heap.size, 4, none⟩ = some (.int .i64 f) := B_z0.out.cell 4 rfl; have c5z0 : w9.cell? ⟨w.heap.size, 5, none⟩ = some (.int .i64 c) := B_z0.out.cell 5 rfl; have c0z1 : w9.cell? ⟨w.heap.size + 1, 0, none⟩ = some (.int .i64 u0) := B_z1.out.cell 0 rfl; have c1z1 : w9.cell? ⟨w.heap.size + 1, 1, none⟩ = some (.int .i64 v0) := B_z1.out.cell 1 rfl; have c2z1 : w9.cell? ⟨w.heap.size + 1, 2, none⟩ = some (.int .i64 u1) := B_z1.out.cell 2 rfl; have c3z1 : w9.cell? ⟨w.heap.size + 1, 3, none⟩ = some (.int .i64 v1) := B_z1.out.cell 3 rfl; have c4z1 : w9.cell? ⟨w.heap.size + 1, 4, none⟩ = some (.int .i64 g) := B_z1.out.cell 4 rfl; have c5z1 : w9.cell? ⟨w.heap.size + 1, 5, none⟩ = some (.int .i64 d) := B_z1.out.cell 5 rfl; have tk3x2 : True := trivial)
      | (clear tk3x2; go_at_call 19; refine (F4.out _).mono ?_; rintro e w10 ⟨rfl, bb⟩; replace bb := nextw (w0 := w9) (by exact sm) bb; replace B_z0 := mv B_z0 bb; replace B_z1 := mv B_z1 bb; replace B_z2 := mv B_z2 bb; replace HB := nx HB bb; clear bb c0z0 c1z0 c2z0 c3z0 c4z0 c5z0 c0z1 c1z1 c2z1 c3z1 c4z1 c5z1; have c0z0 : w10.cell? ⟨w.heap.size, 0, none⟩ = some (.int .i64 x0) := B_z0.out.cell 0 rfl; have c1z0 : w10.cell? ⟨w.heap.size, 1, none⟩ = some (.int .i64 y0) := B_z0.out.cell 1 rfl; have c2z0 : w10.cell? ⟨w.heap.size, 2, none⟩ = some (.int .i64 x1) := B_z0.out.cell 2 rfl; have c3z0 : w10.cell? ⟨w.heap.size, 3, none⟩ = some (.int .i64 y1) := B_z0.out.cell 3 rfl; have c4z0 : w10.cell? ⟨w.heap.size, 4, none⟩ = some (.int .i64 f) := B_z0.out.cell 4 rfl; have c5z0 : w10.cell? ⟨w.heap.size, 5, none⟩ = some (.int .i64 c) := B_z0.out.cell 5 rfl; have c0z1 : w10.cell? ⟨w.heap.size + 1, 0, none⟩ = some (.int .i64 u0) := B_z1.out.cell 0 rfl; have c1z1 : w10.cell? ⟨w.heap.size + 1, 1, none⟩ = some (.int .i64 v0) := B_z1.out.cell 1 rfl; have c2z1 : w10.cell? ⟨w.heap.size + 1, 2, none⟩ = some (.int .i64 u1) := B_z1.out.cell 2 rfl; have c3z1 : w10.cell? ⟨w.heap.size + 1, 3, none⟩ = some (.int .i64 v1) := B_z1.out.cell 3 rfl; have c4z1 : w10.cell? ⟨w.heap.size + 1, 4, none⟩ = some (.int .i64 g) := B_z1.out.cell 4 rfl; have c5z1 : w10.cell? ⟨w.heap.size + 1, 5, none⟩ = some (.int .i64 d) := B_z1.out.cell 5 rfl; have tk3x3 : True := trivial))
          clear c0z0 c1z0 c2z0 c3z0 c4z0 c5z0 c0z1 c1z1 c2z1 c3z1 c4z1 c5z1
          go_wp2
          go_ret
          exact ⟨rfl, nextw HB.out (by exact sm)⟩
      · rcases hy with ⟨rfl, rfl⟩ | ⟨rfl, he, rfl⟩ | ⟨rfl, he, rfl⟩
        · skip
          go_upto_region 14 with (fail)
          obtain ⟨c0z0, c1z0, c2z0, c3z0, c4z0, c5z0⟩ := cells6 B_z0
          obtain ⟨c0z2, c1z2, c2z2⟩ := cells3 B_z2
          go_wp2_with fail
          refine (F0.out _).mono ?_
          clear c0z0 c1z0 c2z0 c3z0 c4z0 c5z0 c0z2 c1z2 c2z2
          rintro e w7 ⟨rfl, bb⟩
          replace bb := nextw (w0 := wr) (by exact sm) bb
          replace B_z0 := mv B_z0 bb
          replace B_z1 := mv B_z1 bb
          replace B_z2 := mv B_z2 bb
          replace HB := nx HB bb
          clear bb
          obtain ⟨c0z1, c1z1, c2z1, c3z1, c4z1, c5z1⟩ := cells6 B_z1
          obtain ⟨c0z2, c1z2, c2z2⟩ := cells3 B_z2
          go_wp2_with fail
          refine (F1.out _).mono ?_
          clear c0z1 c1z1 c2z1 c3z1 c4z1 c5z1 c0z2 c1z2 c2z2
          rintro e w8 ⟨rfl, bb⟩
          replace bb := nextw (w0 := w7) (by exact sm) bb
          replace B_z0 := mv B_z0 bb
          replace B_z1 := mv B_z1 bb
          replace B_z2 := mv B_z2 bb
          replace HB := nx HB bb
          clear bb
          go_upto_region 15 with (fail)
          obtain ⟨c0z0, c1z0, c2z0, c3z0, c4z0, c5z0⟩ := cells6 B_z0
          obtain ⟨c0z1, c1z1, c2z1, c3z1, c4z1, c5z1⟩ := cells6 B_z1
          refine wp_region_held_drew (S := fun w' => w'.cell? ⟨w.heap.size, 0, none⟩ = some (.int .i64 x0) ∧ w'.cell? ⟨w.heap.size, 1, none⟩ = some (.int .i64 y0) ∧ w'.cell? ⟨w.heap.size, 2, none⟩ = some (.int .i64 x1) ∧ w'.cell? ⟨w.heap.size, 3, none⟩ = some (.int .i64 y1) ∧ w'.cell? ⟨w.heap.size, 4, none⟩ = some (.int .i64 f) ∧ w'.cell? ⟨w.heap.size, 5, none⟩ = some (.int .i64 c) ∧ w'.cell? ⟨w.heap.size + 1, 0, none⟩ = some (.int .i64 u0) ∧ w'.cell? ⟨w.heap.size + 1, 1, none⟩ = some (.int .i64 v0) ∧ w'.cell? ⟨w.heap.size + 1, 2, none⟩ = some (.int .i64 u1) ∧ w'.cell? ⟨w.heap.size + 1, 3, none⟩ = some (.int .i64 v1) ∧ w'.cell? ⟨w.heap.size + 1, 4, none⟩ = some (.int .i64 g) ∧ w'.cell? ⟨w.heap.size + 1, 5, none⟩ = some (.int .i64 d)) (by kernel_rfl) ?_ (fun hH2x0 => ?_)
          · ((try dsimp only); (repeat' apply And.intro) <;> (first | (with_reducible assumption) | ((repeat (first | (with_reducible refine Eq.trans (cell_drew1 _ _) ?_) | (with_reducible refine Eq.trans (cell_far (by omega) _ _ _) ?_) | (with_reducible refine Eq.trans (World.cell?_alloc_lt _ _ _ (by first | (dsimp only; omega) | (simp only [World.size_alloc, World.size_setCell]; omega))) ?_))); with_reducible assumption) | assumption | go_keep))
          refine wpAnyH_take (i := 0) (v := ?hv2x0) rfl (by kernel_rfl) (by kernel_rfl) (by kernel_rfl) (fun _ _ _ h => h) (Or.inl ⟨by kernel_rfl, ?hy2x0⟩) (by assumption) ?hr2x0
          case hy2x0 => (intro w hSw; (try dsimp only at hSw); go_simp <;> with_reducible rfl)
          simp only [Act.put, List.setIfInBounds_toArray, List.set_cons_zero, List.set_cons_succ, List.getElem_toArray, List.getElem_cons_zero, List.getElem_cons_succ]
          refine wpAnyH_take (i := 1) (v := ?hv2x1) rfl (by kernel_rfl) (by kernel_rfl) (by kernel_rfl) (fun _ _ _ h => h) (Or.inl ⟨by kernel_rfl, ?hy2x1⟩) (by assumption) ?hr2x1
          case hy2x1 => (intro w hSw; (try dsimp only at hSw); go_simp <;> with_reducible rfl)
          simp only [Act.put, List.setIfInBounds_toArray, List.set_cons_zero, List.set_cons_succ, List.getElem_toArray, List.getElem_cons_zero, List.getElem_cons_succ]
          refine wpAnyH_take (i := 2) (v := ?hv2x2) rfl (by kernel_rfl) (by kernel_rfl) (by kernel_rfl) (fun _ _ _ h => h) (Or.inl ⟨by kernel_rfl, ?hy2x2⟩) (by assumption) ?hr2x2
          case hy2x2 => (intro w hSw; (try dsimp only at hSw); go_simp <;> with_reducible rfl)
          simp only [Act.put, List.setIfInBounds_toArray, List.set_cons_zero, List.set_cons_succ, List.getElem_toArray, List.getElem_cons_zero, List.getElem_cons_succ]
          refine wpAnyH_take (i := 3) (v := ?hv2x3) rfl (by kernel_rfl) (by kernel_rfl) (by kernel_rfl) (fun _ _ _ h => h) (Or.inl ⟨by kernel_rfl, ?hy2x3⟩) (by assumption) ?hr2x3
          case hy2x3 => (intro w hSw; (try dsimp only at hSw); go_simp <;> with_reducible rfl)
          simp only [Act.put, List.setIfInBounds_toArray, List.set_cons_zero, List.set_cons_succ, List.getElem_toArray, List.getElem_cons_zero, List.getElem_cons_succ]
          refine wpAnyH_take (i := 4) (v := ?hv2x4) rfl (by kernel_rfl) (by kernel_rfl) (by kernel_rfl) (fun _ _ _ h => h) (Or.inl ⟨by kernel_rfl, ?hy2x4⟩) (by assumption) ?hr2x4
          case hy2x4 => (intro w hSw; (try dsimp only at hSw); go_simp <;> with_reducible rfl)
          simp only [Act.put, List.setIfInBounds_toArray, List.set_cons_zero, List.set_cons_succ, List.getElem_toArray, List.getElem_cons_zero, List.getElem_cons_succ]
          refine wpAnyH_take (i := 5) (v := ?hv2x5) rfl (by kernel_rfl) (by kernel_rfl) (by kernel_rfl) (fun _ _ _ h => h) (Or.inl ⟨by kernel_rfl, ?hy2x5⟩) (by assumption) ?hr2x5
          case hy2x5 => (intro w hSw; (try dsimp only at hSw); go_simp <;> with_reducible rfl)
          simp only [Act.put, List.setIfInBounds_toArray, List.set_cons_zero, List.set_cons_succ, List.getElem_toArray, List.getElem_cons_zero, List.getElem_cons_succ]
          refine wpAnyH_take (i := 6) (v := ?hv2x6) rfl (by kernel_rfl) (by kernel_rfl) (by kernel_rfl) (fun _ _ _ h => h) (Or.inl ⟨by kernel_rfl, ?hy2x6⟩) (by assumption) ?hr2x6
          case hy2x6 => (intro w hSw; (try dsimp only at hSw); go_simp <;> with_reducible rfl)
          simp only [Act.put, List.setIfInBounds_toArray, List.set_cons_zero, List.set_cons_succ, List.getElem_toArray, List.getElem_cons_zero, List.getElem_cons_succ]
          refine wpAnyH_take (i := 7) (v := ?hv2x7) rfl (by kernel_rfl) (by kernel_rfl) (by kernel_rfl) (fun _ _ _ h => h) (Or.inl ⟨by kernel_rfl, ?hy2x7⟩) (by assumption) ?hr2x7
          case hy2x7 => (intro w hSw; (try dsimp only at hSw); go_simp <;> with_reducible rfl)
          simp only [Act.put, List.setIfInBounds_toArray, List.set_cons_zero, List.set_cons_succ, List.getElem_toArray, List.getElem_cons_zero, List.getElem_cons_succ]
          refine wpAnyH_take (i := 8) (v := ?hv2x8) rfl (by kernel_rfl) (by kernel_rfl) (by kernel_rfl) (fun _ _ _ h => h) (Or.inl ⟨by kernel_rfl, ?hy2x8⟩) (by assumption) ?hr2x8
          case hy2x8 => (intro w hSw; (try dsimp only at hSw); go_simp <;> with_reducible rfl)
          simp only [Act.put, List.setIfInBounds_toArray, List.set_cons_zero, List.set_cons_succ, List.getElem_toArray, List.getElem_cons_zero, List.getElem_cons_succ]
          refine wpAnyH_take (i := 9) (v := ?hv2x9) rfl (by kernel_rfl) (by kernel_rfl) (by kernel_rfl) (fun _ _ _ h => h) (Or.inl ⟨by kernel_rfl, ?hy2x9⟩) (by assumption) ?hr2x9
          case hy2x9 => (intro w hSw; (try dsimp only at hSw); go_simp <;> with_reducible rfl)
          simp only [Act.put, List.setIfInBounds_toArray, List.set_cons_zero, List.set_cons_succ, List.getElem_toArray, List.getElem_cons_zero, List.getElem_cons_succ]
          refine wpAnyH_take (i := 10) (v := ?hv2x10) rfl (by kernel_rfl) (by kernel_rfl) (by kernel_rfl) (fun _ _ _ h => h) (Or.inl ⟨by kernel_rfl, ?hy2x10⟩) (by assumption) ?hr2x10
          case hy2x10 => (intro w hSw; (try dsimp only at hSw); go_simp <;> with_reducible rfl)
          simp only [Act.put, List.setIfInBounds_toArray, List.set_cons_zero, List.set_cons_succ, List.getElem_toArray, List.getElem_cons_zero, List.getElem_cons_succ]
          refine wpAnyH_take (i := 11) (v := ?hv2x11) rfl (by kernel_rfl) (by kernel_rfl) (by kernel_rfl) (fun _ _ _ h => h) (Or.inl ⟨by kernel_rfl, ?hy2x11⟩) (by assumption) ?hr2x11
          case hy2x11 => (intro w hSw; (try dsimp only at hSw); go_simp <;> with_reducible rfl)
          simp only [Act.put, List.setIfInBounds_toArray, List.set_cons_zero, List.set_cons_succ, List.getElem_toArray, List.getElem_cons_zero, List.getElem_cons_succ]
          refine wpAnyH_take (i := 12) (v := ?hv2x12) rfl (by kernel_rfl) (by kernel_rfl) (by kernel_rfl) (fun _ _ _ h => h) (Or.inl ⟨by kernel_rfl, ?hy2x12⟩) (by assumption) ?hr2x12
          case hy2x12 => (intro w hSw; (try dsimp only at hSw); go_simp <;> with_reducible rfl)
          simp only [Act.put, List.setIfInBounds_toArray, List.set_cons_zero, List.set_cons_succ, List.getElem_toArray, List.getElem_cons_zero, List.getElem_cons_succ]
          refine wpAnyH_take (i := 13) (v := ?hv2x13) rfl (by kernel_rfl) (by kernel_rfl) (by kernel_rfl) (fun _ _ _ h => h) (Or.inl ⟨by kernel_rfl, ?hy2x13⟩) (by assumption) ?hr2x13
          case hy2x13 => (intro w hSw; (try dsimp only at hSw); go_simp <;> with_reducible rfl)
          simp only [Act.put, List.setIfInBounds_toArray, List.set_cons_zero, List.set_cons_succ, List.getElem_toArray, List.getElem_cons_zero, List.getElem_cons_succ]
          refine wpAnyH_take (i := 14) (v := ?hv2x14) rfl (by kernel_rfl) (by kernel_rfl) (by kernel_rfl) (fun _ _ _ h => h) (Or.inl ⟨by kernel_rfl, ?hy2x14⟩) (by assumption) ?hr2x14
          case hy2x14 => (intro w hSw; (try dsimp only at hSw); go_simp <;> with_reducible rfl)
          simp only [Act.put, List.setIfInBounds_toArray, List.set_cons_zero, List.set_cons_succ, List.getElem_toArray, List.getElem_cons_zero, List.getElem_cons_succ]
          refine wpAnyH_take (i := 15) (v := ?hv2x15) rfl (by kernel_rfl) (by kernel_rfl) (by kernel_rfl) (fun _ _ _ h => h) (Or.inl ⟨by kernel_rfl, ?hy2x15⟩) (by assumption) ?hr2x15
          case hy2x15 => (intro w hSw; (try dsimp only at hSw); go_simp <;> with_reducible rfl)
          simp only [Act.put, List.setIfInBounds_toArray, List.set_cons_zero, List.set_cons_succ, List.getElem_toArray, List.getElem_cons_zero, List.getElem_cons_succ]
          refine wpAnyH_take (i := 17) (v := ?hv2x17) rfl (by kernel_rfl) (by kernel_rfl) (by kernel_rfl) (fun _ _ _ h => h) (Or.inl ⟨by kernel_rfl, ?hy2x17⟩) (by assumption) ?hr2x17
          case hy2x17 => (intro w hSw; (try dsimp only at hSw); go_simp <;> with_reducible rfl)
          simp only [Act.put, List.setIfInBounds_toArray, List.set_cons_zero, List.set_cons_succ, List.getElem_toArray, List.getElem_cons_zero, List.getElem_cons_succ]
          refine wpAnyH_ready (rs := [16]) (by kernel_rfl) (by simp) ?_
          refine AllReadyH.cons rfl (fun K hK => ?_) AllReadyH.nil
          go_simp
          go_at_call 24
          refine (F2.out _).mono ?_
          rintro e w9 ⟨rfl, bb⟩
          replace bb := nextw (w0 := w8) (by exact sm) bb
          replace B_z0 := mv B_z0 bb
          replace B_z1 := mv B_z1 bb
          replace B_z2 := mv B_z2 bb
          replace HB := nx HB bb
          clear bb c0z0 c1z0 c2z0 c3z0 c4z0 c5z0 c0z1 c1z1 c2z1 c3z1 c4z1 c5z1
          have c0z0 : w9.cell? ⟨w.heap.size, 0, none⟩ = some (.int .i64 x0) := B_z0.out.cell 0 rfl
          have c1z0 : w9.cell? ⟨w.heap.size, 1, none⟩ = some (.int .i64 y0) := B_z0.out.cell 1 rfl
          have c2z0 : w9.cell? ⟨w.heap.size, 2, none⟩ = some (.int .i64 x1) := B_z0.out.cell 2 rfl
          have c3z0 : w9.cell? ⟨w.heap.size, 3, none⟩ = some (.int .i64 y1) := B_z0.out.cell 3 rfl
          have c4z0 : w9.cell? ⟨w.heap.size, 4, none⟩ = some (.int .i64 f) := B_z0.out.cell 4 rfl
          have c5z0 : w9.cell? ⟨w.heap.size, 5, none⟩ = some (.int .i64 c) := B_z0.out.cell 5 rfl
          have c0z1 : w9.cell? ⟨w.heap.size + 1, 0, none⟩ = some (.int .i64 u0) := B_z1.out.cell 0 rfl
          have c1z1 : w9.cell? ⟨w.heap.size + 1, 1, none⟩ = some (.int .i64 v0) := B_z1.out.cell 1 rfl
          have c2z1 : w9.cell? ⟨w.heap.size + 1, 2, none⟩ = some (.int .i64 u1) := B_z1.out.cell 2 rfl
          have c3z1 : w9.cell? ⟨w.heap.size + 1, 3, none⟩ = some (.int .i64 v1) := B_z1.out.cell 3 rfl
          have c4z1 : w9.cell? ⟨w.heap.size + 1, 4, none⟩ = some (.int .i64 g) := B_z1.out.cell 4 rfl
          have c5z1 : w9.cell? ⟨w.heap.size + 1, 5, none⟩ = some (.int .i64 d) := B_z1.out.cell 5 rfl
          go_wp2_with fail
          refine hK.out _ _ ?_ (fun hH2x1 => ?_)
          · ((try dsimp only); (repeat' apply And.intro) <;> (first | (with_reducible assumption) | ((repeat (first | (with_reducible refine Eq.trans (cell_drew1 _ _) ?_) | (with_reducible refine Eq.trans (cell_far (by omega) _ _ _) ?_) | (with_reducible refine Eq.trans (World.cell?_alloc_lt _ _ _ (by first | (dsimp only; omega) | (simp only [World.size_alloc, World.size_setCell]; omega))) ?_))); with_reducible assumption) | assumption | go_keep))
          clear hK K hH2x0
          try simp only [Act.put, List.setIfInBounds_toArray, List.set_cons_zero, List.set_cons_succ, List.getElem_toArray, List.getElem_cons_zero, List.getElem_cons_succ]
          refine wpAnyH_ready (rs := [18]) (by kernel_rfl) (by simp) ?_
          refine AllReadyH.cons rfl (fun K hK => ?_) AllReadyH.nil
          go_simp
          go_at_call 15
          refine (F3.out _).mono ?_
          rintro e w10 ⟨rfl, bb⟩
          replace bb := nextw (w0 := w9) (by exact sm) bb
          replace B_z0 := mv B_z0 bb
          replace B_z1 := mv B_z1 bb
          replace B_z2 := mv B_z2 bb
          replace HB := nx HB bb
          clear bb c0z0 c1z0 c2z0 c3z0 c4z0 c5z0 c0z1 c1z1 c2z1 c3z1 c4z1 c5z1
          have c0z0 : w10.cell? ⟨w.heap.size, 0, none⟩ = some (.int .i64 x0) := B_z0.out.cell 0 rfl
          have c1z0 : w10.cell? ⟨w.heap.size, 1, none⟩ = some (.int .i64 y0) := B_z0.out.cell 1 rfl
          have c2z0 : w10.cell? ⟨w.heap.size, 2, none⟩ = some (.int .i64 x1) := B_z0.out.cell 2 rfl
          have c3z0 : w10.cell? ⟨w.heap.size, 3, none⟩ = some (.int .i64 y1) := B_z0.out.cell 3 rfl
          have c4z0 : w10.cell? ⟨w.heap.size, 4, none⟩ = some (.int .i64 f) := B_z0.out.cell 4 rfl
          have c5z0 : w10.cell? ⟨w.heap.size, 5, none⟩ = some (.int .i64 c) := B_z0.out.cell 5 rfl
          have c0z1 : w10.cell? ⟨w.heap.size + 1, 0, none⟩ = some (.int .i64 u0) := B_z1.out.cell 0 rfl
          have c1z1 : w10.cell? ⟨w.heap.size + 1, 1, none⟩ = some (.int .i64 v0) := B_z1.out.cell 1 rfl
          have c2z1 : w10.cell? ⟨w.heap.size + 1, 2, none⟩ = some (.int .i64 u1) := B_z1.out.cell 2 rfl
          have c3z1 : w10.cell? ⟨w.heap.size + 1, 3, none⟩ = some (.int .i64 v1) := B_z1.out.cell 3 rfl
          have c4z1 : w10.cell? ⟨w.heap.size + 1, 4, none⟩ = some (.int .i64 g) := B_z1.out.cell 4 rfl
          have c5z1 : w10.cell? ⟨w.heap.size + 1, 5, none⟩ = some (.int .i64 d) := B_z1.out.cell 5 rfl
          go_wp2_with fail
          refine hK.out _ _ ?_ (fun hH2x2 => ?_)
          · ((try dsimp only); (repeat' apply And.intro) <;> (first | (with_reducible assumption) | ((repeat (first | (with_reducible refine Eq.trans (cell_drew1 _ _) ?_) | (with_reducible refine Eq.trans (cell_far (by omega) _ _ _) ?_) | (with_reducible refine Eq.trans (World.cell?_alloc_lt _ _ _ (by first | (dsimp only; omega) | (simp only [World.size_alloc, World.size_setCell]; omega))) ?_))); with_reducible assumption) | assumption | go_keep))
          clear hK K hH2x1
          try simp only [Act.put, List.setIfInBounds_toArray, List.set_cons_zero, List.set_cons_succ, List.getElem_toArray, List.getElem_cons_zero, List.getElem_cons_succ]
          refine wpAnyH_take (i := 19) (v := ?hv2x19) rfl (by kernel_rfl) (by kernel_rfl) (by kernel_rfl) (fun _ _ _ h => h) (Or.inl ⟨by kernel_rfl, ?hy2x19⟩) (by assumption) ?hr2x19
          case hy2x19 => (intro w hSw; (try dsimp only at hSw); go_simp <;> with_reducible rfl)
          simp only [Act.put, List.setIfInBounds_toArray, List.set_cons_zero, List.set_cons_succ, List.getElem_toArray, List.getElem_cons_zero, List.getElem_cons_succ]
          refine wpAnyH_take (i := 20) (v := undef) rfl (by kernel_rfl) (by kernel_rfl) (by kernel_rfl) (fun _ _ _ h => h) (Or.inr ⟨by kernel_rfl, rfl⟩) (by assumption) ?_
          simp only [Act.put, List.setIfInBounds_toArray, List.set_cons_zero, List.set_cons_succ, List.getElem_toArray, List.getElem_cons_zero, List.getElem_cons_succ]
          refine wpAnyH_take (i := 21) (v := undef) rfl (by kernel_rfl) (by kernel_rfl) (by kernel_rfl) (fun _ _ _ h => h) (Or.inr ⟨by kernel_rfl, rfl⟩) (by assumption) ?_
          simp only [Act.put, List.setIfInBounds_toArray, List.set_cons_zero, List.set_cons_succ, List.getElem_toArray, List.getElem_cons_zero, List.getElem_cons_succ]
          refine wpAnyH_take (i := 22) (v := undef) rfl (by kernel_rfl) (by kernel_rfl) (by kernel_rfl) (fun _ _ _ h => h) (Or.inr ⟨by kernel_rfl, rfl⟩) (by assumption) ?_
          simp only [Act.put, List.setIfInBounds_toArray, List.set_cons_zero, List.set_cons_succ, List.getElem_toArray, List.getElem_cons_zero, List.getElem_cons_succ]
          refine wpAnyH_take (i := 23) (v := undef) rfl (by kernel_rfl) (by kernel_rfl) (by kernel_rfl) (fun _ _ _ h => h) (Or.inr ⟨by kernel_rfl, rfl⟩) (by assumption) ?_
          simp only [Act.put, List.setIfInBounds_toArray, List.set_cons_zero, List.set_cons_succ, List.getElem_toArray, List.getElem_cons_zero, List.getElem_cons_succ]
          refine wpAnyH_take (i := 24) (v := ?hv2x24) rfl (by kernel_rfl) (by kernel_rfl) (by kernel_rfl) (fun _ _ _ h => h) (Or.inl ⟨by kernel_rfl, ?hy2x24⟩) (by assumption) ?hr2x24
          case hy2x24 => (intro w hSw; (try dsimp only at hSw); go_simp <;> with_reducible rfl)
          simp only [Act.put, List.setIfInBounds_toArray, List.set_cons_zero, List.set_cons_succ, List.getElem_toArray, List.getElem_cons_zero, List.getElem_cons_succ]
          refine wpAnyH_take (i := 25) (v := ?hv2x25) rfl (by kernel_rfl) (by kernel_rfl) (by kernel_rfl) (fun _ _ _ h => h) (Or.inl ⟨by kernel_rfl, ?hy2x25⟩) (by assumption) ?hr2x25
          case hy2x25 => (intro w hSw; (try dsimp only at hSw); go_simp <;> with_reducible rfl)
          simp only [Act.put, List.setIfInBounds_toArray, List.set_cons_zero, List.set_cons_succ, List.getElem_toArray, List.getElem_cons_zero, List.getElem_cons_succ]
          refine wpAnyH_take (i := 26) (v := ?hv2x26) rfl (by kernel_rfl) (by kernel_rfl) (by kernel_rfl) (fun _ _ _ h => h) (Or.inl ⟨by kernel_rfl, ?hy2x26⟩) (by assumption) ?hr2x26
          case hy2x26 => (intro w hSw; (try dsimp only at hSw); go_simp <;> with_reducible rfl)
          simp only [Act.put, List.setIfInBounds_toArray, List.set_cons_zero, List.set_cons_succ, List.getElem_toArray, List.getElem_cons_zero, List.getElem_cons_succ]
          refine wpAnyH_take (i := 27) (v := ?hv2x27) rfl (by kernel_rfl) (by kernel_rfl) (by kernel_rfl) (fun _ _ _ h => h) (Or.inl ⟨by kernel_rfl, ?hy2x27⟩) (by assumption) ?hr2x27
          case hy2x27 => (intro w hSw; (try dsimp only at hSw); go_simp <;> with_reducible rfl)
          simp only [Act.put, List.setIfInBounds_toArray, List.set_cons_zero, List.set_cons_succ, List.getElem_toArray, List.getElem_cons_zero, List.getElem_cons_succ]
          refine wpAnyH_done (by kernel_rfl) ?_ _
          clear hH2x2
          clear c0z0 c1z0 c2z0 c3z0 c4z0 c5z0 c0z1 c1z1 c2z1 c3z1 c4z1 c5z1
          go_wp2
          go_ret
          exact ⟨rfl, nextw HB.out (by exact sm)⟩
        · skip
          go_upto_region 14 with (fail)
          obtain ⟨c0z0, c1z0, c2z0, c3z0, c4z0, c5z0⟩ := cells6 B_z0
          obtain ⟨c0z2, c1z2, c2z2⟩ := cells3 B_z2
          go_wp2_with fail
          refine (F0.out _).mono ?_
          clear c0z0 c1z0 c2z0 c3z0 c4z0 c5z0 c0z2 c1z2 c2z2
          rintro e w7 ⟨rfl, bb⟩
          replace bb := nextw (w0 := wr) (by exact sm) bb
          replace B_z0 := mv B_z0 bb
          replace B_z1 := mv B_z1 bb
          replace B_z2 := mv B_z2 bb
          replace HB := nx HB bb
          clear bb
          obtain ⟨c0z1, c1z1, c2z1, c3z1, c4z1, c5z1⟩ := cells6 B_z1
          obtain ⟨c0z2, c1z2, c2z2⟩ := cells3 B_z2
          go_wp2_with fail
          refine (F1.out _).mono ?_
          clear c0z1 c1z1 c2z1 c3z1 c4z1 c5z1 c0z2 c1z2 c2z2
          rintro e w8 ⟨rfl, bb⟩
          replace bb := nextw (w0 := w7) (by exact sm) bb
          replace B_z0 := mv B_z0 bb
          replace B_z1 := mv B_z1 bb
          replace B_z2 := mv B_z2 bb
          replace HB := nx HB bb
          clear bb
          go_upto_region 15 with (fail)
          obtain ⟨c0z0, c1z0, c2z0, c3z0, c4z0, c5z0⟩ := cells6 B_z0
          obtain ⟨c0z1, c1z1, c2z1, c3z1, c4z1, c5z1⟩ := cells6 B_z1
          have tk3x0 : True := trivial
          go_region_held3 (fun w' => w'.cell? ⟨w.heap.size, 0, none⟩ = some (.int .i64 x0) ∧ w'.cell? ⟨w.heap.size, 1, none⟩ = some (.int .i64 y0) ∧ w'.cell? ⟨w.heap.size, 2, none⟩ = some (.int .i64 x1) ∧ w'.cell? ⟨w.heap.size, 3, none⟩ = some (.int .i64 y1) ∧ w'.cell? ⟨w.heap.size, 4, none⟩ = some (.int .i64 f) ∧ w'.cell? ⟨w.heap.size, 5, none⟩ = some (.int .i64 c) ∧ w'.cell? ⟨w.heap.size + 1, 0, none⟩ = some (.int .i64 u0) ∧ w'.cell? ⟨w.heap.size + 1, 1, none⟩ = some (.int .i64 v0) ∧ w'.cell? ⟨w.heap.size + 1, 2, none⟩ = some (.int .i64 u1) ∧ w'.cell? ⟨w.heap.size + 1, 3, none⟩ = some (.int .i64 v1) ∧ w'.cell? ⟨w.heap.size + 1, 4, none⟩ = some (.int .i64 g) ∧ w'.cell? ⟨w.heap.size + 1, 5, none⟩ = some (.int .i64 d)) (((try dsimp only); (repeat' apply And.intro) <;> (first | (with_reducible assumption) | ((repeat (first | (with_reducible refine Eq.trans (cell_drew1 _ _) ?_) | (with_reducible refine Eq.trans (cell_far (by omega) _ _ _) ?_) | (with_reducible refine Eq.trans (World.cell?_alloc_lt _ _ _ (by first | (dsimp only; omega) | (simp only [World.size_alloc, World.size_setCell]; omega))) ?_))); with_reducible assumption) | assumption | go_keep)))
    (first
      | (clear tk3x0; go_at_call 24; refine (F2.out _).mono ?_; rintro e w9 ⟨rfl, bb⟩; replace bb := nextw (w0 := w8) (by exact sm) bb; replace B_z0 := mv B_z0 bb; replace B_z1 := mv B_z1 bb; replace B_z2 := mv B_z2 bb; replace HB := nx HB bb; clear bb c0z0 c1z0 c2z0 c3z0 c4z0 c5z0 c0z1 c1z1 c2z1 c3z1 c4z1 c5z1; have c0z0 : w9.cell? ⟨w.heap.size, 0, none⟩ = some (.int .i64 x0) := B_z0.out.cell 0 rfl; have c1z0 : w9.cell? ⟨w.heap.size, 1, none⟩ = some (.int .i64 y0) := B_z0.out.cell 1 rfl; have c2z0 : w9.cell? ⟨w.heap.size, 2, none⟩ = some (.int .i64 x1) := B_z0.out.cell 2 rfl; have c3z0 : w9.cell? ⟨w.heap.size, 3, none⟩ = some (.int .i64 y1) := B_z0.out.cell 3 rfl; have c4z0 : w9.cell? ⟨w.heap.size, 4, none⟩ = some (.int .i64 f) := B_z0.out.cell 4 rfl; have c5z0 : w9.cell? ⟨w.heap.size, 5, none⟩ = some (.int .i64 c) := B_z0.out.cell 5 rfl; have c0z1 : w9.cell? ⟨w.heap.size + 1, 0, none⟩ = some (.int .i64 u0) := B_z1.out.cell 0 rfl; have c1z1 : w9.cell? ⟨w.heap.size + 1, 1, none⟩ = some (.int .i64 v0) := B_z1.out.cell 1 rfl; have c2z1 : w9.cell? ⟨w.heap.size + 1, 2, none⟩ = some (.int .i64 u1) := B_z1.out.cell 2 rfl; have c3z1 : w9.cell? ⟨w.heap.size + 1, 3, none⟩ = some (.int .i64 v1) := B_z1.out.cell 3 rfl; have c4z1 : w9.cell? ⟨w.heap.size + 1, 4, none⟩ = some (.int .i64 g) := B_z1.out.cell 4 rfl; have c5z1 : w9.cell? ⟨w.heap.size + 1, 5, none⟩ = some (.int .i64 d) := B_z1.out.cell 5 rfl; have tk3x1 : True := trivial)
      | (clear tk3x1; go_at_call 15; refine (F3.out _).mono ?_; rintro e w10 ⟨rfl, bb⟩; replace bb := nextw (w0 := w9) (by exact sm) bb; replace B_z0 := mv B_z0 bb; replace B_z1 := mv B_z1 bb; replace B_z2 := mv B_z2 bb; replace HB := nx HB bb; clear bb c0z0 c1z0 c2z0 c3z0 c4z0 c5z0 c0z1 c1z1 c2z1 c3z1 c4z1 c5z1; have c0z0 : w10.cell? ⟨w.heap.size, 0, none⟩ = some (.int .i64 x0) := B_z0.out.cell 0 rfl; have c1z0 : w10.cell? ⟨w.heap.size, 1, none⟩ = some (.int .i64 y0) := B_z0.out.cell 1 rfl; have c2z0 : w10.cell? ⟨w.heap.size, 2, none⟩ = some (.int .i64 x1) := B_z0.out.cell 2 rfl; have c3z0 : w10.cell? ⟨w.heap.size, 3, none⟩ = some (.int .i64 y1) := B_z0.out.cell 3 rfl; have c4z0 : w10.cell? ⟨w.heap.size, 4, none⟩ = some (.int .i64 f) := B_z0.out.cell 4 rfl; have c5z0 : w10.cell? ⟨w.heap.size, 5, none⟩ = some (.int .i64 c) := B_z0.out.cell 5 rfl; have c0z1 : w10.cell? ⟨w.heap.size + 1, 0, none⟩ = some (.int .i64 u0) := B_z1.out.cell 0 rfl; have c1z1 : w10.cell? ⟨w.heap.size + 1, 1, none⟩ = some (.int .i64 v0) := B_z1.out.cell 1 rfl; have c2z1 : w10.cell? ⟨w.heap.size + 1, 2, none⟩ = some (.int .i64 u1) := B_z1.out.cell 2 rfl; have c3z1 : w10.cell? ⟨w.heap.size + 1, 3, none⟩ = some (.int .i64 v1) := B_z1.out.cell 3 rfl; have c4z1 : w10.cell? ⟨w.heap.size + 1, 4, none⟩ = some (.int .i64 g) := B_z1.out.cell 4 rfl; have c5z1 : w10.cell? ⟨w.heap.size + 1, 5, none⟩ = some (.int .i64 d) := B_z1.out.cell 5 rfl; have tk3x2 : True := trivial)
      | (clear tk3x2; go_at_call 19; refine (F4.out _).mono ?_; rintro e w11 ⟨rfl, bb⟩; replace bb := nextw (w0 := w10) (by exact sm) bb; replace B_z0 := mv B_z0 bb; replace B_z1 := mv B_z1 bb; replace B_z2 := mv B_z2 bb; replace HB := nx HB bb; clear bb c0z0 c1z0 c2z0 c3z0 c4z0 c5z0 c0z1 c1z1 c2z1 c3z1 c4z1 c5z1; have c0z0 : w11.cell? ⟨w.heap.size, 0, none⟩ = some (.int .i64 x0) := B_z0.out.cell 0 rfl; have c1z0 : w11.cell? ⟨w.heap.size, 1, none⟩ = some (.int .i64 y0) := B_z0.out.cell 1 rfl; have c2z0 : w11.cell? ⟨w.heap.size, 2, none⟩ = some (.int .i64 x1) := B_z0.out.cell 2 rfl; have c3z0 : w11.cell? ⟨w.heap.size, 3, none⟩ = some (.int .i64 y1) := B_z0.out.cell 3 rfl; have c4z0 : w11.cell? ⟨w.heap.size, 4, none⟩ = some (.int .i64 f) := B_z0.out.cell 4 rfl; have c5z0 : w11.cell? ⟨w.heap.size, 5, none⟩ = some (.int .i64 c) := B_z0.out.cell 5 rfl; have c0z1 : w11.cell? ⟨w.heap.size + 1, 0, none⟩ = some (.int .i64 u0) := B_z1.out.cell 0 rfl; have c1z1 : w11.cell? ⟨w.heap.size + 1, 1, none⟩ = some (.int .i64 v0) := B_z1.out.cell 1 rfl; have c2z1 : w11.cell? ⟨w.heap.size + 1, 2, none⟩ = some (.int .i64 u1) := B_z1.out.cell 2 rfl; have c3z1 : w11.cell? ⟨w.heap.size + 1, 3, none⟩ = some (.int .i64 v1) := B_z1.out.cell 3 rfl; have c4z1 : w11.cell? ⟨w.heap.size + 1, 4, none⟩ = some (.int .i64 g) := B_z1.out.cell 4 rfl; have c5z1 : w11.cell? ⟨w.heap.size + 1, 5, none⟩ = some (.int .i64 d) := B_z1.out.cell 5 rfl; have tk3x3 : True := trivial))
          clear c0z0 c1z0 c2z0 c3z0 c4z0 c5z0 c0z1 c1z1 c2z1 c3z1 c4z1 c5z1
          go_wp2
          go_ret
          exact ⟨rfl, nextw HB.out (by exact sm)⟩
        · skip
          go_upto_region 14 with (fail)
          obtain ⟨c0z0, c1z0, c2z0, c3z0, c4z0, c5z0⟩ := cells6 B_z0
          obtain ⟨c0z2, c1z2, c2z2⟩ := cells3 B_z2
          go_wp2_with fail
          refine (F0.out _).mono ?_
          clear c0z0 c1z0 c2z0 c3z0 c4z0 c5z0 c0z2 c1z2 c2z2
          rintro e w7 ⟨rfl, bb⟩
          replace bb := nextw (w0 := wr) (by exact sm) bb
          replace B_z0 := mv B_z0 bb
          replace B_z1 := mv B_z1 bb
          replace B_z2 := mv B_z2 bb
          replace HB := nx HB bb
          clear bb
          obtain ⟨c0z1, c1z1, c2z1, c3z1, c4z1, c5z1⟩ := cells6 B_z1
          obtain ⟨c0z2, c1z2, c2z2⟩ := cells3 B_z2
          go_wp2_with fail
          refine (F1.out _).mono ?_
          clear c0z1 c1z1 c2z1 c3z1 c4z1 c5z1 c0z2 c1z2 c2z2
          rintro e w8 ⟨rfl, bb⟩
          replace bb := nextw (w0 := w7) (by exact sm) bb
          replace B_z0 := mv B_z0 bb
          replace B_z1 := mv B_z1 bb
          replace B_z2 := mv B_z2 bb
          replace HB := nx HB bb
          clear bb
          go_upto_region 15 with (fail)
          obtain ⟨c0z0, c1z0, c2z0, c3z0, c4z0, c5z0⟩ := cells6 B_z0
          obtain ⟨c0z1, c1z1, c2z1, c3z1, c4z1, c5z1⟩ := cells6 B_z1
          have tk3x0 : True := trivial
          go_region_held3 (fun w' => w'.cell? ⟨w.heap.size, 0, none⟩ = some (.int .i64 x0) ∧ w'.cell? ⟨w.heap.size, 1, none⟩ = some (.int .i64 y0) ∧ w'.cell? ⟨w.heap.size, 2, none⟩ = some (.int .i64 x1) ∧ w'.cell? ⟨w.heap.size, 3, none⟩ = some (.int .i64 y1) ∧ w'.cell? ⟨w.heap.size, 4, none⟩ = some (.int .i64 f) ∧ w'.cell? ⟨w.heap.size, 5, none⟩ = some (.int .i64 c) ∧ w'.cell? ⟨w.heap.size + 1, 0, none⟩ = some (.int .i64 u0) ∧ w'.cell? ⟨w.heap.size + 1, 1, none⟩ = some (.int .i64 v0) ∧ w'.cell? ⟨w.heap.size + 1, 2, none⟩ = some (.int .i64 u1) ∧ w'.cell? ⟨w.heap.size + 1, 3, none⟩ = some (.int .i64 v1) ∧ w'.cell? ⟨w.heap.size + 1, 4, none⟩ = some (.int .i64 g) ∧ w'.cell? ⟨w.heap.size + 1, 5, none⟩ = some (.int .i64 d)) (((try dsimp only); (repeat' apply And.intro) <;> (first | (with_reducible assumption) | ((repeat (first | (with_reducible refine Eq.trans (cell_drew1 _ _) ?_) | (with_reducible refine Eq.trans (cell_far (by omega) _ _ _) ?_) | (with_reducible refine Eq.trans (World.cell?_alloc_lt _ _ _ (by first | (dsimp only; omega) | (simp only [World.size_alloc, World.size_setCell]; omega))) ?_))); with_reducible assumption) | assumption | go_keep)))
    (first
      | (clear tk3x0; go_at_call 24; refine (F2.out _).mono ?_; rintro e w9 ⟨rfl, bb⟩; replace bb := nextw (w0 := w8) (by exact sm) bb; replace B_z0 := mv B_z0 bb; replace B_z1 := mv B_z1 bb; replace B_z2 := mv B_z2 bb; replace HB := nx HB bb; clear bb c0z0 c1z0 c2z0 c3z0 c4z0 c5z0 c0z1 c1z1 c2z1 c3z1 c4z1 c5z1; have c0z0 : w9.cell? ⟨w.heap.size, 0, none⟩ = some (.int .i64 x0) := B_z0.out.cell 0 rfl; have c1z0 : w9.cell? ⟨w.heap.size, 1, none⟩ = some (.int .i64 y0) := B_z0.out.cell 1 rfl; have c2z0 : w9.cell? ⟨w.heap.size, 2, none⟩ = some (.int .i64 x1) := B_z0.out.cell 2 rfl; have c3z0 : w9.cell? ⟨w.heap.size, 3, none⟩ = some (.int .i64 y1) := B_z0.out.cell 3 rfl; have c4z0 : w9.cell? ⟨w.heap.size, 4, none⟩ = some (.int .i64 f) := B_z0.out.cell 4 rfl; have c5z0 : w9.cell? ⟨w.heap.size, 5, none⟩ = some (.int .i64 c) := B_z0.out.cell 5 rfl; have c0z1 : w9.cell? ⟨w.heap.size + 1, 0, none⟩ = some (.int .i64 u0) := B_z1.out.cell 0 rfl; have c1z1 : w9.cell? ⟨w.heap.size + 1, 1, none⟩ = some (.int .i64 v0) := B_z1.out.cell 1 rfl; have c2z1 : w9.cell? ⟨w.heap.size + 1, 2, none⟩ = some (.int .i64 u1) := B_z1.out.cell 2 rfl; have c3z1 : w9.cell? ⟨w.heap.size + 1, 3, none⟩ = some (.int .i64 v1) := B_z1.out.cell 3 rfl; have c4z1 : w9.cell? ⟨w.heap.size + 1, 4, none⟩ = some (.int .i64 g) := B_z1.out.cell 4 rfl; have c5z1 : w9.cell? ⟨w.heap.size + 1, 5, none⟩ = some (.int .i64 d) := B_z1.out.cell 5 rfl; have tk3x1 : True := trivial)
      | (clear tk3x1; go_at_call 15; refine (F3.out _).mono ?_; rintro e w10 ⟨rfl, bb⟩; replace bb := nextw (w0 := w9) (by exact sm) bb; replace B_z0 := mv B_z0 bb; replace B_z1 := mv B_z1 bb; replace B_z2 := mv B_z2 bb; replace HB := nx HB bb; clear bb c0z0 c1z0 c2z0 c3z0 c4z0 c5z0 c0z1 c1z1 c2z1 c3z1 c4z1 c5z1; have c0z0 : w10.cell? ⟨w.heap.size, 0, none⟩ = some (.int .i64 x0) := B_z0.out.cell 0 rfl; have c1z0 : w10.cell? ⟨w.heap.size, 1, none⟩ = some (.int .i64 y0) := B_z0.out.cell 1 rfl; have c2z0 : w10.cell? ⟨w.heap.size, 2, none⟩ = some (.int .i64 x1) := B_z0.out.cell 2 rfl; have c3z0 : w10.cell? ⟨w.heap.size, 3, none⟩ = some (.int .i64 y1) := B_z0.out.cell 3 rfl; have c4z0 : w10.cell? ⟨w.heap.size, 4, none⟩ = some (.int .i64 f) := B_z0.out.cell 4 rfl; have c5z0 : w10.cell? ⟨w.heap.size, 5, none⟩ = some (.int .i64 c) := B_z0.out.cell 5 rfl; have c0z1 : w10.cell? ⟨w.heap.size + 1, 0, none⟩ = some (.int .i64 u0) := B_z1.out.cell 0 rfl; have c1z1 : w10.cell? ⟨w.heap.size + 1, 1, none⟩ = some (.int .i64 v0) := B_z1.out.cell 1 rfl; have c2z1 : w10.cell? ⟨w.heap.size + 1, 2, none⟩ = some (.int .i64 u1) := B_z1.out.cell 2 rfl; have c3z1 : w10.cell? ⟨w.heap.size + 1, 3, none⟩ = some (.int .i64 v1) := B_z1.out.cell 3 rfl; have c4z1 : w10.cell? ⟨w.heap.size + 1, 4, none⟩ = some (.int .i64 g) := B_z1.out.cell 4 rfl; have c5z1 : w10.cell? ⟨w.heap.size + 1, 5, none⟩ = some (.int .i64 d) := B_z1.out.cell 5 rfl; have tk3x2 : True := trivial)
      | (clear tk3x2; go_at_call 19; refine (F4.out _).mono ?_; rintro e w11 ⟨rfl, bb⟩; replace bb := nextw (w0 := w10) (by exact sm) bb; replace B_z0 := mv B_z0 bb; replace B_z1 := mv B_z1 bb; replace B_z2 := mv B_z2 bb; replace HB := nx HB bb; clear bb c0z0 c1z0 c2z0 c3z0 c4z0 c5z0 c0z1 c1z1 c2z1 c3z1 c4z1 c5z1; have c0z0 : w11.cell? ⟨w.heap.size, 0, none⟩ = some (.int .i64 x0) := B_z0.out.cell 0 rfl; have c1z0 : w11.cell? ⟨w.heap.size, 1, none⟩ = some (.int .i64 y0) := B_z0.out.cell 1 rfl; have c2z0 : w11.cell? ⟨w.heap.size, 2, none⟩ = some (.int .i64 x1) := B_z0.out.cell 2 rfl; have c3z0 : w11.cell? ⟨w.heap.size, 3, none⟩ = some (.int .i64 y1) := B_z0.out.cell 3 rfl; have c4z0 : w11.cell? ⟨w.heap.size, 4, none⟩ = some (.int .i64 f) := B_z0.out.cell 4 rfl; have c5z0 : w11.cell? ⟨w.heap.size, 5, none⟩ = some (.int .i64 c) := B_z0.out.cell 5 rfl; have c0z1 : w11.cell? ⟨w.heap.size + 1, 0, none⟩ = some (.int .i64 u0) := B_z1.out.cell 0 rfl; have c1z1 : w11.cell? ⟨w.heap.size + 1, 1, none⟩ = some (.int .i64 v0) := B_z1.out.cell 1 rfl; have c2z1 : w11.cell? ⟨w.heap.size + 1, 2, none⟩ = some (.int .i64 u1) := B_z1.out.cell 2 rfl; have c3z1 : w11.cell? ⟨w.heap.size + 1, 3, none⟩ = some (.int .i64 v1) := B_z1.out.cell 3 rfl; have c4z1 : w11.cell? ⟨w.heap.size + 1, 4, none⟩ = some (.int .i64 g) := B_z1.out.cell 4 rfl; have c5z1 : w11.cell? ⟨w.heap.size + 1, 5, none⟩ = some (.int .i64 d) := B_z1.out.cell 5 rfl; have tk3x3 : True := trivial))
          clear c0z0 c1z0 c2z0 c3z0 c4z0 c5z0 c0z1 c1z1 c2z1 c3z1 c4z1 c5z1
          go_wp2
          go_ret
          exact ⟨rfl, nextw HB.out (by exact sm)⟩
      · rcases hy with ⟨rfl, rfl⟩ | ⟨rfl, he, rfl⟩ | ⟨rfl, he, rfl⟩
        · skip
          go_upto_region 14 with (fail)
          obtain ⟨c0z0, c1z0, c2z0, c3z0, c4z0, c5z0⟩ := cells6 B_z0
          obtain ⟨c0z2, c1z2, c2z2⟩ := cells3 B_z2
          go_wp2_with fail
          refine (F0.out _).mono ?_
          clear c0z0 c1z0 c2z0 c3z0 c4z0 c5z0 c0z2 c1z2 c2z2
          rintro e w7 ⟨rfl, bb⟩
          replace bb := nextw (w0 := wr) (by exact sm) bb
          replace B_z0 := mv B_z0 bb
          replace B_z1 := mv B_z1 bb
          replace B_z2 := mv B_z2 bb
          replace HB := nx HB bb
          clear bb
          obtain ⟨c0z1, c1z1, c2z1, c3z1, c4z1, c5z1⟩ := cells6 B_z1
          obtain ⟨c0z2, c1z2, c2z2⟩ := cells3 B_z2
          go_wp2_with fail
          refine (F1.out _).mono ?_
          clear c0z1 c1z1 c2z1 c3z1 c4z1 c5z1 c0z2 c1z2 c2z2
          rintro e w8 ⟨rfl, bb⟩
          replace bb := nextw (w0 := w7) (by exact sm) bb
          replace B_z0 := mv B_z0 bb
          replace B_z1 := mv B_z1 bb
          replace B_z2 := mv B_z2 bb
          replace HB := nx HB bb
          clear bb
          go_upto_region 15 with (fail)
          obtain ⟨c0z0, c1z0, c2z0, c3z0, c4z0, c5z0⟩ := cells6 B_z0
          obtain ⟨c0z1, c1z1, c2z1, c3z1, c4z1, c5z1⟩ := cells6 B_z1
          refine wp_region_held_drew (S := fun w' => w'.cell? ⟨w.heap.size, 0, none⟩ = some (.int .i64 x0) ∧ w'.cell? ⟨w.heap.size, 1, none⟩ = some (.int .i64 y0) ∧ w'.cell? ⟨w.heap.size, 2, none⟩ = some (.int .i64 x1) ∧ w'.cell? ⟨w.heap.size, 3, none⟩ = some (.int .i64 y1) ∧ w'.cell? ⟨w.heap.size, 4, none⟩ = some (.int .i64 f) ∧ w'.cell? ⟨w.heap.size, 5, none⟩ = some (.int .i64 c) ∧ w'.cell? ⟨w.heap.size + 1, 0, none⟩ = some (.int .i64 u0) ∧ w'.cell? ⟨w.heap.size + 1, 1, none⟩ = some (.int .i64 v0) ∧ w'.cell? ⟨w.heap.size + 1, 2, none⟩ = some (.int .i64 u1) ∧ w'.cell? ⟨w.heap.size + 1, 3, none⟩ = some (.int .i64 v1) ∧ w'.cell? ⟨w.heap.size + 1, 4, none⟩ = some (.int .i64 g) ∧ w'.cell? ⟨w.heap.size + 1, 5, none⟩ = some (.int .i64 d)) (by kernel_rfl) ?_ (fun hH3x0 => ?_)
          · ((try dsimp only); (repeat' apply And.intro) <;> (first | (with_reducible assumption) | ((repeat (first | (with_reducible refine Eq.trans (cell_drew1 _ _) ?_) | (with_reducible refine Eq.trans (cell_far (by omega) _ _ _) ?_) | (with_reducible refine Eq.trans (World.cell?_alloc_lt _ _ _ (by first | (dsimp only; omega) | (simp only [World.size_alloc, World.size_setCell]; omega))) ?_))); with_reducible assumption) | assumption | go_keep))
          refine wpAnyH_take (i := 0) (v := ?hv3x0) rfl (by kernel_rfl) (by kernel_rfl) (by kernel_rfl) (fun _ _ _ h => h) (Or.inl ⟨by kernel_rfl, ?hy3x0⟩) (by assumption) ?hr3x0
          case hy3x0 => (intro w hSw; (try dsimp only at hSw); go_simp <;> with_reducible rfl)
          simp only [Act.put, List.setIfInBounds_toArray, List.set_cons_zero, List.set_cons_succ, List.getElem_toArray, List.getElem_cons_zero, List.getElem_cons_succ]
          refine wpAnyH_take (i := 1) (v := ?hv3x1) rfl (by kernel_rfl) (by kernel_rfl) (by kernel_rfl) (fun _ _ _ h => h) (Or.inl ⟨by kernel_rfl, ?hy3x1⟩) (by assumption) ?hr3x1
          case hy3x1 => (intro w hSw; (try dsimp only at hSw); go_simp <;> with_reducible rfl)
          simp only [Act.put, List.setIfInBounds_toArray, List.set_cons_zero, List.set_cons_succ, List.getElem_toArray, List.getElem_cons_zero, List.getElem_cons_succ]
          refine wpAnyH_take (i := 2) (v := ?hv3x2) rfl (by kernel_rfl) (by kernel_rfl) (by kernel_rfl) (fun _ _ _ h => h) (Or.inl ⟨by kernel_rfl, ?hy3x2⟩) (by assumption) ?hr3x2
          case hy3x2 => (intro w hSw; (try dsimp only at hSw); go_simp <;> with_reducible rfl)
          simp only [Act.put, List.setIfInBounds_toArray, List.set_cons_zero, List.set_cons_succ, List.getElem_toArray, List.getElem_cons_zero, List.getElem_cons_succ]
          refine wpAnyH_take (i := 3) (v := ?hv3x3) rfl (by kernel_rfl) (by kernel_rfl) (by kernel_rfl) (fun _ _ _ h => h) (Or.inl ⟨by kernel_rfl, ?hy3x3⟩) (by assumption) ?hr3x3
          case hy3x3 => (intro w hSw; (try dsimp only at hSw); go_simp <;> with_reducible rfl)
          simp only [Act.put, List.setIfInBounds_toArray, List.set_cons_zero, List.set_cons_succ, List.getElem_toArray, List.getElem_cons_zero, List.getElem_cons_succ]
          refine wpAnyH_take (i := 4) (v := ?hv3x4) rfl (by kernel_rfl) (by kernel_rfl) (by kernel_rfl) (fun _ _ _ h => h) (Or.inl ⟨by kernel_rfl, ?hy3x4⟩) (by assumption) ?hr3x4
          case hy3x4 => (intro w hSw; (try dsimp only at hSw); go_simp <;> with_reducible rfl)
          simp only [Act.put, List.setIfInBounds_toArray, List.set_cons_zero, List.set_cons_succ, List.getElem_toArray, List.getElem_cons_zero, List.getElem_cons_succ]
          refine wpAnyH_take (i := 5) (v := ?hv3x5) rfl (by kernel_rfl) (by kernel_rfl) (by kernel_rfl) (fun _ _ _ h => h) (Or.inl ⟨by kernel_rfl, ?hy3x5⟩) (by assumption) ?hr3x5
          case hy3x5 => (intro w hSw; (try dsimp only at hSw); go_simp <;> with_reducible rfl)
          simp only [Act.put, List.setIfInBounds_toArray, List.set_cons_zero, List.set_cons_succ, List.getElem_toArray, List.getElem_cons_zero, List.getElem_cons_succ]
          refine wpAnyH_take (i := 6) (v := ?hv3x6) rfl (by kernel_rfl) (by kernel_rfl) (by kernel_rfl) (fun _ _ _ h => h) (Or.inl ⟨by kernel_rfl, ?hy3x6⟩) (by assumption) ?hr3x6
          case hy3x6 => (intro w hSw; (try dsimp only at hSw); go_simp <;> with_reducible rfl)
          simp only [Act.put, List.setIfInBounds_toArray, List.set_cons_zero, List.set_cons_succ, List.getElem_toArray, List.getElem_cons_zero, List.getElem_cons_succ]
          refine wpAnyH_take (i := 7) (v := ?hv3x7) rfl (by kernel_rfl) (by kernel_rfl) (by kernel_rfl) (fun _ _ _ h => h) (Or.inl ⟨by kernel_rfl, ?hy3x7⟩) (by assumption) ?hr3x7
          case hy3x7 => (intro w hSw; (try dsimp only at hSw); go_simp <;> with_reducible rfl)
          simp only [Act.put, List.setIfInBounds_toArray, List.set_cons_zero, List.set_cons_succ, List.getElem_toArray, List.getElem_cons_zero, List.getElem_cons_succ]
          refine wpAnyH_take (i := 8) (v := ?hv3x8) rfl (by kernel_rfl) (by kernel_rfl) (by kernel_rfl) (fun _ _ _ h => h) (Or.inl ⟨by kernel_rfl, ?hy3x8⟩) (by assumption) ?hr3x8
          case hy3x8 => (intro w hSw; (try dsimp only at hSw); go_simp <;> with_reducible rfl)
          simp only [Act.put, List.setIfInBounds_toArray, List.set_cons_zero, List.set_cons_succ, List.getElem_toArray, List.getElem_cons_zero, List.getElem_cons_succ]
          refine wpAnyH_take (i := 9) (v := ?hv3x9) rfl (by kernel_rfl) (by kernel_rfl) (by kernel_rfl) (fun _ _ _ h => h) (Or.inl ⟨by kernel_rfl, ?hy3x9⟩) (by assumption) ?hr3x9
          case hy3x9 => (intro w hSw; (try dsimp only at hSw); go_simp <;> with_reducible rfl)
          simp only [Act.put, List.setIfInBounds_toArray, List.set_cons_zero, List.set_cons_succ, List.getElem_toArray, List.getElem_cons_zero, List.getElem_cons_succ]
          refine wpAnyH_take (i := 10) (v := ?hv3x10) rfl (by kernel_rfl) (by kernel_rfl) (by kernel_rfl) (fun _ _ _ h => h) (Or.inl ⟨by kernel_rfl, ?hy3x10⟩) (by assumption) ?hr3x10
          case hy3x10 => (intro w hSw; (try dsimp only at hSw); go_simp <;> with_reducible rfl)
          simp only [Act.put, List.setIfInBounds_toArray, List.set_cons_zero, List.set_cons_succ, List.getElem_toArray, List.getElem_cons_zero, List.getElem_cons_succ]
          refine wpAnyH_take (i := 11) (v := ?hv3x11) rfl (by kernel_rfl) (by kernel_rfl) (by kernel_rfl) (fun _ _ _ h => h) (Or.inl ⟨by kernel_rfl, ?hy3x11⟩) (by assumption) ?hr3x11
          case hy3x11 => (intro w hSw; (try dsimp only at hSw); go_simp <;> with_reducible rfl)
          simp only [Act.put, List.setIfInBounds_toArray, List.set_cons_zero, List.set_cons_succ, List.getElem_toArray, List.getElem_cons_zero, List.getElem_cons_succ]
          refine wpAnyH_take (i := 12) (v := ?hv3x12) rfl (by kernel_rfl) (by kernel_rfl) (by kernel_rfl) (fun _ _ _ h => h) (Or.inl ⟨by kernel_rfl, ?hy3x12⟩) (by assumption) ?hr3x12
          case hy3x12 => (intro w hSw; (try dsimp only at hSw); go_simp <;> with_reducible rfl)
          simp only [Act.put, List.setIfInBounds_toArray, List.set_cons_zero, List.set_cons_succ, List.getElem_toArray, List.getElem_cons_zero, List.getElem_cons_succ]
          refine wpAnyH_take (i := 13) (v := ?hv3x13) rfl (by kernel_rfl) (by kernel_rfl) (by kernel_rfl) (fun _ _ _ h => h) (Or.inl ⟨by kernel_rfl, ?hy3x13⟩) (by assumption) ?hr3x13
          case hy3x13 => (intro w hSw; (try dsimp only at hSw); go_simp <;> with_reducible rfl)
          simp only [Act.put, List.setIfInBounds_toArray, List.set_cons_zero, List.set_cons_succ, List.getElem_toArray, List.getElem_cons_zero, List.getElem_cons_succ]
          refine wpAnyH_take (i := 14) (v := ?hv3x14) rfl (by kernel_rfl) (by kernel_rfl) (by kernel_rfl) (fun _ _ _ h => h) (Or.inl ⟨by kernel_rfl, ?hy3x14⟩) (by assumption) ?hr3x14
          case hy3x14 => (intro w hSw; (try dsimp only at hSw); go_simp <;> with_reducible rfl)
          simp only [Act.put, List.setIfInBounds_toArray, List.set_cons_zero, List.set_cons_succ, List.getElem_toArray, List.getElem_cons_zero, List.getElem_cons_succ]
          refine wpAnyH_take (i := 15) (v := ?hv3x15) rfl (by kernel_rfl) (by kernel_rfl) (by kernel_rfl) (fun _ _ _ h => h) (Or.inl ⟨by kernel_rfl, ?hy3x15⟩) (by assumption) ?hr3x15
          case hy3x15 => (intro w hSw; (try dsimp only at hSw); go_simp <;> with_reducible rfl)
          simp only [Act.put, List.setIfInBounds_toArray, List.set_cons_zero, List.set_cons_succ, List.getElem_toArray, List.getElem_cons_zero, List.getElem_cons_succ]
          refine wpAnyH_take (i := 17) (v := ?hv3x17) rfl (by kernel_rfl) (by kernel_rfl) (by kernel_rfl) (fun _ _ _ h => h) (Or.inl ⟨by kernel_rfl, ?hy3x17⟩) (by assumption) ?hr3x17
          case hy3x17 => (intro w hSw; (try dsimp only at hSw); go_simp <;> with_reducible rfl)
          simp only [Act.put, List.setIfInBounds_toArray, List.set_cons_zero, List.set_cons_succ, List.getElem_toArray, List.getElem_cons_zero, List.getElem_cons_succ]
          refine wpAnyH_ready (rs := [16]) (by kernel_rfl) (by simp) ?_
          refine AllReadyH.cons rfl (fun K hK => ?_) AllReadyH.nil
          go_simp
          go_at_call 24
          refine (F2.out _).mono ?_
          rintro e w9 ⟨rfl, bb⟩
          replace bb := nextw (w0 := w8) (by exact sm) bb
          replace B_z0 := mv B_z0 bb
          replace B_z1 := mv B_z1 bb
          replace B_z2 := mv B_z2 bb
          replace HB := nx HB bb
          clear bb c0z0 c1z0 c2z0 c3z0 c4z0 c5z0 c0z1 c1z1 c2z1 c3z1 c4z1 c5z1
          have c0z0 : w9.cell? ⟨w.heap.size, 0, none⟩ = some (.int .i64 x0) := B_z0.out.cell 0 rfl
          have c1z0 : w9.cell? ⟨w.heap.size, 1, none⟩ = some (.int .i64 y0) := B_z0.out.cell 1 rfl
          have c2z0 : w9.cell? ⟨w.heap.size, 2, none⟩ = some (.int .i64 x1) := B_z0.out.cell 2 rfl
          have c3z0 : w9.cell? ⟨w.heap.size, 3, none⟩ = some (.int .i64 y1) := B_z0.out.cell 3 rfl
          have c4z0 : w9.cell? ⟨w.heap.size, 4, none⟩ = some (.int .i64 f) := B_z0.out.cell 4 rfl
          have c5z0 : w9.cell? ⟨w.heap.size, 5, none⟩ = some (.int .i64 c) := B_z0.out.cell 5 rfl
          have c0z1 : w9.cell? ⟨w.heap.size + 1, 0, none⟩ = some (.int .i64 u0) := B_z1.out.cell 0 rfl
          have c1z1 : w9.cell? ⟨w.heap.size + 1, 1, none⟩ = some (.int .i64 v0) := B_z1.out.cell 1 rfl
          have c2z1 : w9.cell? ⟨w.heap.size + 1, 2, none⟩ = some (.int .i64 u1) := B_z1.out.cell 2 rfl
          have c3z1 : w9.cell? ⟨w.heap.size + 1, 3, none⟩ = some (.int .i64 v1) := B_z1.out.cell 3 rfl
          have c4z1 : w9.cell? ⟨w.heap.size + 1, 4, none⟩ = some (.int .i64 g) := B_z1.out.cell 4 rfl
          have c5z1 : w9.cell? ⟨w.heap.size + 1, 5, none⟩ = some (.int .i64 d) := B_z1.out.cell 5 rfl
          go_wp2_with fail
          refine hK.out _ _ ?_ (fun hH3x1 => ?_)
          · ((try dsimp only); (repeat' apply And.intro) <;> (first | (with_reducible assumption) | ((repeat (first | (with_reducible refine Eq.trans (cell_drew1 _ _) ?_) | (with_reducible refine Eq.trans (cell_far (by omega) _ _ _) ?_) | (with_reducible refine Eq.trans (World.cell?_alloc_lt _ _ _ (by first | (dsimp only; omega) | (simp only [World.size_alloc, World.size_setCell]; omega))) ?_))); with_reducible assumption) | assumption | go_keep))
          clear hK K hH3x0
          try simp only [Act.put, List.setIfInBounds_toArray, List.set_cons_zero, List.set_cons_succ, List.getElem_toArray, List.getElem_cons_zero, List.getElem_cons_succ]
          refine wpAnyH_ready (rs := [18]) (by kernel_rfl) (by simp) ?_
          refine AllReadyH.cons rfl (fun K hK => ?_) AllReadyH.nil
          go_simp
          go_at_call 15
          refine (F3.out _).mono ?_
          rintro e w10 ⟨rfl, bb⟩
          replace bb := nextw (w0 := w9) (by exact sm) bb
          replace B_z0 := mv B_z0 bb
          replace B_z1 := mv B_z1 bb
          replace B_z2 := mv B_z2 bb
          replace HB := nx HB bb
          clear bb c0z0 c1z0 c2z0 c3z0 c4z0 c5z0 c0z1 c1z1 c2z1 c3z1 c4z1 c5z1
          have c0z0 : w10.cell? ⟨w.heap.size, 0, none⟩ = some (.int .i64 x0) := B_z0.out.cell 0 rfl
          have c1z0 : w10.cell? ⟨w.heap.size, 1, none⟩ = some (.int .i64 y0) := B_z0.out.cell 1 rfl
          have c2z0 : w10.cell? ⟨w.heap.size, 2, none⟩ = some (.int .i64 x1) := B_z0.out.cell 2 rfl
          have c3z0 : w10.cell? ⟨w.heap.size, 3, none⟩ = some (.int .i64 y1) := B_z0.out.cell 3 rfl
          have c4z0 : w10.cell? ⟨w.heap.size, 4, none⟩ = some (.int .i64 f) := B_z0.out.cell 4 rfl
          have c5z0 : w10.cell? ⟨w.heap.size, 5, none⟩ = some (.int .i64 c) := B_z0.out.cell 5 rfl
          have c0z1 : w10.cell? ⟨w.heap.size + 1, 0, none⟩ = some (.int .i64 u0) := B_z1.out.cell 0 rfl
          have c1z1 : w10.cell? ⟨w.heap.size + 1, 1, none⟩ = some (.int .i64 v0) := B_z1.out.cell 1 rfl
          have c2z1 : w10.cell? ⟨w.heap.size + 1, 2, none⟩ = some (.int .i64 u1) := B_z1.out.cell 2 rfl
          have c3z1 : w10.cell? ⟨w.heap.size + 1, 3, none⟩ = some (.int .i64 v1) := B_z1.out.cell 3 rfl
          have c4z1 : w10.cell? ⟨w.heap.size + 1, 4, none⟩ = some (.int .i64 g) := B_z1.out.cell 4 rfl
          have c5z1 : w10.cell? ⟨w.heap.size + 1, 5, none⟩ = some (.int .i64 d) := B_z1.out.cell 5 rfl
          go_wp2_with fail
          refine hK.out _ _ ?_ (fun hH3x2 => ?_)
          · ((try dsimp only); (repeat' apply And.intro) <;> (first | (with_reducible assumption) | ((repeat (first | (with_reducible refine Eq.trans (cell_drew1 _ _) ?_) | (with_reducible refine Eq.trans (cell_far (by omega) _ _ _) ?_) | (with_reducible refine Eq.trans (World.cell?_alloc_lt _ _ _ (by first | (dsimp only; omega) | (simp only [World.size_alloc, World.size_setCell]; omega))) ?_))); with_reducible assumption) | assumption | go_keep))
          clear hK K hH3x1
          try simp only [Act.put, List.setIfInBounds_toArray, List.set_cons_zero, List.set_cons_succ, List.getElem_toArray, List.getElem_cons_zero, List.getElem_cons_succ]
          refine wpAnyH_take (i := 19) (v := ?hv3x19) rfl (by kernel_rfl) (by kernel_rfl) (by kernel_rfl) (fun _ _ _ h => h) (Or.inl ⟨by kernel_rfl, ?hy3x19⟩) (by assumption) ?hr3x19
          case hy3x19 => (intro w hSw; (try dsimp only at hSw); go_simp <;> with_reducible rfl)
          simp only [Act.put, List.setIfInBounds_toArray, List.set_cons_zero, List.set_cons_succ, List.getElem_toArray, List.getElem_cons_zero, List.getElem_cons_succ]
          refine wpAnyH_take (i := 20) (v := undef) rfl (by kernel_rfl) (by kernel_rfl) (by kernel_rfl) (fun _ _ _ h => h) (Or.inr ⟨by kernel_rfl, rfl⟩) (by assumption) ?_
          simp only [Act.put, List.setIfInBounds_toArray, List.set_cons_zero, List.set_cons_succ, List.getElem_toArray, List.getElem_cons_zero, List.getElem_cons_succ]
          refine wpAnyH_take (i := 21) (v := undef) rfl (by kernel_rfl) (by kernel_rfl) (by kernel_rfl) (fun _ _ _ h => h) (Or.inr ⟨by kernel_rfl, rfl⟩) (by assumption) ?_
          simp only [Act.put, List.setIfInBounds_toArray, List.set_cons_zero, List.set_cons_succ, List.getElem_toArray, List.getElem_cons_zero, List.getElem_cons_succ]
          refine wpAnyH_take (i := 22) (v := undef) rfl (by kernel_rfl) (by kernel_rfl) (by kernel_rfl) (fun _ _ _ h => h) (Or.inr ⟨by kernel_rfl, rfl⟩) (by assumption) ?_
          simp only [Act.put, List.setIfInBounds_toArray, List.set_cons_zero, List.set_cons_succ, List.getElem_toArray, List.getElem_cons_zero, List.getElem_cons_succ]
          refine wpAnyH_take (i := 23) (v := undef) rfl (by kernel_rfl) (by kernel_rfl) (by kernel_rfl) (fun _ _ _ h => h) (Or.inr ⟨by kernel_rfl, rfl⟩) (by assumption) ?_
          simp only [Act.put, List.setIfInBounds_toArray, List.set_cons_zero, List.set_cons_succ, List.getElem_toArray, List.getElem_cons_zero, List.getElem_cons_succ]
          refine wpAnyH_take (i := 24) (v := ?hv3x24) rfl (by kernel_rfl) (by kernel_rfl) (by kernel_rfl) (fun _ _ _ h => h) (Or.inl ⟨by kernel_rfl, ?hy3x24⟩) (by assumption) ?hr3x24
          case hy3x24 => (intro w hSw; (try dsimp only at hSw); go_simp <;> with_reducible rfl)
          simp only [Act.put, List.setIfInBounds_toArray, List.set_cons_zero, List.set_cons_succ, List.getElem_toArray, List.getElem_cons_zero, List.getElem_cons_succ]
          refine wpAnyH_take (i := 25) (v := ?hv3x25) rfl (by kernel_rfl) (by kernel_rfl) (by kernel_rfl) (fun _ _ _ h => h) (Or.inl ⟨by kernel_rfl, ?hy3x25⟩) (by assumption) ?hr3x25
          case hy3x25 => (intro w hSw; (try dsimp only at hSw); go_simp <;> with_reducible rfl)
          simp only [Act.put, List.setIfInBounds_toArray, List.set_cons_zero, List.set_cons_succ, List.getElem_toArray, List.getElem_cons_zero, List.getElem_cons_succ]
          refine wpAnyH_take (i := 26) (v := ?hv3x26) rfl (by kernel_rfl) (by kernel_rfl) (by kernel_rfl) (fun _ _ _ h => h) (Or.inl ⟨by kernel_rfl, ?hy3x26⟩) (by assumption) ?hr3x26
          case hy3x26 => (intro w hSw; (try dsimp only at hSw); go_simp <;> with_reducible rfl)
          simp only [Act.put, List.setIfInBounds_toArray, List.set_cons_zero, List.set_cons_succ, List.getElem_toArray, List.getElem_cons_zero, List.getElem_cons_succ]
          refine wpAnyH_take (i := 27) (v := ?hv3x27) rfl (by kernel_rfl) (by kernel_rfl) (by kernel_rfl) (fun _ _ _ h => h) (Or.inl ⟨by kernel_rfl, ?hy3x27⟩) (by assumption) ?hr3x27
          case hy3x27 => (intro w hSw; (try dsimp only at hSw); go_simp <;> with_reducible rfl)
          simp only [Act.put, List.setIfInBounds_toArray, List.set_cons_zero, List.set_cons_succ, List.getElem_toArray, List.getElem_cons_zero, List.getElem_cons_succ]
          refine wpAnyH_done (by kernel_rfl) ?_ _
          clear hH3x2
          clear c0z0 c1z0 c2z0 c3z0 c4z0 c5z0 c0z1 c1z1 c2z1 c3z1 c4z1 c5z1
          go_wp2
          go_ret
          exact ⟨rfl, nextw HB.out (by exact sm)⟩
        · skip
          go_upto_region 14 with (fail)
          obtain ⟨c0z0, c1z0, c2z0, c3z0, c4z0, c5z0⟩ := cells6 B_z0
          obtain ⟨c0z2, c1z2, c2z2⟩ := cells3 B_z2
          go_wp2_with fail
          refine (F0.out _).mono ?_
          clear c0z0 c1z0 c2z0 c3z0 c4z0 c5z0 c0z2 c1z2 c2z2
          rintro e w7 ⟨rfl, bb⟩
          replace bb := nextw (w0 := wr) (by exact sm) bb
          replace B_z0 := mv B_z0 bb
          replace B_z1 := mv B_z1 bb
          replace B_z2 := mv B_z2 bb
          replace HB := nx HB bb
          clear bb
          obtain ⟨c0z1, c1z1, c2z1, c3z1, c4z1, c5z1⟩ := cells6 B_z1
          obtain ⟨c0z2, c1z2, c2z2⟩ := cells3 B_z2
          go_wp2_with fail
          refine (F1.out _).mono ?_
          clear c0z1 c1z1 c2z1 c3z1 c4z1 c5z1 c0z2 c1z2 c2z2
          rintro e w8 ⟨rfl, bb⟩
          replace bb := nextw (w0 := w7) (by exact sm) bb
          replace B_z0 := mv B_z0 bb
          replace B_z1 := mv B_z1 bb
          replace B_z2 := mv B_z2 bb
          replace HB := nx HB bb
          clear bb
          go_upto_region 15 with (fail)
          obtain ⟨c0z0, c1z0, c2z0, c3z0, c4z0, c5z0⟩ := cells6 B_z0
          obtain ⟨c0z1, c1z1, c2z1, c3z1, c4z1, c5z1⟩ := cells6 B_z1
          have tk3x0 : True := trivial
          go_region_held3 (fun w' => w'.cell? ⟨w.heap.size, 0, none⟩ = some (.int .i64 x0) ∧ w'.cell? ⟨w.heap.size, 1, none⟩ = some (.int .i64 y0) ∧ w'.cell? ⟨w.heap.size, 2, none⟩ = some (.int .i64 x1) ∧ w'.cell? ⟨w.heap.size, 3, none⟩ = some (.int .i64 y1) ∧ w'.cell? ⟨w.heap.size, 4, none⟩ = some (.int .i64 f) ∧ w'.cell? ⟨w.heap.size, 5, none⟩ = some (.int .i64 c) ∧ w'.cell? ⟨w.heap.size + 1, 0, none⟩ = some (.int .i64 u0) ∧ w'.cell? ⟨w.heap.size + 1, 1, none⟩ = some (.int .i64 v0) ∧ w'.cell? ⟨w.heap.size + 1, 2, none⟩ = some (.int .i64 u1) ∧ w'.cell? ⟨w.heap.size + 1, 3, none⟩ = some (.int .i64 v1) ∧ w'.cell? ⟨w.heap.size + 1, 4, none⟩ = some (.int .i64 g) ∧ w'.cell? ⟨w.heap.size + 1, 5, none⟩ = some (.int .i64 d)) (((try dsimp only); (repeat' apply And.intro) <;> (first | (with_reducible assumption) | ((repeat (first | (with_reducible refine Eq.trans (cell_drew1 _ _) ?_) | (with_reducible refine Eq.trans (cell_far (by omega) _ _ _) ?_) | (with_reducible refine Eq.trans (World.cell?_alloc_lt _ _ _ (by first | (dsimp only; omega) | (simp only [World.size_alloc, World.size_setCell]; omega))) ?_))); with_reducible assumption) | assumption | go_keep)))
    (first
      | (clear tk3x0; go_at_call 24; refine (F2.out _).mono ?_; rintro e w9 ⟨rfl, bb⟩; replace bb := nextw (w0 := w8) (by exact sm) bb; replace B_z0 := mv B_z0 bb; replace B_z1 := mv B_z1 bb; replace B_z2 := mv B_z2 bb; replace HB := nx HB bb; clear bb c0z0 c1z0 c2z0 c3z0 c4z0 c5z0 c0z1 c1z1 c2z1 c3z1 c4z1 c5z1; have c0z0 : w9.cell? ⟨w.heap.size, 0, none⟩ = some (.int .i64 x0) := B_z0.out.cell 0 rfl; have c1z0 : w9.cell? ⟨w.heap.size, 1, none⟩ = some (.int .i64 y0) := B_z0.out.cell 1 rfl; have c2z0 : w9.cell? ⟨w.heap.size, 2, none⟩ = some (.int .i64 x1) := B_z0.out.cell 2 rfl; have c3z0 : w9.cell? ⟨w.heap.size, 3, none⟩ = some (.int .i64 y1) := B_z0.out.cell 3 rfl; have c4z0 : w9.cell? ⟨w.heap.size, 4, none⟩ = some (.int .i64 f) := B_z0.out.cell 4 rfl; have c5z0 : w9.cell? ⟨w.heap.size, 5, none⟩ = some (.int .i64 c) := B_z0.out.cell 5 rfl; have c0z1 : w9.cell? ⟨w.heap.size + 1, 0, none⟩ = some (.int .i64 u0) := B_z1.out.cell 0 rfl; have c1z1 : w9.cell? ⟨w.heap.size + 1, 1, none⟩ = some (.int .i64 v0) := B_z1.out.cell 1 rfl; have c2z1 : w9.cell? ⟨w.heap.size + 1, 2, none⟩ = some (.int .i64 u1) := B_z1.out.cell 2 rfl; have c3z1 : w9.cell? ⟨w.heap.size + 1, 3, none⟩ = some (.int .i64 v1) := B_z1.out.cell 3 rfl; have c4z1 : w9.cell? ⟨w.heap.size + 1, 4, none⟩ = some (.int .i64 g) := B_z1.out.cell 4 rfl; have c5z1 : w9.cell? ⟨w.heap.size + 1, 5, none⟩ = some (.int .i64 d) := B_z1.out.cell 5 rfl; have tk3x1 : True := trivial)
      | (clear tk3x1; go_at_call 15; refine (F3.out _).mono ?_; rintro e w10 ⟨rfl, bb⟩; replace bb := nextw (w0 := w9) (by exact sm) bb; replace B_z0 := mv B_z0 bb; replace B_z1 := mv B_z1 bb; replace B_z2 := mv B_z2 bb; replace HB := nx HB bb; clear bb c0z0 c1z0 c2z0 c3z0 c4z0 c5z0 c0z1 c1z1 c2z1 c3z1 c4z1 c5z1; have c0z0 : w10.cell? ⟨w.heap.size, 0, none⟩ = some (.int .i64 x0) := B_z0.out.cell 0 rfl; have c1z0 : w10.cell? ⟨w.heap.size, 1, none⟩ = some (.int .i64 y0) := B_z0.out.cell 1 rfl; have c2z0 : w10.cell? ⟨w.heap.size, 2, none⟩ = some (.int .i64 x1) := B_z0.out.cell 2 rfl; have c3z0 : w10.cell? ⟨w.heap.size, 3, none⟩ = some (.int .i64 y1) := B_z0.out.cell 3 rfl; have c4z0 : w10.cell? ⟨w.heap.size, 4, none⟩ = some (.int .i64 f) := B_z0.out.cell 4 rfl; have c5z0 : w10.cell? ⟨w.heap.size, 5, none⟩ = some (.int .i64 c) := B_z0.out.cell 5 rfl; have c0z1 : w10.cell? ⟨w.heap.size + 1, 0, none⟩ = some (.int .i64 u0) := B_z1.out.cell 0 rfl; have c1z1 : w10.cell? ⟨w.heap.size + 1, 1, none⟩ = some (.int .i64 v0) := B_z1.out.cell 1 rfl; have c2z1 : w10.cell? ⟨w.heap.size + 1, 2, none⟩ = some (.int .i64 u1) := B_z1.out.cell 2 rfl; have c3z1 : w10.cell? ⟨w.heap.size + 1, 3, none⟩ = some (.int .i64 v1) := B_z1.out.cell 3 rfl; have c4z1 : w10.cell? ⟨w.heap.size + 1, 4, none⟩ = some (.int .i64 g) := B_z1.out.cell 4 rfl; have c5z1 : w10.cell? ⟨w.heap.size + 1, 5, none⟩ = some (.int .i64 d) := B_z1.out.cell 5 rfl; have tk3x2 : True := trivial)
      | (clear tk3x2; go_at_call 19; refine (F4.out _).mono ?_; rintro e w11 ⟨rfl, bb⟩; replace bb := nextw (w0 := w10) (by exact sm) bb; replace B_z0 := mv B_z0 bb; replace B_z1 := mv B_z1 bb; replace B_z2 := mv B_z2 bb; replace HB := nx HB bb; clear bb c0z0 c1z0 c2z0 c3z0 c4z0 c5z0 c0z1 c1z1 c2z1 c3z1 c4z1 c5z1; have c0z0 : w11.cell? ⟨w.heap.size, 0, none⟩ = some (.int .i64 x0) := B_z0.out.cell 0 rfl; have c1z0 : w11.cell? ⟨w.heap.size, 1, none⟩ = some (.int .i64 y0) := B_z0.out.cell 1 rfl; have c2z0 : w11.cell? ⟨w.heap.size, 2, none⟩ = some (.int .i64 x1) := B_z0.out.cell 2 rfl; have c3z0 : w11.cell? ⟨w.heap.size, 3, none⟩ = some (.int .i64 y1) := B_z0.out.cell 3 rfl; have c4z0 : w11.cell? ⟨w.heap.size, 4, none⟩ = some (.int .i64 f) := B_z0.out.cell 4 rfl; have c5z0 : w11.cell? ⟨w.heap.size, 5, none⟩ = some (.int .i64 c) := B_z0.out.cell 5 rfl; have c0z1 : w11.cell? ⟨w.heap.size + 1, 0, none⟩ = some (.int .i64 u0) := B_z1.out.cell 0 rfl; have c1z1 : w11.cell? ⟨w.heap.size + 1, 1, none⟩ = some (.int .i64 v0) := B_z1.out.cell 1 rfl; have c2z1 : w11.cell? ⟨w.heap.size + 1, 2, none⟩ = some (.int .i64 u1) := B_z1.out.cell 2 rfl; have c3z1 : w11.cell? ⟨w.heap.size + 1, 3, none⟩ = some (.int .i64 v1) := B_z1.out.cell 3 rfl; have c4z1 : w11.cell? ⟨w.heap.size + 1, 4, none⟩ = some (.int .i64 g) := B_z1.out.cell 4 rfl; have c5z1 : w11.cell? ⟨w.heap.size + 1, 5, none⟩ = some (.int .i64 d) := B_z1.out.cell 5 rfl; have tk3x3 : True := trivial))
          clear c0z0 c1z0 c2z0 c3z0 c4z0 c5z0 c0z1 c1z1 c2z1 c3z1 c4z1 c5z1
          go_wp2
          go_ret
          exact ⟨rfl, nextw HB.out (by exact sm)⟩
        · skip
          go_upto_region 14 with (fail)
          obtain ⟨c0z0, c1z0, c2z0, c3z0, c4z0, c5z0⟩ := cells6 B_z0
          obtain ⟨c0z2, c1z2, c2z2⟩ := cells3 B_z2
          go_wp2_with fail
          refine (F0.out _).mono ?_
          clear c0z0 c1z0 c2z0 c3z0 c4z0 c5z0 c0z2 c1z2 c2z2
          rintro e w7 ⟨rfl, bb⟩
          replace bb := nextw (w0 := wr) (by exact sm) bb
          replace B_z0 := mv B_z0 bb
          replace B_z1 := mv B_z1 bb
          replace B_z2 := mv B_z2 bb
          replace HB := nx HB bb
          clear bb
          obtain ⟨c0z1, c1z1, c2z1, c3z1, c4z1, c5z1⟩ := cells6 B_z1
          obtain ⟨c0z2, c1z2, c2z2⟩ := cells3 B_z2
          go_wp2_with fail
          refine (F1.out _).mono ?_
          clear c0z1 c1z1 c2z1 c3z1 c4z1 c5z1 c0z2 c1z2 c2z2
          rintro e w8 ⟨rfl, bb⟩
          replace bb := nextw (w0 := w7) (by exact sm) bb
          replace B_z0 := mv B_z0 bb
          replace B_z1 := mv B_z1 bb
          replace B_z2 := mv B_z2 bb
          replace HB := nx HB bb
          clear bb
          go_upto_region 15 with (fail)
          obtain ⟨c0z0, c1z0, c2z0, c3z0, c4z0, c5z0⟩ := cells6 B_z0
          obtain ⟨c0z1, c1z1, c2z1, c3z1, c4z1, c5z1⟩ := cells6 B_z1
          have tk3x0 : True := trivial
          go_region_held3 (fun w' => w'.cell? ⟨w.heap.size, 0, none⟩ = some (.int .i64 x0) ∧ w'.cell? ⟨w.heap.size, 1, none⟩ = some (.int .i64 y0) ∧ w'.cell? ⟨w.heap.size, 2, none⟩ = some (.int .i64 x1) ∧ w'.cell? ⟨w.heap.size, 3, none⟩ = some (.int .i64 y1) ∧ w'.cell? ⟨w.heap.size, 4, none⟩ = some (.int .i64 f) ∧ w'.cell? ⟨w.heap.size, 5, none⟩ = some (.int .i64 c) ∧ w'.cell? ⟨w.heap.size + 1, 0, none⟩ = some (.int .i64 u0) ∧ w'.cell? ⟨w.heap.size + 1, 1, none⟩ = some (.int .i64 v0) ∧ w'.cell? ⟨w.heap.size + 1, 2, none⟩ = some (.int .i64 u1) ∧ w'.cell? ⟨w.heap.size + 1, 3, none⟩ = some (.int .i64 v1) ∧ w'.cell? ⟨w.heap.size + 1, 4, none⟩ = some (.int .i64 g) ∧ w'.cell? ⟨w.heap.size + 1, 5, none⟩ = some (.int .i64 d)) (((try dsimp only); (repeat' apply And.intro) <;> (first | (with_reducible assumption) | ((repeat (first | (with_reducible refine Eq.trans (cell_drew1 _ _) ?_) | (with_reducible refine Eq.trans (cell_far (by omega) _ _ _) ?_) | (with_reducible refine Eq.trans (World.cell?_alloc_lt _ _ _ (by first | (dsimp only; omega) | (simp only [World.size_alloc, World.size_setCell]; omega))) ?_))); with_reducible assumption) | assumption | go_keep)))
    (first
      | (clear tk3x0; go_at_call 24; refine (F2.out _).mono ?_; rintro e w9 ⟨rfl, bb⟩; replace bb := nextw (w0 := w8) (by exact sm) bb; replace B_z0 := mv B_z0 bb; replace B_z1 := mv B_z1 bb; replace B_z2 := mv B_z2 bb; replace HB := nx HB bb; clear bb c0z0 c1z0 c2z0 c3z0 c4z0 c5z0 c0z1 c1z1 c2z1 c3z1 c4z1 c5z1; have c0z0 : w9.cell? ⟨w.heap.size, 0, none⟩ = some (.int .i64 x0) := B_z0.out.cell 0 rfl; have c1z0 : w9.cell? ⟨w.heap.size, 1, none⟩ = some (.int .i64 y0) := B_z0.out.cell 1 rfl; have c2z0 : w9.cell? ⟨w.heap.size, 2, none⟩ = some (.int .i64 x1) := B_z0.out.cell 2 rfl; have c3z0 : w9.cell? ⟨w.heap.size, 3, none⟩ = some (.int .i64 y1) := B_z0.out.cell 3 rfl; have c4z0 : w9.cell? ⟨w.heap.size, 4, none⟩ = some (.int .i64 f) := B_z0.out.cell 4 rfl; have c5z0 : w9.cell? ⟨w.heap.size, 5, none⟩ = some (.int .i64 c) := B_z0.out.cell 5 rfl; have c0z1 : w9.cell? ⟨w.heap.size + 1, 0, none⟩ = some (.int .i64 u0) := B_z1.out.cell 0 rfl; have c1z1 : w9.cell? ⟨w.heap.size + 1, 1, none⟩ = some (.int .i64 v0) := B_z1.out.cell 1 rfl; have c2z1 : w9.cell? ⟨w.heap.size + 1, 2, none⟩ = some (.int .i64 u1) := B_z1.out.cell 2 rfl; have c3z1 : w9.cell? ⟨w.heap.size + 1, 3, none⟩ = some (.int .i64 v1) := B_z1.out.cell 3 rfl; have c4z1 : w9.cell? ⟨w.heap.size + 1, 4, none⟩ = some (.int .i64 g) := B_z1.out.cell 4 rfl; have c5z1 : w9.cell? ⟨w.heap.size + 1, 5, none⟩ = some (.int .i64 d) := B_z1.out.cell 5 rfl; have tk3x1 : True := trivial)
      | (clear tk3x1; go_at_call 15; refine (F3.out _).mono ?_; rintro e w10 ⟨rfl, bb⟩; replace bb := nextw (w0 := w9) (by exact sm) bb; replace B_z0 := mv B_z0 bb; replace B_z1 := mv B_z1 bb; replace B_z2 := mv B_z2 bb; replace HB := nx HB bb; clear bb c0z0 c1z0 c2z0 c3z0 c4z0 c5z0 c0z1 c1z1 c2z1 c3z1 c4z1 c5z1; have c0z0 : w10.cell? ⟨w.heap.size, 0, none⟩ = some (.int .i64 x0) := B_z0.out.cell 0 rfl; have c1z0 : w10.cell? ⟨w.heap.size, 1, none⟩ = some (.int .i64 y0) := B_z0.out.cell 1 rfl; have c2z0 : w10.cell? ⟨w.heap.size, 2, none⟩ = some (.int .i64 x1) := B_z0.out.cell 2 rfl; have c3z0 : w10.cell? ⟨w.heap.size, 3, none⟩ = some (.int .i64 y1) := B_z0.out.cell 3 rfl; have c4z0 : w10.cell? ⟨w.heap.size, 4, none⟩ = some (.int .i64 f) := B_z0.out.cell 4 rfl; have c5z0 : w10.cell? ⟨w.heap.size, 5, none⟩ = some (.int .i64 c) := B_z0.out.cell 5 rfl; have c0z1 : w10.cell? ⟨w.heap.size + 1, 0, none⟩ = some (.int .i64 u0) := B_z1.out.cell 0 rfl; have c1z1 : w10.cell? ⟨w.heap.size + 1, 1, none⟩ = some (.int .i64 v0) := B_z1.out.cell 1 rfl; have c2z1 : w10.cell? ⟨w.heap.size + 1, 2, none⟩ = some (.int .i64 u1) := B_z1.out.cell 2 rfl; have c3z1 : w10.cell? ⟨w.heap.size + 1, 3, none⟩ = some (.int .i64 v1) := B_z1.out.cell 3 rfl; have c4z1 : w10.cell? ⟨w.heap.size + 1, 4, none⟩ = some (.int .i64 g) := B_z1.out.cell 4 rfl; have c5z1 : w10.cell? ⟨w.heap.size + 1, 5, none⟩ = some (.int .i64 d) := B_z1.out.cell 5 rfl; have tk3x2 : True := trivial)
      | (clear tk3x2; go_at_call 19; refine (F4.out _).mono ?_; rintro e w11 ⟨rfl, bb⟩; replace bb := nextw (w0 := w10) (by exact sm) bb; replace B_z0 := mv B_z0 bb; replace B_z1 := mv B_z1 bb; replace B_z2 := mv B_z2 bb; replace HB := nx HB bb; clear bb c0z0 c1z0 c2z0 c3z0 c4z0 c5z0 c0z1 c1z1 c2z1 c3z1 c4z1 c5z1; have c0z0 : w11.cell? ⟨w.heap.size, 0, none⟩ = some (.int .i64 x0) := B_z0.out.cell 0 rfl; have c1z0 : w11.cell? ⟨w.heap.size, 1, none⟩ = some (.int .i64 y0) := B_z0.out.cell 1 rfl; have c2z0 : w11.cell? ⟨w.heap.size, 2, none⟩ = some (.int .i64 x1) := B_z0.out.cell 2 rfl; have c3z0 : w11.cell? ⟨w.heap.size, 3, none⟩ = some (.int .i64 y1) := B_z0.out.cell 3 rfl; have c4z0 : w11.cell? ⟨w.heap.size, 4, none⟩ = some (.int .i64 f) := B_z0.out.cell 4 rfl; have c5z0 : w11.cell? ⟨w.heap.size, 5, none⟩ = some (.int .i64 c) := B_z0.out.cell 5 rfl; have c0z1 : w11.cell? ⟨w.heap.size + 1, 0, none⟩ = some (.int .i64 u0) := B_z1.out.cell 0 rfl; have c1z1 : w11.cell? ⟨w.heap.size + 1, 1, none⟩ = some (.int .i64 v0) := B_z1.out.cell 1 rfl; have c2z1 : w11.cell? ⟨w.heap.size + 1, 2, none⟩ = some (.int .i64 u1) := B_z1.out.cell 2 rfl; have c3z1 : w11.cell? ⟨w.heap.size + 1, 3, none⟩ = some (.int .i64 v1) := B_z1.out.cell 3 rfl; have c4z1 : w11.cell? ⟨w.heap.size + 1, 4, none⟩ = some (.int .i64 g) := B_z1.out.cell 4 rfl; have c5z1 : w11.cell? ⟨w.heap.size + 1, 5, none⟩ = some (.int .i64 d) := B_z1.out.cell 5 rfl; have tk3x3 : True := trivial))
          clear c0z0 c1z0 c2z0 c3z0 c4z0 c5z0 c0z1 c1z1 c2z1 c3z1 c4z1 c5z1
          go_wp2
          go_ret
          exact ⟨rfl, nextw HB.out (by exact sm)⟩
end Go.Proofs.Ytjpdahalplkfbaa
