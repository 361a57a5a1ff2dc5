/- integer.Neg by value; magnitudes with a sign. -/
import Derived.Test.YtccndofafljaaaaGreatDoorRefB

set_option linter.unusedVariables false
set_option linter.unusedSimpArgs false

namespace Go.Proofs.YtccndofafljaaaaGreatDoor
open Go Go.RowKit Num

theorem Rc.u32 {w : World} {s : Bool} {m : Value} {z : Int} {n : Nat} (h : Rc w (.agg #[.bool s, m]) z n) : U32 w m (digs z.natAbs) := by
  obtain ⟨m', e, u⟩ := h.1
  simp only [Value.agg.injEq, Array.mk.injEq, List.cons.injEq, and_true] at e
  rw [e.2]; exact u
/-- A magnitude with a sign. -/
def sgnd (s : Bool) (n : Nat) : Int := if s then -(n : Int) else n
theorem Rd_of_mag {w : World} {s : Bool} {m : Value} {n k : Nat} {z : Int} (h : U32 w m (digs n)) (hk : n < 4294967296 ^ k) (hz : sgnd s n = z) : Rd w (.agg #[.bool s, m]) z k :=
  ⟨s, m, digs n, rfl, h, by rw [ival_digs]; exact hz, digs_length_le hk⟩
theorem lt_sum {a b n k : Nat} (ha : a < 4294967296 ^ n) (hb : b < 4294967296 ^ k) : a + b < 4294967296 ^ (n + k + 1) := by
  have h1 := pow_mono (show n ≤ n + k by omega)
  have h2 := pow_mono (show k ≤ n + k by omega)
  rw [Nat.pow_succ]
  omega

theorem ival_not (s : Bool) (l : List Nat) : ival (!s) l = -(ival s l) := by unfold ival; cases s <;> simp
theorem neg_words {x : Int} {n : Nat} (h : x.natAbs < 4294967296 ^ n) : (-x).natAbs < 4294967296 ^ n := by rw [Int.natAbs_neg]; exact h
theorem trim_below {v : Value} {l : List Nat} {w : World} {N : Nat} (h : U32 w v l) (hN : val l = N) :
    Calls Tryz.prog 67 #[v] w fun e w' => e = .returned (trimV v N) ∧ Below w.heap.size w w' := by
  subst hN
  exact (trim_eq v l w h).mono fun e w' ⟨he, hw⟩ => ⟨he, by subst hw; exact Below.refl _ _⟩
theorem clone_mag {v : Value} {n : Nat} {w : World} (h : U32 w v (digs n)) (hn : (digs n).length ≤ 50000) :
    Calls Tryz.prog 69 #[v] w fun e w' => ∃ m, e = .returned m ∧ U32 w' m (digs n) ∧ Below w.heap.size w w' :=
  (clone_any v (digs n) w h (by omega)).mono fun e w' ⟨m, he, hc, hb⟩ => ⟨m, he, hc.u32 (digs_lt _), hb⟩
theorem signed_mag {s : Bool} {v : Value} {n : Nat} {w : World} {z : Int} (h : U32 w v (digs n)) (hz : sgnd s n = z) :
    Calls Tryz.prog 63 #[.bool s, v] w fun e w' => ∃ v', e = .returned v' ∧ Can w' v' z ∧ Below w.heap.size w w' :=
  (signed_can s v (digs n) w h).mono fun e w' ⟨sg, A, k, c, he, hc, hb⟩ => ⟨_, he, by rw [← hz]; unfold sgnd; rw [ival_digs] at hc; exact hc, hb⟩

set_option maxRecDepth 100000 in
set_option maxHeartbeats 4000000 in
theorem Neg_rd {v1 : Value} {z1 : Int} {n1 : Nat} {w : World} (h1 : Rd w v1 z1 n1) (f1 : n1 ≤ 50000) :
    Calls Tryz.prog 47 #[v1] w fun e w' => ∃ v, e = .returned v ∧ Rc w' v (-z1) n1 ∧ Below w.heap.size w w' := by
  obtain ⟨s1, A1, k1, c1, rfl, -⟩ := h1.shape
  have HA := Lib.hid h1.abs
  have V_x := Lib.hid h1
  clear h1
  have hb0 : Below w.heap.size w ((w.alloc (.cells #[.bool s1, (.slice A1 k1 c1)] 24)).alloc (.cells #[.bool false, (.slice none 0 0)] 24)) := (Below.alloc (Below.alloc (Below.refl w.heap.size w) (by simp <;> omega) _) (by simp <;> omega) _)
  have B_x : Box ((w.alloc (.cells #[.bool s1, (.slice A1 k1 c1)] 24)).alloc (.cells #[.bool false, (.slice none 0 0)] 24)) (w.heap.size) s1 (.slice A1 k1 c1) := by have h := Box.alloc (Box.new w s1 (.slice A1 k1 c1)) (.cells #[.bool false, (.slice none 0 0)] 24); simpa using h
  replace B_x := Lib.hid B_x
  have B_r : Box ((w.alloc (.cells #[.bool s1, (.slice A1 k1 c1)] 24)).alloc (.cells #[.bool false, (.slice none 0 0)] 24)) (w.heap.size + 1) false (.slice none 0 0) := by have h := Box.new (w.alloc (.cells #[.bool s1, (.slice A1 k1 c1)] 24)) false (.slice none 0 0); simpa using h
  replace B_r := Lib.hid B_r
  replace V_x := Lib.hid (Rd.below V_x.out hb0)
  have HB := Lib.hid hb0
  clear hb0
  have c0x := B_x.out.c0
  have c1x := B_x.out.c1
  have f0x := B_x.out.f0
  have f1x := B_x.out.f1
  have c0r := B_r.out.c0
  have c1r := B_r.out.c1
  have f0r := B_r.out.f0
  have f1r := B_r.out.f1
  go_enter Tryz.func47, Tryz.ntmps47
  go_wp2
  clear c0x c1x f0x f1x c0r c1r f0r f1r
  generalize (w.alloc (.cells #[.bool s1, (.slice A1 k1 c1)] 24)).alloc (.cells #[.bool false, (.slice none 0 0)] 24) = W0 at *
  obtain ⟨l, hu, hi, hl⟩ := Rd.u32 V_x.out
  have hv := ival_abs s1 l
  rw [hi] at hv
  have HI := Lib.hid hi
  have ht := trimV_mag hu
  have hlq : (digs (val l)).length ≤ 50000 := Nat.le_trans (length_val_le hu.lt) (by omega)
  have HZ : Hid (sgnd (!s1) (val l) = -z1) := by rw [← hi]; unfold Hid sgnd ival; cases s1 <;> simp
  have HV : Hid (val l < 4294967296 ^ n1) := by have := HA.out; rw [hv] at this; exact this
  clear hv hi hl
  have V_m := Lib.hid hu
  clear hu
  obtain ⟨N, hN⟩ : ∃ N, val l = N := ⟨_, rfl⟩
  have HN := Lib.hid hN
  rw [hN] at ht HZ HV hlq
  have V_t := Lib.hid (show U32 W0 _ (digs N) from ht)
  clear ht hN
  have c0x := B_x.out.c0
  have c1x := B_x.out.c1
  have tk0 : True := trivial
  first | (go_region_held3 (fun w' => w'.cell? ⟨w.heap.size, 0, none⟩ = some (.bool s1) ∧ w'.cell? ⟨w.heap.size, 1, none⟩ = some (.slice A1 k1 c1)) (((try dsimp only); (repeat' apply And.intro) <;> (first | assumption | (refine Eq.trans (far2 (by omega) _ _) ?_; assumption) | go_keep)))
    (first
      | (have _t := tk0; clear _t tk0; go_at_call 67; refine (trim_below (U32.below V_m.out (by exact ⟨rfl, rfl, rfl, Nat.le_refl _, fun _ _ => rfl⟩)) HN.out).mono ?_; rintro e w1 ⟨rfl, bb⟩; replace bb := nextw (w0 := W0) (by exact ⟨rfl, rfl, rfl, Nat.le_refl _, fun _ _ => rfl⟩) bb; replace B_x := Lib.hid (Box.below B_x.out bb B_x.out.lt); replace B_r := Lib.hid (Box.below B_r.out bb B_r.out.lt); replace V_x := Lib.hid (Rd.below V_x.out bb); replace V_m := Lib.hid (U32.below V_m.out bb); replace V_t := Lib.hid (U32.below V_t.out bb); replace HB := Lib.hid (nextw HB.out bb); clear bb; have c0x := B_x.out.c0; have c1x := B_x.out.c1; have tk1 : True := trivial)
      | (have _t := tk1; clear _t tk1; go_at_call 69; refine (clone_mag (U32.below V_t.out (by exact ⟨rfl, rfl, rfl, Nat.le_refl _, fun _ _ => rfl⟩)) (by omega)).mono ?_; rintro e w2 ⟨m2, rfl, hc2, bb⟩; replace bb := nextw (w0 := w1) (by exact ⟨rfl, rfl, rfl, Nat.le_refl _, fun _ _ => rfl⟩) bb; replace B_x := Lib.hid (Box.below B_x.out bb B_x.out.lt); replace B_r := Lib.hid (Box.below B_r.out bb B_r.out.lt); replace V_x := Lib.hid (Rd.below V_x.out bb); replace V_m := Lib.hid (U32.below V_m.out bb); replace V_t := Lib.hid (U32.below V_t.out bb); replace HB := Lib.hid (nextw HB.out bb); clear bb; replace hc2 := Lib.hid hc2; have V_c := hc2; clear hc2; have c0x := B_x.out.c0; have c1x := B_x.out.c1; have tk2 : True := trivial)
      | (have _t := tk2; clear _t tk2; go_at_call 63; refine (signed_mag (U32.below V_c.out (by exact ⟨rfl, rfl, rfl, Nat.le_refl _, fun _ _ => rfl⟩)) HZ.out).mono ?_; rintro e w3 ⟨vr, rfl, rr, bb⟩; replace bb := nextw (w0 := w2) (by exact ⟨rfl, rfl, rfl, Nat.le_refl _, fun _ _ => rfl⟩) bb; replace B_x := Lib.hid (Box.below B_x.out bb B_x.out.lt); replace B_r := Lib.hid (Box.below B_r.out bb B_r.out.lt); replace V_x := Lib.hid (Rd.below V_x.out bb); replace V_m := Lib.hid (U32.below V_m.out bb); replace V_t := Lib.hid (U32.below V_t.out bb); replace V_c := Lib.hid (U32.below V_c.out bb); replace HB := Lib.hid (nextw HB.out bb); clear bb; replace rr := Lib.hid rr; have V_q := rr; clear rr; obtain ⟨sr, Ar, kr, cr, rfl⟩ := V_q.out.shape; have V_r := Lib.hid (show Rc _ _ (-z1) n1 from ⟨V_q.out, neg_words HA.out⟩); have c0r := B_r.out.c0; have c1r := B_r.out.c1; have f0r := B_r.out.f0; have f1r := B_r.out.f1; have c0x := B_x.out.c0; have c1x := B_x.out.c1; have tk3 : True := trivial))) | fail
  all_goals
    have bS := Box.store B_r.out sr (.slice Ar kr cr)
    have s0 := bS.c0
    have s1 := bS.c1
    have K_r := Lib.hid (Box.keepsRc B_r.out V_r.out sr (.slice Ar kr cr))
    have HBF := Lib.hid (Below.store HB.out (x := w.heap.size + 1) (by omega) (.bool sr) (.slice Ar kr cr))
    clear bS
    have c0r := B_r.out.c0
    have c1r := B_r.out.c1
    have f0r := B_r.out.f0
    have f1r := B_r.out.f1
    go_wp2_with fail
    generalize (w3.setCell ⟨w.heap.size + 1, 0, none⟩ (.bool sr)).setCell ⟨w.heap.size + 1, 1, none⟩ (.slice Ar kr cr) = WF at *
    go_wp2
    exact bodyPost_ret (v := .agg #[.bool sr, (.slice Ar kr cr)]) (by simp [results, Tryz.results47, go_sem, s0, s1]) rfl ⟨_, rfl, K_r.out, HBF.out⟩
end Go.Proofs.YtccndofafljaaaaGreatDoor
