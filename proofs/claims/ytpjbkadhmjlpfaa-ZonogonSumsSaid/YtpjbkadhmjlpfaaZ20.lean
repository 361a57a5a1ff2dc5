/- zonogon.boxed. -/
import Derived.Test.YtpjbkadhmjlpfaaZ19
set_option linter.unusedVariables false
set_option linter.unusedSimpArgs false
namespace Go.Proofs.Ytpjbkadhmjlpfaa
open Go Go.RowKit Hd

def sumM (f : P2 → Int) (l : List P2) : Int := (l.map fun p => mg (f p)).sum
theorem sumM_snoc (f : P2 → Int) (l : List P2) (p : P2) : sumM f (l ++ [p]) = sumM f l + mg (f p) := by simp [sumM]
theorem insB_bd (l : List P2) (h : ∀ p ∈ l, Bd 4194304 p) : ∀ p ∈ insB l h, Bd 4194304 p := by
  intro p hp
  simp only [insB, List.mem_map] at hp
  obtain ⟨x, -, rfl⟩ := hp
  exact x.2
theorem sumM_bd {f : P2 → Int} {l : List P2} (h : ∀ p ∈ l, Wi (f p) 4194304) : 0 ≤ sumM f l ∧ sumM f l ≤ l.length * 4194304 := by
  induction l with
  | nil => simp [sumM]
  | cons p t ih =>
    have h1 := ih (fun x hx => h x (List.mem_cons_of_mem _ hx))
    have h2 := mg_le (h p List.mem_cons_self)
    have h3 := mg_nonneg (f p)
    have e : sumM f (p :: t) = mg (f p) + sumM f t := rfl
    rw [e, List.length_cons]
    omega
/-- The m shortest ones replaced by two. -/
def boxB (s : List P2) (m : Nat) : List P2 := s.drop m ++ [(sumM (·.1) (s.take m), 0), (0, sumM (·.2) (s.take m))]

set_option maxRecDepth 100000 in
set_option maxHeartbeats 4000000 in
theorem boxed_is (A : Option Addr) (n c : Nat) (l : List P2) (m : Nat) (hn : l.length ≤ 19) (hl : ∀ p ∈ l, Bd 4194304 p) (hm0 : 0 < m) (hm : m ≤ l.length) (w : World) {lo_L hi_L : Nat} (L : PL w lo_L hi_L A n c l) :
    Calls Try.prog 68 #[.slice A n c, .int .i64 m] w fun e w' => ∃ A' c', e = .returned (.slice A' (boxB (insB l hl) m).length c') ∧ PL w' w.heap.size w'.heap.size A' (boxB (insB l hl) m).length c' (boxB (insB l hl) m) ∧ Below w.heap.size w w' := by
  have hl0 : l ≠ [] := by intro e; rw [e] at hm; simp at hm; omega
  have HIB := Lib.hid (insB_bd l hl)
  have HST := Lib.hid (fun (w : World) (base g cap : Nat) (h1 : OwnP w base (.slice (some ⟨g, 0, none⟩) l.length cap) l) (h2 : base ≤ w.heap.size) => StableF_any hl hn w h1 h2)
  generalize insB l hl = s at *
  have hnl := L.len
  have HCL := Lib.hid (Clone_is A n c l (by omega) w L)
  clear L
  go_enter Try.func68, Try.ntmps68
  have HNL := Lib.hid hnl
  clear hnl
  go_wp2_with fail
  refine HCL.out.mono ?_
  rintro e w1 ⟨v, rfl, ho, bb⟩
  rcases ho.2 with ⟨h0, h1⟩ | ⟨g, cap, cur, e2, -, -, hnc, hcm, -, -⟩
  · exact absurd (List.length_eq_zero_iff.mp h1) hl0
  subst e2
  have HO := Lib.hid ho
  have HB := Lib.hid bb
  clear ho bb HCL
  go_wp2_with fail
  refine (HST.out _ _ _ _ HO.out HB.out.size).mono ?_
  rintro e w2 ⟨rfl, ho, bb⟩
  have VR := Lib.hid ho
  replace HB := Lib.hid (HB.out.trans bb)
  clear HO HST bb
  obtain ⟨A2, c2, e2, pl, -⟩ := ho.pl
  injection e2 with e3 e4 e5
  subst e3
  subst e5
  have HSL := Lib.hid e4
  have hm2 : m ≤ s.length := by omega
  have hs19 : s.length ≤ 19 := by omega
  have hcap : s.length ≤ cap := pl.cap
  rw [e4]
  rw [e4] at VR
  obtain ⟨lo_M, hi_M, M⟩ : ∃ lo hi, Hid (PL w2 lo hi (some ⟨g, 0, none⟩) m cap (s.take m)) := ⟨_, _, Lib.hid (pl.take m hm2)⟩
  clear pl ho e4 hn hm hl0 hnc hcm
  have hmc : (m : Int) ≤ (cap : Int) := by omega
  have hmc2 : m ≤ cap := by omega
  have hm19 : m ≤ 19 := by omega
  go_wp2_with fail
  go_loopw [6, 7, 18] (fun a0 a1 kk wx => ∃ (k : Nat), k ≤ m ∧ kk = .int .i64 k ∧ a0 = (.int .i64 (sumM (·.1) ((s.take m).take k))) ∧ a1 = (.int .i64 (sumM (·.2) ((s.take m).take k))) ∧ Hid (OwnP wx w.heap.size (.slice (some ⟨g, 0, none⟩) s.length cap) s) ∧ Hid (PL wx lo_M hi_M (some ⟨g, 0, none⟩) m cap (s.take m)) ∧ Hid (Below w.heap.size w wx)) (fun _ _ kk _ => m - (intOf kk).toNat)
  case atStart => exact ⟨0, by omega, rfl, by simp [sumM], by simp [sumM], VR, M, HB⟩
  case round =>
    clear VR M HB
    obtain ⟨k, hk, rfl, rfl, rfl, VR, M, HB⟩ := hrel
    by_cases hlt : k < m
    · skip
      obtain ⟨g2, o2, eB, hg2, f0, f1⟩ := M.out.elem hlt
      cases eB
      have hlen := M.out.len
      have hmem : (s.take m).getD k z2 ∈ s := List.mem_of_mem_take (getD_mem (by omega))
      have hP := HIB.out _ hmem
      have HT := Lib.hid (take_snoc (s.take m) z2 (k := k) (by omega))
      have b1 := sumM_bd (f := (·.1)) (l := (s.take m).take k) (fun p hp => (HIB.out p (List.mem_of_mem_take (List.mem_of_mem_take hp))).1)
      have b2 := sumM_bd (f := (·.2)) (l := (s.take m).take k) (fun p hp => (HIB.out p (List.mem_of_mem_take (List.mem_of_mem_take hp))).2)
      have b3 : (((s.take m).take k).length : Int) ≤ 19 := by rw [List.length_take, List.length_take]; omega
      generalize (s.take m).getD k z2 = q at *
      obtain ⟨px, py⟩ := q
      dsimp only at f0 f1
      rw [Nat.zero_add] at f0 f1
      obtain ⟨X, hX⟩ : ∃ X, sumM (·.1) ((s.take m).take k) = X := ⟨_, rfl⟩
      obtain ⟨Y, hY⟩ : ∃ Y, sumM (·.2) ((s.take m).take k) = Y := ⟨_, rfl⟩
      rw [hX] at b1 ⊢
      rw [hY] at b2 ⊢
      have HXY := Lib.hid (And.intro hX hY)
      clear hX hY
      have p1 : Wi px 4194304 := hP.1
      have p2 : Wi py 4194304 := hP.2
      have q1 := mg_le p1
      have q2 := mg_le p2
      have q3 := mg_nonneg px
      have q4 := mg_nonneg py
      have HM1 := Lib.hid (fun w => magnitude_is px ⟨by have := p1.1; omega, by have := p1.2; omega⟩ w)
      have HM2 := Lib.hid (fun w => magnitude_is py ⟨by have := p2.1; omega, by have := p2.2; omega⟩ w)
      clear p1 p2 hP hmem hg2 hlen
      have HMX : Hid (sumM (·.1) ((s.take m).take (k + 1)) = X + mg px) := by unfold Hid; rw [HT.out, sumM_snoc, HXY.out.1]
      have HMY : Hid (sumM (·.2) ((s.take m).take (k + 1)) = Y + mg py) := by unfold Hid; rw [HT.out, sumM_snoc, HXY.out.2]
      generalize mg px = mx at *
      generalize mg py = my at *
      have ew1 : IntKind.i64.wrap (X + mx) = X + mx := by rw [IntKind.wrap_i64]; omega
      have ew2 : IntKind.i64.wrap (Y + my) = Y + my := by rw [IntKind.wrap_i64]; omega
      obtain ⟨bb, B_g⟩ := box1 wr 39 #[.int .i64 px, .int .i64 py]
      replace bb := bb.out
      replace M := Lib.hid (PL.below M.out bb)
      replace VR := Lib.hid (OwnP.below VR.out bb)
      replace HB := nx HB bb
      clear bb
      go_upto_region 7 with (fail)
      generalize wr.alloc (.cells #[.int .i64 px, .int .i64 py] 39) = WG at *
      clear f0 f1
      obtain ⟨c0g, c1g⟩ := cells2 B_g
      go_wp2_with fail
      refine (HM1.out _).mono ?_
      clear c0g c1g
      rintro e w1 ⟨rfl, bb⟩
      replace bb := nextw (w0 := WG) (by exact sm) bb
      replace B_g := mv B_g bb
      replace M := Lib.hid (PL.below M.out bb)
      replace VR := Lib.hid (OwnP.below VR.out bb)
      replace HB := nx HB bb
      clear bb
      obtain ⟨c0g, c1g⟩ := cells2 B_g
      go_wp2_with fail
      refine (HM2.out _).mono ?_
      clear c0g c1g
      rintro e w2 ⟨rfl, bb⟩
      replace bb := nextw (w0 := w1) (by exact sm) bb
      replace B_g := mv B_g bb
      replace M := Lib.hid (PL.below M.out bb)
      replace VR := Lib.hid (OwnP.below VR.out bb)
      replace HB := nx HB bb
      clear bb
      go_wp2_with fail
      go_roundw
      case rel => exact ⟨k + 1, by omega, by go_num, by rw [HMX.out], by rw [HMY.out], VR, M, HB⟩
      case measure => simp only [intOf]; omega
    · skip
      obtain rfl : k = m := by omega
      have hlen := M.out.len
      have HK : (s.take k).take k = s.take k := by rw [List.take_take, Nat.min_self]
      rw [HK]
      clear HK hlen
      have HSB : Hid (boxB s k = s.drop k ++ [(sumM (·.1) (s.take k), 0), (0, sumM (·.2) (s.take k))]) := rfl
      generalize sumM (·.1) (s.take k) = X at *
      generalize sumM (·.2) (s.take k) = Y at *
      have VRa : OwnP (wr.alloc (.cells #[.int .i64 X, .int .i64 0, .int .i64 0, .int .i64 Y] 39)) w.heap.size (.slice (some ⟨g, 0, none⟩) s.length cap) s := VR.out.below (alB' _ _)
      have hszA : w.heap.size ≤ (wr.alloc (.cells #[.int .i64 X, .int .i64 0, .int .i64 0, .int .i64 Y] 39)).heap.size := by have := HB.out.size; simp; omega
      obtain ⟨A5, c5, w5, hr, pl5, bb5⟩ := run_app_off2 (wr.alloc (.cells #[.int .i64 X, .int .i64 0, .int .i64 0, .int .i64 Y] 39)) VRa hm2 (pl_2 (Bx.new wr _ _)) (by simp) (by omega) (by omega) hszA
      have HR := Lib.hid hr
      have HP5 := Lib.hid pl5
      have HB5 := Lib.hid ((HB.out.trans ((alB' wr _).mono HB.out.size)).trans bb5)
      clear hr pl5 bb5 VRa hszA
      have hkz : (k : Int) ≤ (s.length : Int) := by omega
      have hsc : (s.length : Int) ≤ (cap : Int) := by omega
      go_wp2_with (at_builtin; refine Lib.wpList_append_run _ rfl _ _ _ _ rfl _ _ rfl rfl _ _ (HR.out _) ?_)
      all_goals have HE : Hid (s.length - k + 2 = (boxB s k).length) := by unfold Hid; rw [HSB.out]; simp
      all_goals (try go_wp2)
      all_goals go_ret
      all_goals exact ⟨A5, c5, congrArg (fun t => Ending.returned (.slice A5 t c5)) HE.out, by rw [← HE.out, HSB.out]; exact HP5.out, HB5.out⟩
end Go.Proofs.Ytpjbkadhmjlpfaa
