/- The reference: divide. -/
import Derived.Test.YtldfamjlnphokaaGreatDoorRSubO
import Derived.Test.YtldfamjlnphokaaGreatDoorRNeg
import Derived.Test.YtldfamjlnphokaaGreatDoorMagn

set_option linter.unusedVariables false
set_option linter.unusedSimpArgs false

namespace Go.Proofs.YtldfamjlnphokaaGreatDoor
open Go Go.RowKit Num

/-- A step of the division by bits. -/
theorem bitdiv_lo {M D e : Nat} (h : 2 * (M % D) + e < D) : (2 * M + e) % D = 2 * (M % D) + e ∧ (2 * M + e) / D = 2 * (M / D) := by
  have h1 := Nat.div_add_mod M D
  have h2 : 2 * M + e = (2 * (M % D) + e) + D * (2 * (M / D)) := by
    have : D * (2 * (M / D)) = 2 * (D * (M / D)) := Nat.mul_left_comm _ _ _
    omega
  have h0 : 0 < D := by omega
  rw [h2]
  refine ⟨?_, ?_⟩
  · rw [Nat.add_mul_mod_self_left, Nat.mod_eq_of_lt h]
  · rw [Nat.add_mul_div_left _ _ h0, Nat.div_eq_of_lt h, Nat.zero_add]
theorem bitdiv_hi {M D e : Nat} (h0 : 0 < D) (he : e < 2) (h : D ≤ 2 * (M % D) + e) : (2 * M + e) % D = 2 * (M % D) + e - D ∧ (2 * M + e) / D = 2 * (M / D) + 1 := by
  have h1 := Nat.div_add_mod M D
  have h3 := Nat.mod_lt M h0
  have h2 : 2 * M + e = (2 * (M % D) + e - D) + D * (2 * (M / D) + 1) := by
    have : D * (2 * (M / D) + 1) = 2 * (D * (M / D)) + D := by rw [Nat.mul_add, Nat.mul_left_comm, Nat.mul_one]
    omega
  have h4 : 2 * (M % D) + e - D < D := by omega
  generalize hr : 2 * (M % D) + e - D = r at *
  rw [h2]
  refine ⟨?_, ?_⟩
  · rw [Nat.add_mul_mod_self_left, Nat.mod_eq_of_lt h4]
  · rw [Nat.add_mul_div_left _ _ h0, Nat.div_eq_of_lt h4, Nat.zero_add]
theorem half_bit (A k : Nat) : A / 2 ^ k = 2 * (A / 2 ^ (k + 1)) + A / 2 ^ k % 2 := by
  rw [Nat.pow_succ, ← Nat.div_div_eq_div_mul]; omega
/-- A number whose low bits are 0 has room in its word for the next bit. -/
theorem word_room {L : List Nat} (hL : ∀ x ∈ L, x < 4294967296) {c k : Nat} (h : val L = c * 2 ^ (k + 1)) : L.getD (k / 32) 0 + 2 ^ (k % 32) < 4294967296 := by
  have h1 : val (L.drop (k / 32)) = c * 2 ^ (k % 32 + 1) := by
    rw [val_drop_div hL, h, show (4294967296 : Nat) ^ (k / 32) = 2 ^ (32 * (k / 32)) from by rw [Nat.pow_mul], show k + 1 = 32 * (k / 32) + (k % 32 + 1) by omega, Nat.pow_add, Nat.mul_left_comm]
    exact Nat.mul_div_cancel_left _ (Nat.pow_pos (by omega))
  have hr : k % 32 < 32 := Nat.mod_lt _ (by omega)
  have hx := getD_lt hL (k / 32)
  generalize k % 32 = r at *
  generalize k / 32 = q at *
  have hp : (4294967296 : Nat) = 2 ^ (r + 1) * 2 ^ (31 - r) := by rw [← Nat.pow_add, show r + 1 + (31 - r) = 32 by omega]
  have h2 : L.getD q 0 = val (L.drop q) % 4294967296 := by
    rcases Nat.lt_or_ge q L.length with h | h
    · have e : L.drop q = L.getD q 0 :: L.drop (q + 1) := by rw [List.drop_eq_getElem_cons h]; simp [List.getD, h]
      rw [e, val, Nat.add_mul_mod_self_left, Nat.mod_eq_of_lt hx]
    · rw [List.drop_eq_nil_of_le h]; simp [val, List.getD, List.getElem?_eq_none h]
  have h3 : 2 ^ (r + 1) ∣ L.getD q 0 := by
    rw [h2, h1, hp, Nat.mul_comm c, Nat.mul_mod_mul_left]
    exact Nat.dvd_mul_right _ _
  obtain ⟨y, hy⟩ := h3
  rw [hy, hp] at hx
  have h4 : y < 2 ^ (31 - r) := Nat.lt_of_mul_lt_mul_left hx
  have h5 : 2 ^ (r + 1) * (y + 1) ≤ 2 ^ (r + 1) * 2 ^ (31 - r) := Nat.mul_le_mul_left _ h4
  have h6 : 0 < 2 ^ r := Nat.pow_pos (by omega)
  rw [hy]
  rw [← hp, Nat.mul_add, Nat.pow_succ] at h5
  rw [Nat.pow_succ]
  omega
/-- The new bit is set. -/
theorem val_bit {L : List Nat} {k : Nat} (hk : k / 32 < L.length) : val (L.set (k / 32) (L.getD (k / 32) 0 + 2 ^ (k % 32))) = val L + 2 ^ k := by
  have h := val_set L (k / 32) (L.getD (k / 32) 0 + 2 ^ (k % 32)) hk
  rw [Nat.mul_add] at h
  have e : 4294967296 ^ (k / 32) * 2 ^ (k % 32) = 2 ^ k := by
    rw [show (4294967296 : Nat) ^ (k / 32) = 2 ^ (32 * (k / 32)) from by rw [Nat.pow_mul], ← Nat.pow_add, Nat.div_add_mod]
  omega
/-- What holds at the head of divide's loop: the bits from k on are done. -/
structure RDivAt (g : Nat) (W0 wr : World) (A D n k : Nat) (v : Value) (L : List Nat) : Prop where
  own : Own wr g L
  len : L.length = n
  lt : ∀ x ∈ L, x < 4294967296
  quo : val L = A / 2 ^ k / D * 2 ^ k
  rem : ∃ B c, v = .slice B (digs (A / 2 ^ k % D)).length c ∧ U32 wr v (digs (A / 2 ^ k % D))
  below : Below W0.heap.size W0 wr
theorem RDivAt.lo {g : Nat} {W0 wr w2 : World} {A D n k : Nat} {v v2 : Value} {L : List Nat} (h : RDivAt g W0 wr A D n (k + 1) v L) (hlt : 2 * (A / 2 ^ (k + 1) % D) + A / 2 ^ k % 2 < D)
    (hv : ∃ B n' c, v2 = .slice B n' c) (hu : U32 w2 v2 (digs (2 * (A / 2 ^ (k + 1) % D) + A / 2 ^ k % 2))) (hb : Below wr.heap.size wr w2) : RDivAt g W0 w2 A D n k v2 L := by
  obtain ⟨h1, h2⟩ := bitdiv_lo hlt
  rw [← half_bit] at h1 h2
  refine ⟨h.own.below hb h.own.lt, h.len, h.lt, ?_, ?_, nextw h.below hb⟩
  · rw [h2, h.quo]
    generalize A / 2 ^ (k + 1) / D = c
    rw [Nat.pow_succ, Nat.mul_comm (2 ^ k) 2, ← Nat.mul_assoc, Nat.mul_comm c 2]
  · obtain ⟨B, n', c, rfl⟩ := hv
    rw [h1]
    obtain ⟨B', c', e, -⟩ := hu.form
    cases e
    exact ⟨B, c, rfl, hu⟩
theorem RDivAt.hi {g : Nat} {W0 wr w2 : World} {A D n k : Nat} {v v2 : Value} {L : List Nat} (h : RDivAt g W0 wr A D n (k + 1) v L) (h0 : 0 < D) (hlt : D ≤ 2 * (A / 2 ^ (k + 1) % D) + A / 2 ^ k % 2) (hk : k / 32 < n) (hg : W0.heap.size ≤ g)
    (hu : Owned wr w2 (2 * (A / 2 ^ (k + 1) % D) + A / 2 ^ k % 2 - D) v2) (hb : Below wr.heap.size wr w2) (hx : L.getD (k / 32) 0 + 2 ^ (k % 32) < 4294967296) :
    RDivAt g W0 (w2.setCell ⟨g, k / 32, none⟩ (.int .u32 ((L.getD (k / 32) 0 + 2 ^ (k % 32) : Nat) : Int))) A D n k v2 (L.set (k / 32) (L.getD (k / 32) 0 + 2 ^ (k % 32))) := by
  obtain ⟨h1, h2⟩ := bitdiv_hi h0 (Nat.mod_lt _ (by omega)) hlt
  rw [← half_bit] at h1 h2
  have ho := h.own.below hb h.own.lt
  refine ⟨ho.set _ _, by rw [List.length_set, h.len], mem_set_lt h.lt hx, ?_, ?_, (nextw h.below hb).setCell hg _⟩
  · rw [val_bit (by rw [h.len]; exact hk), h2, h.quo]
    generalize A / 2 ^ (k + 1) / D = c
    rw [Nat.pow_succ, Nat.mul_comm (2 ^ k) 2, ← Nat.mul_assoc, Nat.mul_comm c 2, Nat.add_mul, Nat.one_mul]
  · rw [h1]
    obtain ⟨B, c, e, hm⟩ := (hu.store (a := ⟨g, k / 32, none⟩) h.own.lt (.int .u32 ((L.getD (k / 32) 0 + 2 ^ (k % 32) : Nat) : Int))).mag
    exact ⟨B, c, e, hm⟩
theorem RDivAt.start (w : World) (A D n : Nat) (hA : A < 2 ^ (32 * n)) : RDivAt w.heap.size w (w.alloc (.cells (ws (List.replicate n 0)).toArray 49)) A D n (32 * n) (.slice none 0 0) (List.replicate n 0) := by
  have hz : ∀ n, val (List.replicate n 0) = 0 := by
    intro n; induction n with
    | zero => rfl
    | succ n ih => rw [List.replicate_succ, val, ih]
  have h0 : A / 2 ^ (32 * n) = 0 := Nat.div_eq_of_lt hA
  refine ⟨Own.new w _, by simp, by intro x hx; rw [List.mem_replicate] at hx; omega, by rw [hz, h0]; simp, ?_, (Below.refl _ _).alloc (Nat.le_refl _) _⟩
  rw [h0, Nat.zero_mod, digs_zero]
  exact ⟨none, 0, rfl, U32.nil none (Nat.zero_le _)⟩

theorem RDivAt.drewN {g : Nat} {W0 wr : World} {A D n k : Nat} {v : Value} {L : List Nat} (h : RDivAt g W0 wr A D n k v L) (m : Nat) : RDivAt g W0 (wr.drewN m) A D n k v L := by
  obtain ⟨B, c, e, hu⟩ := h.rem
  exact ⟨h.own.drewN m, h.len, h.lt, h.quo, ⟨B, c, e, hu.drewN m⟩, bel_drewN h.below m⟩
theorem digs_1 : digs 1 = [1] := digs_one (by omega) (by omega)
theorem Below.rest {w w' : World} (h : w = w') : Below w.heap.size w w' := by subst h; exact Below.refl _ _
theorem rem_len {A D M : Nat} (h0 : 0 < D) {n : Nat} (hn : (digs D).length ≤ n) : (digs (M % D)).length ≤ n := Nat.le_trans (length_mono (Nat.le_of_lt (Nat.mod_lt _ h0))) hn
theorem rem_len2 {R e D n : Nat} (hR : R < D) (he : e < 2) (hn : (digs D).length ≤ n) : (digs (2 * R + e)).length ≤ n + 1 := by
  have h1 : D < 4294967296 ^ n := Nat.lt_of_lt_of_le (lt_pow_length D) (Nat.pow_le_pow_right (by omega) hn)
  refine digs_length_le ?_
  rw [Nat.pow_succ]; omega

set_option maxRecDepth 100000 in
set_option maxHeartbeats 4000000 in
theorem rdivide_any (v1 v2 : Value) (l1 : List Nat) (D : Nat) (w : World) (h1 : U32 w v1 l1) (h2 : U32 w v2 (digs D)) (h0 : 0 < D) (f1 : l1.length ≤ 100000) (f2 : (digs D).length ≤ 100000) :
    Calls Tryz.prog 125 #[v1, v2] w fun e w' => ∃ A1 k1 c1 A2 k2 c2, e = .returned (.tuple #[.slice A1 k1 c1, .slice A2 k2 c2]) ∧ U32 w' (.slice A1 k1 c1) (digs (val l1 / D)) ∧ U32 w' (.slice A2 k2 c2) (digs (val l1 % D)) ∧ Below w.heap.size w w' := by
  obtain ⟨A1, cap1, rfl, hc1, hm1, hf1⟩ := id h1.form
  obtain ⟨A2, cap2, rfl, hc2, hm2, hf2⟩ := id h2.form
  have HU1 := Lib.hid h1
  have HU2 := Lib.hid h2
  have HF := Lib.hid f2
  have HD := Lib.hid h0
  have hA : val l1 < 2 ^ (32 * l1.length) := by
    have := val_lt h1.lt
    rwa [Nat.pow_mul]
  have HST := Lib.hid (RDivAt.start w (val l1) D l1.length hA)
  have hmk := make_u32 (x := (l1.length : Int)) l1.length (by omega) (by omega)
  obtain ⟨N, hN⟩ : ∃ N, val l1 = N := ⟨_, rfl⟩
  have HN := Lib.hid hN
  rw [hN] at HST ⊢
  clear h1 h2 f2 h0 hf1 hf2 hm1 hm2 hc1 hc2 hA hN
  go_enter Tryz.func125, Tryz.ntmps125
  go_wp2_with fail
  clear hmk
  go_loopw [7, 8] (fun r i wr => ∃ (k : Nat) (L : List Nat), k ≤ 32 * l1.length ∧ i = .int .i64 ((k : Int) - 1) ∧ RDivAt w.heap.size w wr N D l1.length k r L) (fun _ i _ => (RowKit.intOf i + 1).toNat)
  case atStart => exact ⟨32 * l1.length, _, Nat.le_refl _, by go_num, HST.out⟩
  case round =>
    clear HST
    obtain ⟨k, L, hk, rfl, hs⟩ := hrel
    have HS := Lib.hid hs
    obtain ⟨Br, cr, rfl, hr⟩ := hs.rem
    have HR := Lib.hid hr
    have HB := Lib.hid hs.below
    clear hs hr
    rcases k with _ | j
    · have hi : (((0 : Nat) : Int) - 1) = -1 := rfl
      rw [hi]
      have HL := Lib.hid HS.out.len
      have hq : val L = N / D := by have := HS.out.quo; rw [Nat.pow_zero, Nat.div_one, Nat.mul_one] at this; exact this
      have hu := HS.out.own.u32 HS.out.lt (by rw [HL.out]; simp only [maxLen]; omega)
      have HU := Lib.hid hu
      have HQ := Lib.hid hq
      rw [HL.out] at HU
      rw [Nat.pow_zero, Nat.div_one] at HR ⊢
      clear HS hi hu hq
      have hlen : L.length ≤ 1000000 := by have := HL.out; omega
      go_wp2_with fail
      refine (rtrim_any _ L _ HU.out hlen).mono ?_
      rintro e w1 ⟨Am, cm, rfl, hm, bb⟩
      have HM := Lib.hid hm
      have HRR := Lib.hid (HR.out.below bb)
      have HBB := Lib.hid (nextw HB.out bb)
      clear bb hm
      go_wp2
      go_returns
      exact ⟨_, _, _, _, _, _, rfl, by rw [← HQ.out]; exact HM.out, HRR.out, HBB.out⟩
    · have hi : (((j + 1 : Nat) : Int) - 1) = (j : Int) := by omega
      rw [hi]
      clear hi
      have hR := Nat.mod_lt (N / 2 ^ (j + 1)) HD.out
      obtain ⟨R, hRe⟩ : ∃ R, N / 2 ^ (j + 1) % D = R := ⟨_, rfl⟩
      have HRE := Lib.hid hRe
      rw [hRe] at hR HR ⊢
      have HRD := Lib.hid hR
      have hl0 := rem_len2 (e := 0) hR (by omega) HF.out
      rw [Nat.add_zero] at hl0
      have hl1 := length_mono (Nat.le_of_lt hR)
      have hlD := HF.out
      have HLN := Lib.hid (And.intro hl0 hl1)
      clear hRe hR hl0 hl1
      go_wp2_with fail
      refine (radd_mag HR.out HR.out (by have := HLN.out; omega) (by have := HLN.out; omega)).mono ?_
      rintro e w1 ⟨B1, n1, c1, rfl, hu, bb⟩
      rw [show R + R = 2 * R by omega] at hu
      have HT := Lib.hid hu
      have HB1 := Lib.hid bb
      clear hu bb
      have hbit : N / 2 ^ j % 2 = 0 ∨ N / 2 ^ j % 2 = 1 := by omega
      rcases hbit with hbit | hbit
      · have HBT := Lib.hid hbit
        clear hbit
        have hb0 : ((N / 2 ^ j % 2 : Nat) : Int) = 0 := by have := HBT.out; omega
        go_wp2_with fail
        refine (rbit_at (HU1.out.below (nextw HB.out HB1.out)) HN.out (by omega) (by omega) hb0 rfl).mono ?_
        rintro e w2 ⟨rfl, rfl⟩
        clear hb0
        by_cases hlt : 2 * R < D
        · have HN2 := Lib.hid (fun w2 (h : Below w1.heap.size w1 w2) => RDivAt.lo HS.out (by rw [HRE.out, HBT.out]; exact hlt) ⟨_, _, _, rfl⟩ (by rw [HRE.out, HBT.out]; exact HT.out.below h) (nextw HB1.out h))
          have hlc : (digs (2 * R)).length ≤ _ := rem_len2 (e := 0) HRD.out (by omega) HF.out
          have HLC := Lib.hid hlc
          clear hlc HS
          go_wp2_with fail
          refine (rcmp_lt HT.out (HU2.out.below (nextw HB.out HB1.out)) (by have := HLC.out; omega) (by omega) hlt).mono ?_
          rintro e w9 ⟨rfl, bb⟩
          have HX := Lib.hid (HN2.out w9 bb)
          clear bb hlt
          go_wp2_with fail
          go_roundw
          case rel => exact ⟨j, L, by omega, by go_num, HX.out⟩
          case measure => simp only [RowKit.intOf]; omega
        · have hge : D ≤ 2 * R := by omega
          have hlc : (digs (2 * R)).length ≤ _ := rem_len2 (e := 0) HRD.out (by omega) HF.out
          have HLC := Lib.hid hlc
          clear hlc hlt
          go_wp2_with fail
          refine (rcmp_ge HT.out (HU2.out.below (nextw HB.out HB1.out)) (by have := HLC.out; omega) (by omega) hge).mono ?_
          rintro e w8 ⟨cc, hcc, rfl, bb⟩
          replace HT := Lib.hid (HT.out.below bb)
          replace HB1 := Lib.hid (nextw HB1.out bb)
          clear bb
          go_wp2_with fail
          refine (rsub_own _ _ _ _ _ HT.out (HU2.out.below (nextw HB.out HB1.out)) (by have := HLC.out; omega) (length_mono hge) (by rw [val_digs, val_digs]; exact hge)).mono ?_
          rintro e w9 ⟨v9, rfl, ho, bb⟩
          rw [val_digs, val_digs] at ho
          obtain ⟨B9, c9, rfl, -⟩ := ho.mag
          have ho2 := ho.base HB1.out.size
          have hj : j / 32 < l1.length := by omega
          have hrm := word_room HS.out.lt HS.out.quo
          have HN2 := Lib.hid (RDivAt.hi HS.out HD.out (by rw [HRE.out, HBT.out]; exact hge) hj (Nat.le_refl _) (by rw [HRE.out, HBT.out]; exact ho2) (nextw HB1.out bb) hrm)
          have how := HS.out.own.below (nextw HB1.out bb) HS.out.own.lt
          have hcl := how.cell (i := j / 32) (by rw [HS.out.len]; exact hj)
          have hfz := how.frozen (j / 32)
          clear ho ho2 bb HS how hge
          generalize L.getD (j / 32) 0 = x at *
          obtain ⟨p, hp⟩ : ∃ p, 2 ^ (j % 32) = p := ⟨_, rfl⟩
          rw [hp] at HN2 hrm
          have hp1 : 0 < p := by rw [← hp]; exact Nat.pow_pos (by omega)
          have hpI : (2 : Int) ^ (j % 32) = (p : Int) := by rw [← hp, Int.natCast_pow]; rfl
          have HP := Lib.hid hp
          clear hp
          go_wp2_with fail
          go_roundw
          case rel => exact ⟨j, _, by omega, by go_num, HN2.out⟩
          case measure => simp only [RowKit.intOf]; omega
      · have HBT := Lib.hid hbit
        clear hbit
        have hb0 : ((N / 2 ^ j % 2 : Nat) : Int) = 1 := by have := HBT.out; omega
        go_wp2_with fail
        refine (rbit_at (HU1.out.below (nextw HB.out HB1.out)) HN.out (by omega) (by omega) hb0 rfl).mono ?_
        rintro e w2 ⟨rfl, rfl⟩
        clear hb0
        go_wp2_with fail
        have hal : Below w1.heap.size w1 (w1.alloc (.cells #[.int .u32 1] 49)) := (Below.refl _ _).alloc (Nat.le_refl _) _
        have hlit : U32 (w1.alloc (.cells #[.int .u32 1] 49)) (.slice (some ⟨w1.heap.size, 0, none⟩) 1 1) (digs 1) := by
          rw [digs_1]
          exact U32.lit w1 [1] _ _ (by simp) (by simp only [maxLen]; simp) rfl
        refine (radd_mag (HT.out.below hal) hlit (by have := HLN.out; omega) (by rw [digs_1]; simp)).mono ?_
        rintro e w3 ⟨B3, n3, c3, rfl, hu, bb⟩
        replace HT := Lib.hid hu
        replace HB1 := Lib.hid (nextw HB1.out (nextw hal bb))
        clear hu bb hal hlit
        by_cases hlt : 2 * R + 1 < D
        · have HN2 := Lib.hid (fun w2 (h : Below w3.heap.size w3 w2) => RDivAt.lo HS.out (by rw [HRE.out, HBT.out]; exact hlt) ⟨_, _, _, rfl⟩ (by rw [HRE.out, HBT.out]; exact HT.out.below h) (nextw HB1.out h))
          have hlc : (digs (2 * R + 1)).length ≤ _ := rem_len2 (e := 1) HRD.out (by omega) HF.out
          have HLC := Lib.hid hlc
          clear hlc HS
          go_wp2_with fail
          refine (rcmp_lt HT.out (HU2.out.below (nextw HB.out HB1.out)) (by have := HLC.out; omega) (by omega) hlt).mono ?_
          rintro e w9 ⟨rfl, bb⟩
          have HX := Lib.hid (HN2.out w9 bb)
          clear bb hlt
          go_wp2_with fail
          go_roundw
          case rel => exact ⟨j, L, by omega, by go_num, HX.out⟩
          case measure => simp only [RowKit.intOf]; omega
        · have hge : D ≤ 2 * R + 1 := by omega
          have hlc : (digs (2 * R + 1)).length ≤ _ := rem_len2 (e := 1) HRD.out (by omega) HF.out
          have HLC := Lib.hid hlc
          clear hlc hlt
          go_wp2_with fail
          refine (rcmp_ge HT.out (HU2.out.below (nextw HB.out HB1.out)) (by have := HLC.out; omega) (by omega) hge).mono ?_
          rintro e w8 ⟨cc, hcc, rfl, bb⟩
          replace HT := Lib.hid (HT.out.below bb)
          replace HB1 := Lib.hid (nextw HB1.out bb)
          clear bb
          go_wp2_with fail
          refine (rsub_own _ _ _ _ _ HT.out (HU2.out.below (nextw HB.out HB1.out)) (by have := HLC.out; omega) (length_mono hge) (by rw [val_digs, val_digs]; exact hge)).mono ?_
          rintro e w9 ⟨v9, rfl, ho, bb⟩
          rw [val_digs, val_digs] at ho
          obtain ⟨B9, c9, rfl, -⟩ := ho.mag
          have ho2 := ho.base HB1.out.size
          have hj : j / 32 < l1.length := by omega
          have hrm := word_room HS.out.lt HS.out.quo
          have HN2 := Lib.hid (RDivAt.hi HS.out HD.out (by rw [HRE.out, HBT.out]; exact hge) hj (Nat.le_refl _) (by rw [HRE.out, HBT.out]; exact ho2) (nextw HB1.out bb) hrm)
          have how := HS.out.own.below (nextw HB1.out bb) HS.out.own.lt
          have hcl := how.cell (i := j / 32) (by rw [HS.out.len]; exact hj)
          have hfz := how.frozen (j / 32)
          clear ho ho2 bb HS how hge
          generalize L.getD (j / 32) 0 = x at *
          obtain ⟨p, hp⟩ : ∃ p, 2 ^ (j % 32) = p := ⟨_, rfl⟩
          rw [hp] at HN2 hrm
          have hp1 : 0 < p := by rw [← hp]; exact Nat.pow_pos (by omega)
          have hpI : (2 : Int) ^ (j % 32) = (p : Int) := by rw [← hp, Int.natCast_pow]; rfl
          have HP := Lib.hid hp
          clear hp
          go_wp2_with fail
          go_roundw
          case rel => exact ⟨j, _, by omega, by go_num, HN2.out⟩
          case measure => simp only [RowKit.intOf]; omega
end Go.Proofs.YtldfamjlnphokaaGreatDoor
