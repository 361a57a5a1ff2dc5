/- The reference: Mul. -/
import Derived.Test.YtldfamjlnphokaaGreatDoorRefB
import Derived.Test.YtldfamjlnphokaaGreatDoorMagn

set_option linter.unusedVariables false
set_option linter.unusedSimpArgs false

namespace Go.Proofs.YtldfamjlnphokaaGreatDoor
open Go Go.RowKit Num

/-- What holds at the head of Mul's outer loop. -/
structure RMulAt (g : Nat) (W0 wr : World) (l1 l2 : List Nat) (i : Nat) (L : List Nat) : Prop where
  own : Own wr g L
  len : L.length = l1.length + l2.length + 1
  lt : ∀ x ∈ L, x < 4294967296
  zero : ∀ t, i + l2.length ≤ t → L.getD t 0 = 0
  eq : val L = val (l1.take i) * val l2
  below : Below W0.heap.size W0 wr
/-- .. and of the inner one. -/
structure RMulIn (g : Nat) (W0 wr : World) (l1 l2 : List Nat) (i j c : Nat) (L : List Nat) : Prop where
  own : Own wr g L
  len : L.length = l1.length + l2.length + 1
  lt : ∀ x ∈ L, x < 4294967296
  zero : ∀ t, i + l2.length ≤ t → L.getD t 0 = 0
  carry : c < 4294967296
  eq : val L + 4294967296 ^ (i + j) * c = val (l1.take i) * val l2 + 4294967296 ^ i * (l1.getD i 0 * val (l2.take j))
  below : Below W0.heap.size W0 wr
/-- The inner loop: words of the second number are left, or a last carry, or nothing. -/
def RMulMid (g : Nat) (W0 wr : World) (l1 l2 : List Nat) (i j c : Nat) (L : List Nat) : Prop :=
  (j ≤ l2.length ∧ RMulIn g W0 wr l1 l2 i j c L) ∨ (j = l2.length + 1 ∧ c = 0 ∧ RMulAt g W0 wr l1 l2 (i + 1) L)

theorem RMulAt.start (w : World) (l1 l2 : List Nat) : RMulAt w.heap.size w (w.alloc (.cells (ws (List.replicate (l1.length + l2.length + 1) 0)).toArray 49)) l1 l2 0 (List.replicate (l1.length + l2.length + 1) 0) := by
  have hz : ∀ n, val (List.replicate n 0) = 0 := by
    intro n; induction n with
    | zero => rfl
    | succ n ih => rw [List.replicate_succ, val, ih]
  refine ⟨Own.new w _, by simp, by intro x hx; rw [List.mem_replicate] at hx; omega, fun t _ => ?_, by rw [hz]; simp [val], (Below.refl _ _).alloc (Nat.le_refl _) _⟩
  simp only [List.getD_eq_getElem?_getD, List.getElem?_replicate]
  split <;> rfl
theorem RMulAt.inner {g : Nat} {W0 wr : World} {l1 l2 : List Nat} {i : Nat} {L : List Nat} (h : RMulAt g W0 wr l1 l2 i L) : RMulMid g W0 wr l1 l2 i 0 0 L :=
  Or.inl ⟨Nat.zero_le _, h.own, h.len, h.lt, h.zero, by omega, by rw [h.eq]; simp [val], h.below⟩
theorem RMulIn.step {g : Nat} {W0 wr : World} {l1 l2 : List Nat} {i j c : Nat} {L : List Nat} (h : RMulIn g W0 wr l1 l2 i j c L) (hi : i < l1.length) (hj : j < l2.length) (h1 : ∀ x ∈ l1, x < 4294967296) (h2 : ∀ x ∈ l2, x < 4294967296) (hg : W0.heap.size ≤ g) {s : Nat} (hs : c + (l1.getD i 0 * l2.getD j 0 + L.getD (i + j) 0) = s) :
    RMulMid g W0 (wr.setCell ⟨g, i + j, none⟩ (.int .u32 ((s % 4294967296 : Nat) : Int))) l1 l2 i (j + 1) (s / 4294967296) (L.set (i + j) (s % 4294967296)) := by
  obtain ⟨_, hb⟩ := mul_bound h.carry (getD_lt h1 i) (getD_lt h2 j) (getD_lt h.lt (i + j))
  have hlen := h.len
  have hv := val_set L (i + j) (s % 4294967296) (by omega)
  have he := h.eq
  refine Or.inl ⟨hj, h.own.set _ _, by rw [List.length_set, h.len], mem_set_lt h.lt (by omega), fun t ht => by rw [getD_set_ne L (by omega)]; exact h.zero t ht, by omega, ?_, h.below.setCell hg _⟩
  rw [val_take_succ, Nat.mul_add, Nat.mul_add]
  have e1 : 4294967296 ^ i * (l1.getD i 0 * (4294967296 ^ j * l2.getD j 0)) = 4294967296 ^ (i + j) * (l1.getD i 0 * l2.getD j 0) := by
    rw [Nat.pow_add, Nat.mul_left_comm (l1.getD i 0), ← Nat.mul_assoc, ← Nat.mul_assoc]
  rw [e1, show i + (j + 1) = (i + j) + 1 from rfl, Nat.pow_succ]
  subst hs
  generalize l1.getD i 0 * l2.getD j 0 = m at *
  generalize L.getD (i + j) 0 = o at *
  generalize 4294967296 ^ (i + j) = P at *
  have e2 : P * ((c + (m + o)) % 4294967296) + P * 4294967296 * ((c + (m + o)) / 4294967296) = P * c + P * m + P * o := by
    rw [Nat.mul_assoc, ← Nat.mul_add, Nat.mod_add_div, Nat.mul_add, Nat.mul_add, Nat.add_assoc]
  omega
theorem RMulIn.last {g : Nat} {W0 wr : World} {l1 l2 : List Nat} {i c : Nat} {L : List Nat} (h : RMulIn g W0 wr l1 l2 i l2.length c L) (hi : i < l1.length) (hg : W0.heap.size ≤ g) :
    RMulMid g W0 (wr.setCell ⟨g, i + l2.length, none⟩ (.int .u32 (c : Int))) l1 l2 i (l2.length + 1) 0 (L.set (i + l2.length) c) := by
  have hlen := h.len
  have hs := val_set L (i + l2.length) c (by omega)
  rw [h.zero _ (Nat.le_refl _), Nat.mul_zero, Nat.add_zero] at hs
  have he := h.eq
  rw [List.take_length] at he
  refine Or.inr ⟨rfl, rfl, h.own.set _ _, by rw [List.length_set, h.len], mem_set_lt h.lt h.carry, fun t ht => by rw [getD_set_ne L (by omega)]; exact h.zero t (by omega), ?_, h.below.setCell hg _⟩
  rw [hs, he, val_take_succ, Nat.add_mul, Nat.mul_assoc]
/-- No carry at the end of the second number. -/
theorem RMulIn.none {g : Nat} {W0 wr : World} {l1 l2 : List Nat} {i : Nat} {L : List Nat} (h : RMulIn g W0 wr l1 l2 i l2.length 0 L) : RMulAt g W0 wr l1 l2 (i + 1) L := by
  have he := h.eq
  rw [List.take_length, Nat.mul_zero, Nat.add_zero] at he
  refine ⟨h.own, h.len, h.lt, fun t ht => h.zero t (by omega), ?_, h.below⟩
  rw [he, val_take_succ, Nat.add_mul, Nat.mul_assoc]
theorem mul_ival (s1 s2 : Bool) (l1 l2 : List Nat) {L : List Nat} (h : val L = val l1 * val l2) : ival (s1 != s2) L = ival s1 l1 * ival s2 l2 := by
  unfold ival
  rw [h]
  cases s1 <;> cases s2 <;> simp [Int.natCast_mul, Int.neg_mul, Int.mul_neg]
theorem RMulIn.drewN {g : Nat} {W0 wr : World} {l1 l2 : List Nat} {i j c : Nat} {L : List Nat} (h : RMulIn g W0 wr l1 l2 i j c L) (n : Nat) : RMulIn g W0 (wr.drewN n) l1 l2 i j c L :=
  ⟨h.own.drewN n, h.len, h.lt, h.zero, h.carry, h.eq, bel_drewN h.below n⟩

set_option maxRecDepth 100000 in
set_option maxHeartbeats 4000000 in
theorem RMul_rd {v1 v2 : Value} {z1 z2 : Int} {n1 n2 : Nat} {w : World} (h1 : Rd w v1 z1 n1) (h2 : Rd w v2 z2 n2) (f1 : n1 ≤ 20000) (f2 : n2 ≤ 20000) :
    Calls Tryz.prog 62 #[v1, v2] w fun e w' => ∃ v, e = .returned v ∧ Rc w' v (z1 * z2) (n1 + n2) ∧ Below w.heap.size w w' := by
  obtain ⟨s1, A1, k1, c1, rfl, -⟩ := h1.shape
  obtain ⟨s2, A2, k2, c2, rfl, -⟩ := h2.shape
  obtain ⟨l1, u1, i1, e1⟩ := Rd.u32 h1
  obtain ⟨l2, u2, i2, e2⟩ := Rd.u32 h2
  obtain ⟨B1, cap1, q1, -, hm1, hf1⟩ := id u1.form
  obtain ⟨B2, cap2, q2, -, hm2, hf2⟩ := id u2.form
  cases q1
  cases q2
  have HN1 := Lib.hid e1
  have HN2 := Lib.hid e2
  have HL := Lib.hid (And.intro u1.lt u2.lt)
  have HI1 := Lib.hid i1
  have HI2 := Lib.hid i2
  have HF1 := Lib.hid hf1
  have HF2 := Lib.hid hf2
  have ha1 := h1.abs
  have ha2 := h2.abs
  have HA := Lib.hid (And.intro ha1 ha2)
  have hl1 : l1.length ≤ 50000 := by omega
  have hl2 : l2.length ≤ 50000 := by omega
  clear h1 h2 u1 u2 i1 i2 hf1 hf2 hm1 hm2 ha1 ha2 e1 e2
  have hb0 : Below w.heap.size w (((w.alloc (.cells #[.bool s1, (.slice A1 l1.length c1)] 24)).alloc (.cells #[.bool s2, (.slice A2 l2.length c2)] 24)).alloc (.cells #[.bool false, (.slice none 0 0)] 24)) := (Below.alloc (Below.alloc (Below.alloc (Below.refl w.heap.size w) (by simp <;> omega) _) (by simp <;> omega) _) (by simp <;> omega) _)
  have B_x : Box (((w.alloc (.cells #[.bool s1, (.slice A1 l1.length c1)] 24)).alloc (.cells #[.bool s2, (.slice A2 l2.length c2)] 24)).alloc (.cells #[.bool false, (.slice none 0 0)] 24)) (w.heap.size) s1 (.slice A1 l1.length c1) := by have h := Box.alloc (Box.alloc (Box.new w s1 (.slice A1 l1.length c1)) (.cells #[.bool s2, (.slice A2 l2.length c2)] 24)) (.cells #[.bool false, (.slice none 0 0)] 24); simpa using h
  replace B_x := Lib.hid B_x
  have B_y : Box (((w.alloc (.cells #[.bool s1, (.slice A1 l1.length c1)] 24)).alloc (.cells #[.bool s2, (.slice A2 l2.length c2)] 24)).alloc (.cells #[.bool false, (.slice none 0 0)] 24)) (w.heap.size + 1) s2 (.slice A2 l2.length c2) := by have h := Box.alloc (Box.new (w.alloc (.cells #[.bool s1, (.slice A1 l1.length c1)] 24)) s2 (.slice A2 l2.length c2)) (.cells #[.bool false, (.slice none 0 0)] 24); simpa using h
  replace B_y := Lib.hid B_y
  have B_r : Box (((w.alloc (.cells #[.bool s1, (.slice A1 l1.length c1)] 24)).alloc (.cells #[.bool s2, (.slice A2 l2.length c2)] 24)).alloc (.cells #[.bool false, (.slice none 0 0)] 24)) (w.heap.size + 2) false (.slice none 0 0) := by have h := Box.new ((w.alloc (.cells #[.bool s1, (.slice A1 l1.length c1)] 24)).alloc (.cells #[.bool s2, (.slice A2 l2.length c2)] 24)) false (.slice none 0 0); simpa using h
  replace B_r := Lib.hid B_r
  have HB := Lib.hid hb0
  clear hb0
  have c0x := B_x.out.c0
  have c1x := B_x.out.c1
  have c0y := B_y.out.c0
  have c1y := B_y.out.c1
  have c0r := B_r.out.c0
  have c1r := B_r.out.c1
  have hmk := make_u32 (x := (l1.length : Int) + (l2.length : Int) + 1) (l1.length + l2.length + 1) (by omega) (by omega)
  have HSZ : Hid ((((w.alloc (.cells #[.bool s1, (.slice A1 l1.length c1)] 24)).alloc (.cells #[.bool s2, (.slice A2 l2.length c2)] 24)).alloc (.cells #[.bool false, (.slice none 0 0)] 24)).heap.size = w.heap.size + 1 + 1 + 1) := by unfold Hid; simp
  go_enter Tryz.func62, Tryz.ntmps62
  go_wp2_with fail
  clear c0x c1x c0y c1y c0r c1r
  generalize ((w.alloc (.cells #[.bool s1, (.slice A1 l1.length c1)] 24)).alloc (.cells #[.bool s2, (.slice A2 l2.length c2)] 24)).alloc (.cells #[.bool false, (.slice none 0 0)] 24) = W0 at *
  have HST := Lib.hid (RMulAt.start W0 l1 l2)
  have HZ := Lib.hid B_r.out.lt
  clear hmk
  obtain ⟨g, hg⟩ : ∃ g, w.heap.size + 1 + 1 + 1 = g := ⟨_, rfl⟩
  have HG : Hid (W0.heap.size ≤ g) := by have := HSZ.out; unfold Hid; omega
  rw [HSZ.out] at HST
  rw [hg] at HST ⊢
  clear hg HSZ
  go_loopw [6, 7, 8, 9] (fun i _ _ _ wr => ∃ (p : Nat) (L : List Nat), p ≤ l1.length ∧ i = .int .i64 p ∧ RMulAt g W0 wr l1 l2 p L) (fun i _ _ _ _ => l1.length - (RowKit.intOf i).toNat)
  case atStart => exact ⟨0, _, Nat.zero_le _, rfl, HST.out⟩
  case round =>
    clear HST
    obtain ⟨p, L, hp, rfl, hs⟩ := hrel
    have BX := Lib.hid (Box.below B_x.out hs.below B_x.out.lt)
    have c0x := BX.out.c0
    have c1x := BX.out.c1
    by_cases hp1 : p < l1.length
    · have HIN := Lib.hid hs.inner
      clear hs
      go_wp2_with fail
      clear c0x c1x BX
      go_loopw [7, 8, 9] (fun cy kk _ wq => ∃ (j c : Nat) (L' : List Nat), cy = .int .u64 c ∧ kk = .int .i64 j ∧ RMulMid g W0 wq l1 l2 p j c L') (fun _ kk _ _ => l2.length + 1 - (RowKit.intOf kk).toNat)
      case atStart => exact ⟨0, 0, L, rfl, rfl, HIN.out⟩
      case round =>
        clear HIN
        obtain ⟨j, c, L', rfl, rfl, hs⟩ := hrel
        rcases hs with ⟨hj, hs⟩ | ⟨rfl, rfl, hs⟩
        · have HS := Lib.hid hs
          have BX := Lib.hid (Box.below B_x.out hs.below B_x.out.lt)
          have BY := Lib.hid (Box.below B_y.out hs.below B_y.out.lt)
          have hcy := hs.carry
          have hlen := hs.len
          have hbw := nextw HB.out hs.below
          have hc0 := hs.own.cell (i := p + j) (by omega)
          have hfz := hs.own.frozen (p + j)
          have hL0 := getD_lt hs.lt (p + j)
          have HL0 := Lib.hid hL0
          clear hs hL0
          by_cases hj1 : j < l2.length
          · obtain ⟨b1, o1, rfl, hb1, hcell1⟩ := HF1.out (by intro h; rw [h] at hp1; simp at hp1)
            have hx := (hbw.cell (p := ⟨b1, o1 + p, none⟩) hb1).trans (hcell1 p hp1)
            obtain ⟨b2, o2, rfl, hb2, hcell2⟩ := HF2.out (by intro h; rw [h] at hj1; simp at hj1)
            have hy := (hbw.cell (p := ⟨b2, o2 + j, none⟩) hb2).trans (hcell2 j hj1)
            have a1 := getD_lt HL.out.1 p
            have a2 := getD_lt HL.out.2 j
            have a3 := HL0.out
            have hbd := mul_bound hcy a1 a2 a3
            obtain ⟨s, hse⟩ : ∃ s, c + (l1.getD p 0 * l2.getD j 0 + L'.getD (p + j) 0) = s := ⟨_, rfl⟩
            have HN := Lib.hid (fun n => RMulIn.step (HS.out.drewN n) hp1 hj1 HL.out.1 HL.out.2 HG.out hse)
            have c0x := BX.out.c0
            have c1x := BX.out.c1
            have c0y := BY.out.c0
            have c1y := BY.out.c1
            clear hcell1 hcell2 HF1 HF2 HS hbw
            generalize l1.getD p 0 = x at *
            generalize l2.getD j 0 = y at *
            generalize L'.getD (p + j) 0 = o at *
            obtain ⟨m, hm⟩ : ∃ m : Nat, x * y = m := ⟨_, rfl⟩
            obtain ⟨t, ht⟩ : ∃ t : Nat, o + c = t := ⟨_, rfl⟩
            rw [hm] at hbd hse
            have h64 : s < 18446744073709551616 := by omega
            have hmI : IntKind.u64.wrap ((x : Int) * (y : Int)) = (m : Int) := by
              rw [← Int.natCast_mul, hm]; exact IntWalk.u64_in _ (by omega)
            have htI : (o : Int) + (c : Int) = (t : Int) := by omega
            have hsI : IntKind.u64.wrap ((t : Int) + (m : Int)) = (s : Int) := by
              rw [IntWalk.u64_in ((t : Int) + (m : Int)) (by omega)]; omega
            have ht64 : t < 18446744073709551616 := by omega
            have hpjI : ((p : Int) + (j : Int)).toNat = p + j := by omega
            have hpl : p + j < l1.length + l2.length + 1 := by omega
            clear hbd hse ht hm
            go_wp2_with fail
            go_quiet (fail)
            go_wp2_with fail
            go_roundw
            case rel => exact ⟨j + 1, s / 4294967296, _, by go_num, by go_num, HN.out _⟩
            case measure => simp only [RowKit.intOf]; omega
          · obtain rfl : j = l2.length := by omega
            by_cases h0 : c = 0
            · subst h0
              have HN := Lib.hid (RMulIn.none HS.out)
              have c0y := BY.out.c0
              have c1y := BY.out.c1
              clear HS hc0 hfz hbw
              go_wp2_with fail
              go_roundw
              case rel => exact ⟨p + 1, _, by omega, by go_num, HN.out⟩
              case measure => simp only [RowKit.intOf]; omega
            · have hc1 : (0 : Int) < (c : Int) := by omega
              have HN := Lib.hid (RMulIn.last HS.out hp1 HG.out)
              have e0 : L'.getD (p + l2.length) 0 = 0 := HS.out.zero _ (Nat.le_refl _)
              rw [e0] at hc0
              have c0y := BY.out.c0
              have c1y := BY.out.c1
              have hpl : p + l2.length < l1.length + l2.length + 1 := by omega
              clear HS hbw e0 h0
              go_wp2_with fail
              go_roundw
              case rel => exact ⟨l2.length + 1, 0, _, by go_num, by go_num, HN.out⟩
              case measure => simp only [RowKit.intOf]; omega
        · have HN := Lib.hid hs
          have BY := Lib.hid (Box.below B_y.out hs.below B_y.out.lt)
          have c0y := BY.out.c0
          have c1y := BY.out.c1
          have hnj : ¬ l2.length + 1 < l2.length := by omega
          clear hs
          go_wp2_with fail
          go_roundw
          case rel => exact ⟨p + 1, _, by omega, by go_num, HN.out⟩
          case measure => simp only [RowKit.intOf]; omega
    · obtain rfl : p = l1.length := by omega
      have HV := Lib.hid hs.eq
      have HU := Lib.hid (hs.own.u32 hs.lt (by rw [hs.len]; simp only [maxLen]; omega))
      have HLE := Lib.hid hs.len
      have BY := Lib.hid (Box.below B_y.out hs.below B_y.out.lt)
      have BR := Lib.hid (Box.below B_r.out hs.below B_r.out.lt)
      have HB2 := Lib.hid (nextw HB.out hs.below)
      clear hs B_x B_y B_r HB
      have c0y := BY.out.c0
      have c1y := BY.out.c1
      have hz : ival (!(s1 == s2)) L = z1 * z2 := by
        have hv := HV.out
        rw [List.take_length] at hv
        rw [← HI1.out, ← HI2.out, ← mul_ival s1 s2 l1 l2 hv]
        cases s1 <;> cases s2 <;> rfl
      have HZV := Lib.hid hz
      clear hz HV
      rw [HLE.out] at HU
      go_wp2_with fail
      refine (RNorm_rd (n1 := n1 + n2 + 1) (z1 := z1 * z2) ⟨_, _, L, rfl, HU.out, HZV.out, by have := HLE.out; have := HN1.out; have := HN2.out; omega⟩ (by omega)).mono ?_
      rintro e w1 ⟨v, rfl, rr, bb⟩
      obtain ⟨sr, Ar, kr, cr, rfl⟩ := rr.shape
      have B_r := Lib.hid (Box.below BR.out bb BR.out.lt)
      have HB := Lib.hid (nextw HB2.out bb)
      have V_r := Lib.hid (show Rc w1 (.agg #[.bool sr, .slice Ar kr cr]) (z1 * z2) (n1 + n2) from ⟨rr.1, mul_words HA.out.1 HA.out.2⟩)
      clear bb rr BX BY BR HB2 HU HZV c0x c1x c0y c1y
      have bS := Box.store B_r.out sr (.slice Ar kr cr)
      have s0 := bS.c0
      have s1 := bS.c1
      have K_r := Lib.hid (Box.keepsRc B_r.out V_r.out sr (.slice Ar kr cr))
      have HBF := Lib.hid (Below.store HB.out (x := w.heap.size + 1 + 1) (by omega) (.bool sr) (.slice Ar kr cr))
      clear bS
      have c0r := B_r.out.c0
      have c1r := B_r.out.c1
      have f0r := B_r.out.f0
      have f1r := B_r.out.f1
      go_wp2_with fail
      generalize (w1.setCell ⟨w.heap.size + 1 + 1, 0, none⟩ (.bool sr)).setCell ⟨w.heap.size + 1 + 1, 1, none⟩ (.slice Ar kr cr) = WF at *
      go_wp2
      exact bodyPost_ret (v := .agg #[.bool sr, (.slice Ar kr cr)]) (by simp [results, Tryz.results62, go_sem, s0, s1]) rfl ⟨_, rfl, K_r.out, HBF.out⟩
end Go.Proofs.YtldfamjlnphokaaGreatDoor
