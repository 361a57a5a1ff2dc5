/- The reference: Text. -/
import Derived.Test.YtldfamjlnphokaaGreatDoorRefO
import Derived.Test.YtldfamjlnphokaaGreatDoorRefB
import Derived.Test.YtldfamjlnphokaaGreatDoorText
import Derived.Lib.SlBytesRow

set_option linter.unusedVariables false
set_option linter.unusedSimpArgs false

namespace Go.Proofs.YtldfamjlnphokaaGreatDoor
open Go Go.RowKit Num Go.Lib

/-- The digits of n, none for 0. -/
def dd (n : Nat) : List UInt8 := if n = 0 then [] else decDigits n
theorem dd_zero : dd 0 = [] := rfl
theorem dd_pos {n : Nat} (h : n ≠ 0) : dd n = dd (n / 10) ++ [UInt8.ofNat (48 + n % 10)] := by
  unfold dd
  rw [if_neg h]
  by_cases h1 : n < 10
  · rw [show n / 10 = 0 by omega, if_pos rfl, decDigits, dif_pos h1, Nat.mod_eq_of_lt h1]; rfl
  · rw [if_neg (by omega), decDigits, dif_neg h1]
theorem dd_ne {n : Nat} (h : n ≠ 0) : dd n ≠ [] := by rw [dd_pos h]; simp
/-- The text of an integer. -/
def zText (z : Int) : List UInt8 := signText (decide (z < 0)) ++ decDigits z.natAbs

/-- What holds at the head of Text's loop. -/
structure RTxtAt (w W0 wr : World) (N M : Nat) (s : Bool) (m : Value) (vm : Value) (sv : List UInt8) : Prop where
  own : Owned W0 wr M vm
  eq : dd M ++ sv = dd N
  below : Below w.heap.size w wr
  box : Box wr w.heap.size s m
  le : M ≤ N
  size : W0.heap.size ≤ wr.heap.size
/-- string([]byte{c}), c the digit r. -/
theorem conv_digit (r : Nat) (hr : r < 10) (w : World) :
    (convert 47 9 (.slice (some ⟨w.heap.size, 0, none⟩) 1 1)).run Tryz.prog (w.alloc (.cells #[.int .u8 (48 + (r : Int))] 5)) = .ok (.string ⟨#[UInt8.ofNat (48 + r)]⟩) (w.alloc (.cells #[.int .u8 (48 + (r : Int))] 5)) := by
  have hb : Lib.Bytes (w.alloc (.cells #[.int .u8 (48 + (r : Int))] 5)) w.heap.size 0 ⟨#[UInt8.ofNat (48 + r)]⟩ := by
    intro i hi
    obtain rfl : i = 0 := by
      have : i < 1 := hi
      omega
    rw [cell_of_row (w.alloc (.cells #[.int .u8 (48 + (r : Int))] 5)) w.heap.size (0 + 0) #[.int .u8 (48 + (r : Int))] 5 (0, 0) (heap_alloc_new w _)]
    have e : ((UInt8.ofNat (48 + r)).toNat : Int) = 48 + (r : Int) := by
      rw [UInt8.toNat_ofNat']; omega
    show some (Value.int .u8 (48 + (r : Int))) = some (.int .u8 ((UInt8.ofNat (48 + r)).toNat : Int))
    rw [e]
  exact run_convert_whole (P := Tryz.prog) _ 47 5 9 Tryz.underlying47 Tryz.underlying5 Tryz.underlying9 w.heap.size 0 ⟨#[UInt8.ofNat (48 + r)]⟩ hb 1
theorem str_cons (c : UInt8) (s : List UInt8) : (⟨#[c]⟩ : ByteArray) ++ ⟨s.toArray⟩ = ⟨(c :: s).toArray⟩ := by
  apply ByteArray.ext
  rw [ByteArray.data_append]
  simp
theorem ret_str {a b : ByteArray} (h : a = b) : Ending.returned (.string a) = .returned (.string b) := by rw [h]
theorem digit_add (r : Nat) : (48 : UInt8) + UInt8.ofNat r = UInt8.ofNat (48 + r) := by
  rw [UInt8.ofNat_add]; rfl

set_option maxRecDepth 100000 in
set_option maxHeartbeats 4000000 in
theorem RText_rd {v1 : Value} {z1 : Int} {n1 : Nat} {w : World} (h1 : Rd w v1 z1 n1) (f1 : n1 ≤ 50000) :
    Calls Tryz.prog 75 #[v1] w fun e w' => e = .returned (.string ⟨(zText z1).toArray⟩) ∧ Below w.heap.size w w' := by
  have H1a := h1.abs
  have HA := Lib.hid H1a
  clear H1a
  obtain ⟨s1, A1, k1, c1, rfl, -⟩ := h1.shape
  have V_x := Lib.hid h1
  clear h1
  have hb0 : Below w.heap.size w (w.alloc (.cells #[.bool s1, (.slice A1 k1 c1)] 24)) := (Below.alloc (Below.refl w.heap.size w) (by simp <;> omega) _)
  have B_x : Box (w.alloc (.cells #[.bool s1, (.slice A1 k1 c1)] 24)) (w.heap.size) s1 (.slice A1 k1 c1) := by have h := Box.new w s1 (.slice A1 k1 c1); simpa using h
  replace B_x := Lib.hid B_x
  replace V_x := Lib.hid (Rd.below V_x.out hb0)
  have HB := Lib.hid hb0
  clear hb0
  have c0x := B_x.out.c0
  have c1x := B_x.out.c1
  go_enter Tryz.func75, Tryz.ntmps75
  go_wp2_with fail
  clear c0x c1x
  generalize w.alloc (.cells #[.bool s1, (.slice A1 k1 c1)] 24) = W0 at *
  obtain ⟨l, hu, hi, hl⟩ := Rd.u32 V_x.out
  have hv := ival_abs s1 l
  rw [hi] at hv
  have HV := Lib.hid hv
  have HI := Lib.hid hi
  refine (rtrim_own _ l _ hu (by omega)).mono ?_
  rintro e w1 ⟨vm, rfl, hown, bb⟩
  obtain ⟨N, hN⟩ : ∃ N, val l = N := ⟨_, rfl⟩
  rw [hN] at hown HV
  have hNl : (digs N).length ≤ 50000 := by rw [← hN]; exact Nat.le_trans (length_val_le hu.lt) (by omega)
  have HNL := Lib.hid hNl
  have HN := Lib.hid hN
  have S0 : Hid (RTxtAt w W0 w1 N N s1 (.slice A1 k1 c1) vm []) := ⟨hown, by simp, nextw HB.out bb, Box.below B_x.out bb B_x.out.lt, Nat.le_refl _, bb.size⟩
  have HL0 := Lib.hid B_x.out.lt
  have HB0 := Lib.hid HB.out.size
  clear hown bb hu hi hl hv hN hNl V_x B_x HB f1
  go_wp2_with fail
  go_loopg [3, 4, 5, 6] N (fun k sv vm _ _ wr => ∃ s : List UInt8, sv = .string ⟨s.toArray⟩ ∧ RTxtAt w W0 wr N k s1 (.slice A1 k1 c1) vm s)
  case atStart => exact ⟨[], rfl, S0.out⟩
  case round =>
    clear S0
    obtain ⟨s, rfl, hs⟩ := hrel
    have HS := Lib.hid hs
    clear hs
    by_cases h0 : gk = 0
    · subst h0
      have hse : s = dd N := HS.out.eq
      have hbx := HS.out.box.c0
      have HBF := Lib.hid HS.out.below
      rcases HS.out.own with ⟨-, A, c, rfl, -⟩ | ⟨h, -⟩
      · clear HS
        by_cases hN0 : N = 0
        · subst hN0
          obtain rfl : s = [] := hse
          have HZ : Hid (z1 = 0) := by have := HV.out; unfold Hid; omega
          go_wp2_with fail
          go_ret
          exact ⟨ret_str (by rw [HZ.out]; unfold zText; rw [Int.natAbs_zero, decDigits]; rfl), HBF.out⟩
        · have hne : s.isEmpty = false := by rw [hse]; have := dd_ne hN0; cases h : dd N with | nil => exact absurd h this | cons => rfl
          have HSL : Hid (s.length ≤ 3200001) := by
            unfold Hid
            rw [hse]
            unfold dd
            rw [if_neg hN0]
            exact digits_room (n := N) (Nat.le_trans HNL.out (by omega)) N (Nat.le_refl _)
          have hz : zText z1 = signText s1 ++ s := by
            unfold zText
            rw [HV.out, hse]
            unfold dd
            rw [if_neg hN0]
            congr 2
            have h1 := HI.out
            have h2 := HV.out
            unfold ival at h1
            rw [HN.out] at h1
            cases s1
            · simp at h1; rw [decide_eq_false (by omega)]
            · simp at h1; rw [decide_eq_true (by omega)]
          have HZT := Lib.hid hz
          clear hse hz
          cases s1
          · go_wp2_with fail
            go_ret
            exact ⟨ret_str (by rw [HZT.out]; rfl), HBF.out⟩
          · have hsl : s.length ≤ 3200001 := HSL.out
            go_wp2_with fail
            go_ret
            exact ⟨ret_str (by rw [HZT.out]; rfl), HBF.out⟩
      · exact absurd rfl h
    · rcases HS.out.own with ⟨h, -⟩ | ⟨-, g, cap, ex, rfl, hg, ho, hc1, hc2⟩
      · exact absurd h h0
      have hMN := HS.out.le
      have hlen : (digs gk).length ≤ 50000 := Nat.le_trans (length_mono hMN) HNL.out
      have hpos : 0 < (digs gk).length := by
        rcases Nat.eq_zero_or_pos (digs gk).length with h' | h'
        · exact absurd (digs_eq_nil.1 (List.eq_nil_of_length_eq_zero h')) h0
        · exact h'
      have hs0 : ShortAt wr wr g (digs gk) ex 10 (digs gk).length 0 [] := ⟨by rw [List.take_length, List.append_nil]; exact ho, rfl, by simp, by omega, by simp [val], grown_refl _ _⟩
      have HS0 := Lib.hid hs0
      have HG := Lib.hid (And.intro hg (And.intro hc1 hc2))
      have hvd := val_digs gk
      have HVD := Lib.hid hvd
      have hlt := digs_lt gk
      have HLT := Lib.hid hlt
      obtain ⟨wo, hwo⟩ : ∃ wo, wr = wo := ⟨_, rfl⟩
      have hc2' := hc2
      unfold maxLen at hc2'
      rw [hwo] at HS HS0 ⊢
      have HSZ := Lib.hid HS.out.size
      clear hs0 ho hg hc2 hvd hlt hMN hwo
      generalize digs gk = L at *
      have hne : ¬ L = [] := by intro h; rw [h] at hpos; simp at hpos
      go_wp2_with fail
      go_loopw [5, 6] (fun rv i wr => ∃ (k r : Nat) (q : List Nat), k ≤ L.length ∧ i = .int .i64 ((k : Int) - 1) ∧ rv = .int .u64 r ∧ ShortAt wo wr g L ex 10 k r q) (fun _ i _ => (RowKit.intOf i + 1).toNat)
      case atStart => exact ⟨L.length, 0, [], Nat.le_refl _, rfl, rfl, HS0.out⟩
      case round =>
        clear HS0
        obtain ⟨k, r, q, hk, rfl, rfl, hs⟩ := hrel
        have hr := hs.rest
        rcases k with _ | k
        · have HQ := Lib.hid hs
          clear hs
          have kr := conv_digit r hr
          have hsl : s.length ≤ 3200001 := by
            have h1 := congrArg List.length HS.out.eq
            rw [List.length_append] at h1
            have h2 : (dd N).length ≤ 3200001 := by
              unfold dd
              split
              · simp
              · exact digits_room (n := N) (Nat.le_trans HNL.out (by omega)) N (Nat.le_refl _)
            omega
          have hq := HQ.out
          have ho := hq.own
          rw [List.take_zero, List.nil_append] at ho
          have hql := hq.len
          have hqe := hq.eq
          rw [List.drop_zero, HVD.out] at hqe
          have hU := ho.u32 hq.lt (cap := cap) (by have := HG.out; omega) HG.out.2.2
          rw [show q.length = L.length by omega] at hU
          have HQE := Lib.hid hqe
          have HU := Lib.hid hU
          have hqv : val q = gk / 10 := by omega
          have HQV := Lib.hid hqv
          have hrv : r = gk % 10 := by omega
          have HRV := Lib.hid hrv
          have HQL := Lib.hid hql
          have HGR := Lib.hid hq.grown
          clear hq ho hql hqe hU hqv hrv
          go_wp2_with fail
          have hbA : Below wr.heap.size wr (wr.alloc (.cells #[.int .u8 (48 + (r : Int))] 5)) := (Below.refl _ _).alloc (Nat.le_refl _) _
          refine (rtrim_own _ q _ (U32.below HU.out hbA) (by have := HQL.out; omega)).mono ?_
          rintro e w3 ⟨v3, rfl, hown, bb⟩
          rw [HQV.out] at hown
          have hbw : Below w.heap.size w w3 := by
            have hg := HG.out.1
            have hw0 := HB0.out
            have hb0 := HS.out.below
            exact ((hb0.grown HGR.out hb0.size (fun j hj => by injection hj with hj; omega)).trans ((hbA.mono (by have := hb0.size; have := HGR.out.size; omega)))).trans (bb.mono (by have := hb0.size; have := HGR.out.size; simp; omega))
          have HN3 : Hid (RTxtAt w W0 w3 N (gk / 10) s1 (.slice A1 k1 c1) v3 (UInt8.ofNat (48 + r) :: s)) := by
            refine ⟨?_, ?_, hbw, ?_, ?_, by have := hbA.size; have := HGR.out.size; have := HSZ.out; have := bb.size; omega⟩
            · rcases hown with h | ⟨h0, g', cap', ex', h2, h3, h4⟩
              · exact Or.inl h
              · exact Or.inr ⟨h0, g', cap', ex', h2, by have := hbA.size; have := HGR.out.size; have := HSZ.out; omega, h4⟩
            · rw [← HS.out.eq, dd_pos h0, HRV.out, List.append_assoc]; rfl
            · have hx1 : some w.heap.size ≠ some g := fun e => by injection e with e; have := HG.out.1; have := HL0.out; omega
              have h1 := HS.out.box
              have h2 : Box wr w.heap.size s1 (.slice A1 k1 c1) := (HGR.out.block w.heap.size h1.lt hx1).trans h1
              exact Box.below (Box.below h2 hbA h2.lt) bb (Nat.lt_of_lt_of_le h2.lt hbA.size)
            · have := HS.out.le
              omega
          clear hown bb hbw hbA
          go_wp2_with fail
          go_roundg (gk / 10)
          case measure => omega
          case rel => exact ⟨_, by rw [digit_add, str_cons], HN3.out⟩
        · have hx := getD_lt HLT.out k
          have hc0 := hs.own.cell (i := k) (by simp; omega)
          have hg : (List.take (k + 1) L ++ q).getD k 0 = L.getD k 0 := by
            simp only [List.getD_eq_getElem?_getD]
            rw [List.getElem?_append_left (by simp; omega), List.getElem?_take, if_pos (by omega)]
          rw [hg] at hc0
          have hfz := hs.own.frozen k
          have HNX := Lib.hid (hs.step (by omega) HLT.out)
          have hsd : (r * 4294967296 + L.getD k 0) / 10 < 4294967296 := by omega
          have e1 : (((k + 1 : Nat) : Int) - 1) = (k : Int) := by omega
          rw [e1]
          clear hs hg e1
          generalize L.getD k 0 = x at *
          obtain ⟨t, ht⟩ : ∃ t, r * 4294967296 + x = t := ⟨_, rfl⟩
          rw [ht] at HNX hsd
          have htI : (r : Int) * 4294967296 + (x : Int) = (t : Int) := by omega
          have hw1 : (r : Int) * 4294967296 < 18446744073709551616 := by omega
          have ht64 : t < 18446744073709551616 := by omega
          clear ht
          have e2 : ((t / 10 : Nat) : Int) = (t : Int) / 10 := by omega
          have e3 : ((t % 10 : Nat) : Int) = (t : Int) % 10 := by omega
          rw [e2] at HNX
          clear e2
          have E3 := Lib.hid e3
          clear e3
          go_wp2_with fail
          go_roundw
          case rel => exact ⟨k, t % 10, _, by omega, rfl, by rw [E3.out], HNX.out⟩
          case measure => simp only [RowKit.intOf]; omega
end Go.Proofs.YtldfamjlnphokaaGreatDoor
