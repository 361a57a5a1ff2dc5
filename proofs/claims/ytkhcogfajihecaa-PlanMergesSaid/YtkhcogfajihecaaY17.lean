/- plan.Text. -/
import Derived.Test.YtkhcogfajihecaaY16
set_option linter.unusedVariables false
set_option linter.unusedSimpArgs false
namespace Go.Proofs.Ytkhcogfajihecaa
open Go Go.RowKit Hd

/-- The byte of a cell. -/
def chB (v : Int) : UInt8 := if v = 0 then 63 else if v = 1 then 46 else 35
/-- The text of the first k cells. -/
def txtK (p : Int) (l : List Int) : Nat → List UInt8
  | 0 => []
  | k + 1 => txtK p l k ++ [chB (l.getD k 0)] ++ (if ((k : Int) + 1) % p = 0 then [10] else [])
def txtV (p q : Int) (l : List Int) : List UInt8 := if OkP p q l then txtK p l l.length else []
theorem txtK_len (p : Int) (l : List Int) (k : Nat) : (txtK p l k).length ≤ 2 * k := by
  induction k with
  | zero => simp [txtK]
  | succ k ih => unfold txtK; split <;> simp <;> omega
theorem Valid_yes (p q : Int) (A : Option Addr) (n c : Nat) (l : List Int) (hn : n ≤ 1000000) (h0 : OkP p q l) (w : World) {lo hi : Nat} (L : KB w lo hi A n c l) : Calls Try.prog 20 #[.agg #[.int .i64 p, .int .i64 q, .slice A n c]] w fun e w' => e = .returned (.bool true) ∧ Below w.heap.size w w' := by
  have h := Valid_is p q A n c l hn w L
  rw [decide_eq_true h0] at h
  exact h
theorem Valid_no (p q : Int) (A : Option Addr) (n c : Nat) (l : List Int) (hn : n ≤ 1000000) (h0 : ¬ OkP p q l) (w : World) {lo hi : Nat} (L : KB w lo hi A n c l) : Calls Try.prog 20 #[.agg #[.int .i64 p, .int .i64 q, .slice A n c]] w fun e w' => e = .returned (.bool false) ∧ Below w.heap.size w w' := by
  have h := Valid_is p q A n c l hn w L
  rw [decide_eq_false h0] at h
  exact h
theorem isb {T e : TypeId} {B b : Nat} {bs bs' : List Value} {w : World} (h : Hid (Lib.IsBuilder T e B b bs w)) (he : bs = bs') : Hid (Lib.IsBuilder T e B b bs' w) := he ▸ h

set_option maxRecDepth 100000 in
set_option maxHeartbeats 2000000 in
theorem Text_no (p q : Int) (A : Option Addr) (n c : Nat) (l : List Int) (hn : n ≤ 1000000) (h0 : ¬ OkP p q l) (w : World) {lo hi : Nat} (L : KB w lo hi A n c l) :
    Calls Try.prog 17 #[.agg #[.int .i64 p, .int .i64 q, .slice A n c]] w fun e w' => e = .returned (.string ⟨(txtV p q l).toArray⟩) ∧ Below w.heap.size w w' := by
  have HV : Hid (txtV p q l = []) := by unfold Hid txtV; rw [if_neg h0]
  replace h0 := Lib.hid h0
  have hlen := Lib.hid L.len
  have hle1 : n ≤ l.length := by have := L.len; omega
  have hle2 : l.length ≤ n := by have := L.len; omega
  have hiL := L.top
  replace L := Lib.hid L
  obtain ⟨HB, B_z0⟩ := box1 w 24 #[.int .i64 p, .int .i64 q, .slice A n c]
  replace L := Lib.hid (KB.below L.out HB.out)
  go_enter Try.func17, Try.ntmps17
  go_wp2_with fail
  generalize w.alloc (.cells #[.int .i64 p, .int .i64 q, .slice A n c] 24) = W0 at *
  obtain ⟨c0z0, c1z0, c2z0⟩ := cells3 B_z0
  go_wp2_with fail
  refine (Valid_no p q A n c l hn h0.out _ (KB.below L.out (by exact sm))).mono ?_
  clear c0z0 c1z0 c2z0
  rintro e w1 ⟨rfl, bb⟩
  replace bb := nextw (w0 := W0) (by exact sm) bb
  replace B_z0 := mv B_z0 bb
  replace L := Lib.hid (KB.below L.out bb)
  replace HB := nx HB bb
  clear bb
  go_wp2
  go_ret
  exact ⟨by rw [HV.out]; rfl, nextw HB.out (by exact sm)⟩

set_option maxRecDepth 100000 in
set_option maxHeartbeats 2000000 in
theorem Text_yes (p q : Int) (A : Option Addr) (n c : Nat) (l : List Int) (hn : n ≤ 1000000) (h0 : OkP p q l) (w : World) {lo hi : Nat} (L : KB w lo hi A n c l) :
    Calls Try.prog 17 #[.agg #[.int .i64 p, .int .i64 q, .slice A n c]] w fun e w' => e = .returned (.string ⟨(txtV p q l).toArray⟩) ∧ Below w.heap.size w w' := by
  have HV : Hid (txtV p q l = txtK p l l.length) := by unfold Hid txtV; rw [if_pos h0]
  obtain ⟨hl1, hl2⟩ := okp_len h0
  have hp1 := h0.1.1
  have hp2 := h0.1.2
  have HOK := Lib.hid h0
  clear h0
  have hlen := Lib.hid L.len
  have hle1 : n ≤ l.length := by have := L.len; omega
  have hle2 : l.length ≤ n := by have := L.len; omega
  have hiL := L.top
  replace L := Lib.hid L
  obtain ⟨HB, B_z0⟩ := box1 w 24 #[.int .i64 p, .int .i64 q, .slice A n c]
  replace L := Lib.hid (KB.below L.out HB.out)
  go_enter Try.func17, Try.ntmps17
  go_wp2_with fail
  generalize w.alloc (.cells #[.int .i64 p, .int .i64 q, .slice A n c] 24) = W0 at *
  obtain ⟨c0z0, c1z0, c2z0⟩ := cells3 B_z0
  go_wp2_with fail
  refine (Valid_yes p q A n c l hn HOK.out _ (KB.below L.out (by exact sm))).mono ?_
  clear c0z0 c1z0 c2z0
  rintro e w1 ⟨rfl, bb⟩
  replace bb := nextw (w0 := W0) (by exact sm) bb
  replace B_z0 := mv B_z0 bb
  replace L := Lib.hid (KB.below L.out bb)
  replace HB := nx HB bb
  clear bb
  go_upto_region 4 with (fail)
  have IB := Lib.hid (Lib.fresh_isBuilder 75 5 w1)
  have bb : Below w1.heap.size w1 (w1.alloc (.cells #[.pointer none, .slice none 0 0] 75)) := (Below.refl _ _).alloc (Nat.le_refl _) _
  have LT_z0 : Hid (w.heap.size < w1.heap.size) := B_z0.out.lt
  have TL_L : Hid (hi ≤ w1.heap.size) := L.out.top
  have HW : Hid (w.heap.size ≤ w1.heap.size) := HB.out.size
  replace B_z0 := mv B_z0 bb
  replace L := Lib.hid (KB.below L.out bb)
  replace HB := nx HB bb
  have HBS : Hid (w1.heap.size ≤ (w1.alloc (.cells #[.pointer none, .slice none 0 0] 75)).heap.size) := bb.size
  clear bb
  generalize w1.alloc (.cells #[.pointer none, .slice none 0 0] 75) = WB at *
  obtain ⟨PB, hPB⟩ : ∃ b, w1.heap.size = b := ⟨_, rfl⟩
  simp only [hPB] at IB LT_z0 TL_L HW HBS ⊢
  clear hPB
  obtain ⟨c0z0, c1z0, c2z0⟩ := cells3 B_z0
  go_wp2_with fail
  clear c0z0 c1z0 c2z0
  go_loopw [12] (fun kk wx => ∃ k : Nat, k ≤ n ∧ kk = .int .i64 (k : Int) ∧ Hid (Lib.IsBuilder 75 5 PB PB (Lib.byteCells (txtK p l k)) wx) ∧ Hid (PB ≤ wx.heap.size) ∧ Hid (KB wx lo hi A n c l) ∧ Hid (Bx wx (w.heap.size) 24 #[.int .i64 p, .int .i64 q, .slice A n c]) ∧ Hid (Below w.heap.size w wx)) (fun kk _ => n - (intOf kk).toNat)
  case atStart => exact ⟨0, by omega, rfl, isb IB rfl, HBS, L, B_z0, HB⟩
  case round =>
    clear IB HBS L B_z0 HB
    obtain ⟨k, hk, rfl, IB, HBS, L, B_z0, HB⟩ := hrel
    by_cases hlt : k < n
    · skip
      obtain ⟨x, hx⟩ : ∃ x, l.getD k 0 = x := ⟨_, rfl⟩
      obtain ⟨g, o, eA, hg, e0⟩ := L.out.elem hlt
      subst eA
      rw [hx] at e0
      have hxb := L.out.mem hlt
      rw [hx] at hxb
      have hx2 : x ≤ 2 := by rw [← hx]; exact HOK.out.2.2.2 _ (getB_mem (by omega))
      have HTK : Hid (txtK p l (k + 1) = txtK p l k ++ [chB x] ++ (if ((k : Int) + 1) % p = 0 then [10] else [])) := by unfold Hid; rw [← hx]; rfl
      have htl := txtK_len p l k
      clear hx
      obtain ⟨TK, hTK⟩ : ∃ t, txtK p l k = t := ⟨_, rfl⟩
      rw [hTK] at IB HTK htl
      clear hTK
      have hbl : (Lib.byteCells TK).length ≤ 2 * k := by rw [Lib.byteCells_length]; exact htl
      have hlz : ((k : Nat) : Int) < ((n : Nat) : Int) := by omega
      have hmod : Int.tmod ((k : Int) + 1) p = ((k : Int) + 1) % p := Int.tmod_eq_emod_of_nonneg (by omega)
      have HXC : x = 0 ∨ x = 1 ∨ x = 2 := by omega
      have ltz := B_z0.out.lt
      clear hx2 hxb
      rcases HXC with rfl | rfl | rfl
      · skip
        go_upto_region 7 with (fail)
        clear e0
        go_wp2_with fail
        refine (WriteByte_is PB PB _ 63 wr IB.out (by omega) HBS.out).mono ?_
        rintro e w1 ⟨rfl, ib1, bb⟩
        replace B_z0 := Lib.hid (Bx.below B_z0.out bb LT_z0.out)
        replace L := Lib.hid (KB.belowB L.out bb TL_L.out)
        replace HB := Lib.hid (HB.out.trans (bb.mono HW.out))
        replace HBS := Lib.hid (Nat.le_trans HBS.out bb.size)
        clear bb IB
        have IB := Lib.hid ib1
        clear ib1
        obtain ⟨c0z0, c1z0, c2z0⟩ := cells3 B_z0
        by_cases hz : ((k : Int) + 1) % p = 0
        · skip
          have HTK2 : Hid (Lib.byteCells (txtK p l (k + 1)) = Lib.byteCells TK ++ [.int .u8 63] ++ [.int .u8 10]) := by unfold Hid; rw [HTK.out, if_pos hz, Lib.byteCells_append, Lib.byteCells_append]; rfl
          have hz2 : (((k : Int) + 1) % p == 0) = true := by rw [hz]; rfl
          go_wp2_with fail
          refine (WriteByte_is PB PB _ 10 w1 IB.out (by simp; omega) HBS.out).mono ?_
          rintro e w2 ⟨rfl, ib1, bb⟩
          replace B_z0 := Lib.hid (Bx.below B_z0.out bb LT_z0.out)
          replace L := Lib.hid (KB.belowB L.out bb TL_L.out)
          replace HB := Lib.hid (HB.out.trans (bb.mono HW.out))
          replace HBS := Lib.hid (Nat.le_trans HBS.out bb.size)
          clear bb IB c0z0 c1z0 c2z0
          have IB := isb (Lib.hid ib1) HTK2.out.symm
          clear ib1
          go_wp2_with fail
          go_roundw
          case rel => exact ⟨k + 1, by omega, by go_num, IB, HBS, L, B_z0, HB⟩
          case measure => simp only [intOf]; omega
        · skip
          have HTK2 : Hid (Lib.byteCells (txtK p l (k + 1)) = Lib.byteCells TK ++ [.int .u8 63]) := by unfold Hid; rw [HTK.out, if_neg hz, List.append_nil, Lib.byteCells_append]; rfl
          have hz2 : (((k : Int) + 1) % p == 0) = false := by simp [hz]
          replace IB := isb IB HTK2.out.symm
          go_wp2_with fail
          clear c0z0 c1z0 c2z0
          go_roundw
          case rel => exact ⟨k + 1, by omega, by go_num, IB, HBS, L, B_z0, HB⟩
          case measure => simp only [intOf]; omega
      · skip
        go_upto_region 7 with (fail)
        clear e0
        go_wp2_with fail
        refine (WriteByte_is PB PB _ 46 wr IB.out (by omega) HBS.out).mono ?_
        rintro e w1 ⟨rfl, ib1, bb⟩
        replace B_z0 := Lib.hid (Bx.below B_z0.out bb LT_z0.out)
        replace L := Lib.hid (KB.belowB L.out bb TL_L.out)
        replace HB := Lib.hid (HB.out.trans (bb.mono HW.out))
        replace HBS := Lib.hid (Nat.le_trans HBS.out bb.size)
        clear bb IB
        have IB := Lib.hid ib1
        clear ib1
        obtain ⟨c0z0, c1z0, c2z0⟩ := cells3 B_z0
        by_cases hz : ((k : Int) + 1) % p = 0
        · skip
          have HTK2 : Hid (Lib.byteCells (txtK p l (k + 1)) = Lib.byteCells TK ++ [.int .u8 46] ++ [.int .u8 10]) := by unfold Hid; rw [HTK.out, if_pos hz, Lib.byteCells_append, Lib.byteCells_append]; rfl
          have hz2 : (((k : Int) + 1) % p == 0) = true := by rw [hz]; rfl
          go_wp2_with fail
          refine (WriteByte_is PB PB _ 10 w1 IB.out (by simp; omega) HBS.out).mono ?_
          rintro e w2 ⟨rfl, ib1, bb⟩
          replace B_z0 := Lib.hid (Bx.below B_z0.out bb LT_z0.out)
          replace L := Lib.hid (KB.belowB L.out bb TL_L.out)
          replace HB := Lib.hid (HB.out.trans (bb.mono HW.out))
          replace HBS := Lib.hid (Nat.le_trans HBS.out bb.size)
          clear bb IB c0z0 c1z0 c2z0
          have IB := isb (Lib.hid ib1) HTK2.out.symm
          clear ib1
          go_wp2_with fail
          go_roundw
          case rel => exact ⟨k + 1, by omega, by go_num, IB, HBS, L, B_z0, HB⟩
          case measure => simp only [intOf]; omega
        · skip
          have HTK2 : Hid (Lib.byteCells (txtK p l (k + 1)) = Lib.byteCells TK ++ [.int .u8 46]) := by unfold Hid; rw [HTK.out, if_neg hz, List.append_nil, Lib.byteCells_append]; rfl
          have hz2 : (((k : Int) + 1) % p == 0) = false := by simp [hz]
          replace IB := isb IB HTK2.out.symm
          go_wp2_with fail
          clear c0z0 c1z0 c2z0
          go_roundw
          case rel => exact ⟨k + 1, by omega, by go_num, IB, HBS, L, B_z0, HB⟩
          case measure => simp only [intOf]; omega
      · skip
        go_upto_region 7 with (fail)
        clear e0
        go_wp2_with fail
        refine (WriteByte_is PB PB _ 35 wr IB.out (by omega) HBS.out).mono ?_
        rintro e w1 ⟨rfl, ib1, bb⟩
        replace B_z0 := Lib.hid (Bx.below B_z0.out bb LT_z0.out)
        replace L := Lib.hid (KB.belowB L.out bb TL_L.out)
        replace HB := Lib.hid (HB.out.trans (bb.mono HW.out))
        replace HBS := Lib.hid (Nat.le_trans HBS.out bb.size)
        clear bb IB
        have IB := Lib.hid ib1
        clear ib1
        obtain ⟨c0z0, c1z0, c2z0⟩ := cells3 B_z0
        by_cases hz : ((k : Int) + 1) % p = 0
        · skip
          have HTK2 : Hid (Lib.byteCells (txtK p l (k + 1)) = Lib.byteCells TK ++ [.int .u8 35] ++ [.int .u8 10]) := by unfold Hid; rw [HTK.out, if_pos hz, Lib.byteCells_append, Lib.byteCells_append]; rfl
          have hz2 : (((k : Int) + 1) % p == 0) = true := by rw [hz]; rfl
          go_wp2_with fail
          refine (WriteByte_is PB PB _ 10 w1 IB.out (by simp; omega) HBS.out).mono ?_
          rintro e w2 ⟨rfl, ib1, bb⟩
          replace B_z0 := Lib.hid (Bx.below B_z0.out bb LT_z0.out)
          replace L := Lib.hid (KB.belowB L.out bb TL_L.out)
          replace HB := Lib.hid (HB.out.trans (bb.mono HW.out))
          replace HBS := Lib.hid (Nat.le_trans HBS.out bb.size)
          clear bb IB c0z0 c1z0 c2z0
          have IB := isb (Lib.hid ib1) HTK2.out.symm
          clear ib1
          go_wp2_with fail
          go_roundw
          case rel => exact ⟨k + 1, by omega, by go_num, IB, HBS, L, B_z0, HB⟩
          case measure => simp only [intOf]; omega
        · skip
          have HTK2 : Hid (Lib.byteCells (txtK p l (k + 1)) = Lib.byteCells TK ++ [.int .u8 35]) := by unfold Hid; rw [HTK.out, if_neg hz, List.append_nil, Lib.byteCells_append]; rfl
          have hz2 : (((k : Int) + 1) % p == 0) = false := by simp [hz]
          replace IB := isb IB HTK2.out.symm
          go_wp2_with fail
          clear c0z0 c1z0 c2z0
          go_roundw
          case rel => exact ⟨k + 1, by omega, by go_num, IB, HBS, L, B_z0, HB⟩
          case measure => simp only [intOf]; omega
    · skip
      have hkn : n = k := by omega
      subst hkn
      go_wp2_with fail
      refine (Try.Builder_String_any PB PB _ wr IB.out HBS.out).mono ?_
      rintro e w1 ⟨rfl, bb⟩
      replace HB := Lib.hid (HB.out.trans (bb.mono HW.out))
      go_wp2
      go_ret
      exact ⟨(by rw [HV.out, ← hlen.out]; try rfl), nextw HB.out (by exact sm)⟩

theorem Text_is (p q : Int) (A : Option Addr) (n c : Nat) (l : List Int) (hn : n ≤ 1000000) (w : World) {lo hi : Nat} (L : KB w lo hi A n c l) : Calls Try.prog 17 #[.agg #[.int .i64 p, .int .i64 q, .slice A n c]] w fun e w' => e = .returned (.string ⟨(txtV p q l).toArray⟩) ∧ Below w.heap.size w w' := by
  by_cases h0 : OkP p q l
  · exact Text_yes p q A n c l hn h0 w L
  · exact Text_no p q A n c l hn h0 w L
end Go.Proofs.Ytkhcogfajihecaa
