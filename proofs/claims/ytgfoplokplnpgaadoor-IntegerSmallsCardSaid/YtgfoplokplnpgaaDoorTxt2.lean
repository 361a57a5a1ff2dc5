/- Text. -/
import Derived.Test.YtgfoplokplnpgaaDoorTxt1
import Derived.Test.YtgfoplokplnpgaaDoorInt7
namespace Go.Proofs.YtgfoplokplnpgaaDoor
open Go Go.RowKit Num Go.Lib

abbrev Bld (B b : Nat) (l : List UInt8) (w : World) : Prop := IsBuilder 61 5 B b (byteCells l) w

/-- The text of a number of a sign and a magnitude. -/
def signText (s : Bool) : List UInt8 := if s then [45] else []
theorem signText_len (s : Bool) : (signText s).length ≤ 1 := by cases s <;> simp [signText]

/-- WHAT HOLDS AT THE LOOP's HEAD: the groups from j on are written. -/
structure TxtAt (w w1 wr : World) (s : Bool) (n j : Nat) (vg : Value) : Prop where
  bld : Bld w1.heap.size w1.heap.size (signText s ++ decDigits (n / 1000000000 ^ j)) wr
  gs : U32 w1 vg (groups n)
  below1 : Below w1.heap.size w1 wr
  below : Below w.heap.size w w1
  j : j < (groups n).length

theorem TxtAt.u32 {w w1 wr : World} {s : Bool} {n j : Nat} {vg : Value} (h : TxtAt w w1 wr s n j vg) : U32 wr vg (groups n) := h.gs.below h.below1

/-- A small part's text and its padding, written behind what is there. -/
theorem TxtAt.next {w w1 wr w6 : World} {s : Bool} {n j : Nat} {vg : Value} (h : TxtAt w w1 wr s n (j + 1) vg) {l1 l2 : List UInt8}
    (h6 : Bld w1.heap.size w1.heap.size (signText s ++ decDigits (n / 1000000000 ^ (j + 1)) ++ l1 ++ l2) w6) (e1 : l1 ++ l2 = List.replicate (9 - (decDigits (n / 1000000000 ^ j % 1000000000)).length) 48 ++ decDigits (n / 1000000000 ^ j % 1000000000))
    (hb : Below w1.heap.size w1 w6) : TxtAt w w1 w6 s n j vg := by
  refine ⟨?_, h.gs, hb, h.below, Nat.lt_of_succ_lt h.j⟩
  have h1 := (groups_at h.j).1
  rw [← pow9] at h1
  have h2 : 1000000000 ≤ n / 1000000000 ^ j := by
    generalize n / 1000000000 ^ j = q at h1
    omega
  rw [digits_group h2, pow9, ← e1, ← List.append_assoc, ← List.append_assoc]
  exact h6

theorem u32_lt {w : World} {v : Value} {l : List Nat} (h : U32 w v l) : l.length ≤ maxLen := by
  obtain ⟨A, c, _, h1, h2, _⟩ := h.form
  omega

theorem Text_form {w : World} {A : Option Addr} {L c : Nat} {l : List Nat} (h : U32 w (.slice A L c) l) {k : Nat} (hk : l.length = k + 1) :
    ∃ b o, A = some ⟨b, o, none⟩ ∧ b < w.heap.size ∧ ∀ i, i < k + 1 → w.cell? ⟨b, o + i, none⟩ = some (.int .u32 (l.getD i 0 : Nat)) := by
  obtain ⟨A', c', e, _, _, hf⟩ := h.form
  obtain ⟨b, o, rfl, h1, h2⟩ := hf (by intro h0; rw [h0] at hk; simp at hk)
  injection e with e1 _ _
  exact ⟨b, o, e1, h1, fun i hi => h2 i (by omega)⟩

set_option maxRecDepth 100000 in
set_option maxHeartbeats 4000000 in
theorem Text_zero (s : Bool) (m : Value) (l : List Nat) (w : World) (h : U32 w m l) (hz : val l = 0) :
    Calls Tryd.prog 31 #[.agg #[.bool s, m]] w fun e w' => e = .returned (.string ⟨#[48]⟩) ∧ Below w.heap.size w w' := by
  have bA := Box.new w s m
  have hb0 : Below w.heap.size w (w.alloc (.cells #[.bool s, m] 24)) := (Below.refl w.heap.size w).alloc (Nat.le_refl _) _
  have h' := h.below hb0
  have cA0 := bA.c0
  have cA1 := bA.c1
  have fA0 := bA.f0
  have fA1 := bA.f1
  have c0 := trim_any m l _ h'
  have HC := Lib.hid c0
  clear c0
  go_enter Tryd.func31, Tryd.ntmps31
  go_wp2_with fail
  refine HC.out.mono ?_
  rintro e w1 ⟨v1, rfl, rfl, hm1, -⟩
  have hmag := hm1 _ h'
  rw [hz] at hmag
  clear hm1 HC
  go_wp2_with fail
  refine (decimalGroups_any v1 0 _ hmag (by rw [digs_zero]; simp)).mono ?_
  rintro e w2 ⟨v2, rfl, hu2, hb2⟩
  rw [groups_zero] at hu2
  obtain ⟨A, c, rfl, -⟩ := id hu2.form
  have hbf := hb0.trans (hb2.mono (by simp))
  clear hu2 hb2 hmag h h'
  go_wp2
  go_ret
  exact ⟨rfl, hbf⟩

set_option maxRecDepth 100000 in
set_option maxHeartbeats 4000000 in
theorem Text_more (s : Bool) (m : Value) (l : List Nat) (w : World) (h : U32 w m l) (hz : val l ≠ 0) (hn : (digs (val l)).length ≤ 100000) (htab : Tab10 w) :
    Calls Tryd.prog 31 #[.agg #[.bool s, m]] w fun e w' => e = .returned (.string ⟨(signText s ++ decDigits (val l)).toArray⟩) ∧ Below w.heap.size w w' := by
  have bA := Box.new w s m
  have hb0 : Below w.heap.size w (w.alloc (.cells #[.bool s, m] 24)) := (Below.refl w.heap.size w).alloc (Nat.le_refl _) _
  have h' := h.below hb0
  have cA0 := bA.c0
  have cA1 := bA.c1
  have fA0 := bA.f0
  have fA1 := bA.f1
  have c0 := trim_any m l _ h'
  have HC := Lib.hid c0
  clear c0
  generalize hN : val l = n at *
  have HZ := Lib.hid hz
  have HN := Lib.hid hn
  clear hz hn hN
  go_enter Tryd.func31, Tryd.ntmps31
  go_wp2_with fail
  refine HC.out.mono ?_
  rintro e w1 ⟨v1, rfl, rfl, hm1, -⟩
  have hmag := hm1 _ h'
  clear hm1 HC h h'
  go_wp2_with fail
  refine (decimalGroups_any v1 n _ hmag HN.out).mono ?_
  rintro e w2 ⟨v2, rfl, hu2, hb2⟩
  obtain ⟨A, c, rfl, -⟩ := id hu2.form
  have hbf := hb0.trans (hb2.mono (by simp))
  have htab2 := tab_below htab hbf
  have bA2 := Box.below bA hb2 (by simp)
  have bA3 := bA2.alloc (.cells #[.pointer none, .slice none 0 0] 61)
  have cB0 := bA3.c0
  have cB1 := bA3.c1
  have fB0 := bA3.f0
  have fB1 := bA3.f1
  have hlen : 0 < (groups n).length := by
    rcases Nat.eq_zero_or_pos (groups n).length with h0 | h0
    · exact absurd (groups_nil.1 (List.eq_nil_of_length_eq_zero h0)) HZ.out
    · exact h0
  have hlen2 := groups_digs HN.out
  have HT := Lib.hid htab2
  have HU := Lib.hid hu2
  have HB := Lib.hid hbf
  obtain ⟨k, hk⟩ : ∃ k, (groups n).length = k + 1 := ⟨(groups n).length - 1, by omega⟩
  have HK := Lib.hid hk
  rw [hk] at hlen2 ⊢
  clear hb2 hmag htab htab2 hu2 hbf bA hb0 bA2 bA3 cA0 cA1 fA0 fA1 hlen hk
  cases s
  · have hB3 : Bld w2.heap.size w2.heap.size (signText false) (w2.alloc (.cells #[.pointer none, .slice none 0 0] 61)) := fresh_isBuilder _ _ w2
    have hb3 : Below w2.heap.size w2 (w2.alloc (.cells #[.pointer none, .slice none 0 0] 61)) := (Below.refl _ _).alloc (Nat.le_refl _) _
    obtain ⟨b, o, rfl, hbl, hcl⟩ := Text_form HU.out HK.out
    have hx := hcl k (by omega)
    have hxs := groups_at (n := n) (i := k) (by have := HK.out; omega)
    have hxl : (groups n).getD k 0 < 1000000000 := by rw [hxs.2]; exact Nat.mod_lt _ (by omega)
    have hxe : Hid ((groups n).getD k 0 = n / 1000000000 ^ k) := by
      have h1 := groups_out (n := n) (i := k + 1) (by have := HK.out; omega)
      rw [← pow9] at h1
      rw [Hid, hxs.2]
      generalize n / 1000000000 ^ k = q at h1
      omega
    have hx3 := (hb3.cell (p := ⟨b, o + k, none⟩) hbl).trans hx
    clear hx hxs
    have hcl2 : Hid (∀ i, i < k + 1 → w2.cell? ⟨b, o + i, none⟩ = some (.int .u32 ((groups n).getD i 0 : Nat))) := hcl
    clear hcl
    generalize (groups n).getD k 0 = x at *
    have HT3 := Lib.hid (tab_below HT.out hb3)
    go_wp2_with fail
    refine (digits_any x (by omega) _ HT3.out).mono ?_
    rintro e w4 ⟨rfl, hb4⟩
    have hl4 : (decDigits x).length ≤ 3200001 := by
      rw [decDigits_length]
      exact Nat.le_trans (nDigits_le 8 x (by simpa using hxl)) (by omega)
    have hB4 := bld_below hB3 hb4
    have hb24 := hb3.trans (hb4.mono hb3.size)
    have hsl := signText_len false
    clear hB3 hb4 hb3
    go_wp2_with fail
    refine (writeString_any _ _ _ _ _ hB4 (by first | omega | (simp only [List.length_append, List.length_nil, List.length_singleton]; omega)) hb24.size).mono ?_
    rintro e w5 ⟨rfl, hB5, hb5⟩
    have hs : TxtAt w w2 w5 false n k (.slice (some ⟨b, o, none⟩) (k + 1) c) := ⟨by rw [← hxe.out]; exact hB5, HK.out ▸ HU.out, hb24.trans hb5, HB.out, by rw [HK.out]; omega⟩
    clear hB4 hB5 hb5 hb24 hl4 HT3 hxe hx3 hxl hsl
    go_wp2
    go_loopw [6, 7] (fun i _ wr => ∃ j : Nat, i = .int .i64 ((j : Int) - 1) ∧ TxtAt w w2 wr false n j (.slice (some ⟨b, o, none⟩) (k + 1) c)) (fun i _ _ => (RowKit.intOf i + 1).toNat)
    case atStart => exact ⟨k, rfl, hs⟩
    case round =>
      clear hs
      obtain ⟨j, rfl, hs⟩ := hrel
      rcases j with _ | j
      · have hB := hs.bld
        have hb := hs.below1
        have hfin := hs.below.trans (hb.mono hs.below.size)
        clear hs
        go_wp2_with fail
        refine (Tryd.Builder_String_any _ _ _ _ hB hb.size).mono ?_
        rintro e w6 ⟨rfl, hb6⟩
        have hfin2 := hfin.trans (hb6.mono HB.out.size)
        rw [Nat.pow_zero, Nat.div_one]
        clear hB hb hb6 hfin
        go_wp2
        go_ret
        exact ⟨rfl, hfin2⟩
      · have ei : ((j + 1 : Nat) : Int) - 1 = (j : Int) := by omega
        rw [ei]
        have hj := hs.j
        rw [HK.out] at hj
        have hxs := groups_at (n := n) (i := j) (by rw [HK.out]; omega)
        have hx := (hs.below1.cell (p := ⟨b, o + j, none⟩) hbl).trans (hcl2.out j (by omega))
        have hyl : (groups n).getD j 0 < 1000000000 := by rw [hxs.2]; exact Nat.mod_lt _ (by omega)
        have HY : Hid ((groups n).getD j 0 = n / 1000000000 ^ j % 1000000000) := hxs.2
        clear hxs
        generalize (groups n).getD j 0 = y at *
        have HS := Lib.hid hs
        have HT3 := Lib.hid (tab_below (tab_below HT.out (hs.below1.mono (Nat.le_refl _))) (Below.refl _ _))
        clear hs
        have hd9 : (decDigits y).length ≤ 9 := by rw [decDigits_length]; exact nDigits_le 8 y (by simpa using hyl)
        have cy := fun W (h : Tab10 W) => digits_any y (by omega) W h
        obtain ⟨L, hL⟩ : ∃ L, L = decDigits y := ⟨_, rfl⟩
        rw [← hL] at hd9 cy
        have CY := Lib.hid cy
        have HL := Lib.hid hL
        clear cy hL
        obtain ⟨d, hd⟩ : ∃ d, L.length = 9 - d ∧ d ≤ 9 := ⟨9 - L.length, by omega, by omega⟩
        go_wp2_with fail
        refine (CY.out _ HT3.out).mono ?_
        rintro e w3' ⟨rfl, hb3'⟩
        have hB3' := bld_below HS.out.bld hb3'
        have hbw := HS.out.below1.trans (hb3'.mono HS.out.below1.size)
        have hroom := digits_room HN.out (n / 1000000000 ^ (j + 1)) (Nat.div_le_self _ _)
        have hsl := signText_len false
        have cr : Calls Tryd.prog 60 #[.string ⟨#[48]⟩, .int .i64 (d : Int)] w3' fun e w' => e = .returned (.string ⟨(List.replicate d (48 : UInt8)).toArray⟩) ∧ Below w3'.heap.size w3' w' := by
          rw [← repeat_zero]
          exact Tryd.strings_Repeat ⟨#[48]⟩ d w3' (by omega) (by show 1 * d ≤ _; omega)
        have e9 : (9 : Int) - (L.length : Int) = (d : Int) := by omega
        have CR := Lib.hid cr
        have E9 := Lib.hid e9
        have HD := Lib.hid hd
        clear cr hb3' e9 hd
        go_wp2_with fail
        rw [E9.out]
        refine CR.out.mono ?_
        rintro e w4' ⟨rfl, hb4'⟩
        have hB4' := bld_below hB3' hb4'
        have hbw4 := hbw.trans (hb4'.mono hbw.size)
        clear hB3' hbw hb4' CR E9
        have hd2 := HD.out.2
        have hd1 : L.length ≤ 9 := by have := HD.out.1; omega
        go_wp2_with fail
        refine (writeString_any _ _ _ _ _ hB4' (by simp only [List.length_append, List.length_replicate]; omega) hbw4.size).mono ?_
        rintro e w5' ⟨rfl, hB5', hb5'⟩
        have hbw5 := hbw4.trans hb5'
        clear hB4' hbw4 hb5'
        go_wp2_with fail
        refine (writeString_any _ _ _ _ _ hB5' (by simp only [List.length_append, List.length_replicate]; omega) hbw5.size).mono ?_
        rintro e w6' ⟨rfl, hB6', hb6'⟩
        have hbw6 := hbw5.trans hb6'
        have hnx := TxtAt.next HS.out hB6' (by rw [← HY.out, ← HL.out, HD.out.1, show 9 - (9 - d) = d from by omega]) hbw6
        clear hB5' hbw5 hB6' hb6' hbw6
        go_wp2
        go_roundw
        case rel => exact ⟨j, by go_num, hnx⟩
        case measure => simp only [RowKit.intOf]; omega
  · have hB0 : Bld w2.heap.size w2.heap.size [] (w2.alloc (.cells #[.pointer none, .slice none 0 0] 61)) := fresh_isBuilder _ _ w2
    have hb0 : Below w2.heap.size w2 (w2.alloc (.cells #[.pointer none, .slice none 0 0] 61)) := (Below.refl _ _).alloc (Nat.le_refl _) _
    go_wp2_with fail
    refine (writeByte_any _ _ _ 45 _ hB0 (by simp) hb0.size).mono ?_
    rintro e w3 ⟨rfl, hB3, hb3'⟩
    have hb3 := hb0.trans hb3'
    clear hb3' hB0 hb0 cB0 cB1 fB0 fB1
    obtain ⟨b, o, rfl, hbl, hcl⟩ := Text_form HU.out HK.out
    have hx := hcl k (by omega)
    have hxs := groups_at (n := n) (i := k) (by have := HK.out; omega)
    have hxl : (groups n).getD k 0 < 1000000000 := by rw [hxs.2]; exact Nat.mod_lt _ (by omega)
    have hxe : Hid ((groups n).getD k 0 = n / 1000000000 ^ k) := by
      have h1 := groups_out (n := n) (i := k + 1) (by have := HK.out; omega)
      rw [← pow9] at h1
      rw [Hid, hxs.2]
      generalize n / 1000000000 ^ k = q at h1
      omega
    have hx3 := (hb3.cell (p := ⟨b, o + k, none⟩) hbl).trans hx
    clear hx hxs
    have hcl2 : Hid (∀ i, i < k + 1 → w2.cell? ⟨b, o + i, none⟩ = some (.int .u32 ((groups n).getD i 0 : Nat))) := hcl
    clear hcl
    generalize (groups n).getD k 0 = x at *
    have HT3 := Lib.hid (tab_below HT.out hb3)
    go_wp2_with fail
    refine (digits_any x (by omega) _ HT3.out).mono ?_
    rintro e w4 ⟨rfl, hb4⟩
    have hl4 : (decDigits x).length ≤ 3200001 := by
      rw [decDigits_length]
      exact Nat.le_trans (nDigits_le 8 x (by simpa using hxl)) (by omega)
    have hB4 := bld_below hB3 hb4
    have hb24 := hb3.trans (hb4.mono hb3.size)
    have hsl := signText_len true
    clear hB3 hb4 hb3
    go_wp2_with fail
    refine (writeString_any _ _ _ _ _ hB4 (by first | omega | (simp only [List.length_append, List.length_nil, List.length_singleton]; omega)) hb24.size).mono ?_
    rintro e w5 ⟨rfl, hB5, hb5⟩
    have hs : TxtAt w w2 w5 true n k (.slice (some ⟨b, o, none⟩) (k + 1) c) := ⟨by rw [← hxe.out]; exact hB5, HK.out ▸ HU.out, hb24.trans hb5, HB.out, by rw [HK.out]; omega⟩
    clear hB4 hB5 hb5 hb24 hl4 HT3 hxe hx3 hxl hsl
    go_wp2
    go_loopw [6, 7] (fun i _ wr => ∃ j : Nat, i = .int .i64 ((j : Int) - 1) ∧ TxtAt w w2 wr true n j (.slice (some ⟨b, o, none⟩) (k + 1) c)) (fun i _ _ => (RowKit.intOf i + 1).toNat)
    case atStart => exact ⟨k, rfl, hs⟩
    case round =>
      clear hs
      obtain ⟨j, rfl, hs⟩ := hrel
      rcases j with _ | j
      · have hB := hs.bld
        have hb := hs.below1
        have hfin := hs.below.trans (hb.mono hs.below.size)
        clear hs
        go_wp2_with fail
        refine (Tryd.Builder_String_any _ _ _ _ hB hb.size).mono ?_
        rintro e w6 ⟨rfl, hb6⟩
        have hfin2 := hfin.trans (hb6.mono HB.out.size)
        rw [Nat.pow_zero, Nat.div_one]
        clear hB hb hb6 hfin
        go_wp2
        go_ret
        exact ⟨rfl, hfin2⟩
      · have ei : ((j + 1 : Nat) : Int) - 1 = (j : Int) := by omega
        rw [ei]
        have hj := hs.j
        rw [HK.out] at hj
        have hxs := groups_at (n := n) (i := j) (by rw [HK.out]; omega)
        have hx := (hs.below1.cell (p := ⟨b, o + j, none⟩) hbl).trans (hcl2.out j (by omega))
        have hyl : (groups n).getD j 0 < 1000000000 := by rw [hxs.2]; exact Nat.mod_lt _ (by omega)
        have HY : Hid ((groups n).getD j 0 = n / 1000000000 ^ j % 1000000000) := hxs.2
        clear hxs
        generalize (groups n).getD j 0 = y at *
        have HS := Lib.hid hs
        have HT3 := Lib.hid (tab_below (tab_below HT.out (hs.below1.mono (Nat.le_refl _))) (Below.refl _ _))
        clear hs
        have hd9 : (decDigits y).length ≤ 9 := by rw [decDigits_length]; exact nDigits_le 8 y (by simpa using hyl)
        have cy := fun W (h : Tab10 W) => digits_any y (by omega) W h
        obtain ⟨L, hL⟩ : ∃ L, L = decDigits y := ⟨_, rfl⟩
        rw [← hL] at hd9 cy
        have CY := Lib.hid cy
        have HL := Lib.hid hL
        clear cy hL
        obtain ⟨d, hd⟩ : ∃ d, L.length = 9 - d ∧ d ≤ 9 := ⟨9 - L.length, by omega, by omega⟩
        go_wp2_with fail
        refine (CY.out _ HT3.out).mono ?_
        rintro e w3' ⟨rfl, hb3'⟩
        have hB3' := bld_below HS.out.bld hb3'
        have hbw := HS.out.below1.trans (hb3'.mono HS.out.below1.size)
        have hroom := digits_room HN.out (n / 1000000000 ^ (j + 1)) (Nat.div_le_self _ _)
        have hsl := signText_len true
        have cr : Calls Tryd.prog 60 #[.string ⟨#[48]⟩, .int .i64 (d : Int)] w3' fun e w' => e = .returned (.string ⟨(List.replicate d (48 : UInt8)).toArray⟩) ∧ Below w3'.heap.size w3' w' := by
          rw [← repeat_zero]
          exact Tryd.strings_Repeat ⟨#[48]⟩ d w3' (by omega) (by show 1 * d ≤ _; omega)
        have e9 : (9 : Int) - (L.length : Int) = (d : Int) := by omega
        have CR := Lib.hid cr
        have E9 := Lib.hid e9
        have HD := Lib.hid hd
        clear cr hb3' e9 hd
        go_wp2_with fail
        rw [E9.out]
        refine CR.out.mono ?_
        rintro e w4' ⟨rfl, hb4'⟩
        have hB4' := bld_below hB3' hb4'
        have hbw4 := hbw.trans (hb4'.mono hbw.size)
        clear hB3' hbw hb4' CR E9
        have hd2 := HD.out.2
        have hd1 : L.length ≤ 9 := by have := HD.out.1; omega
        go_wp2_with fail
        refine (writeString_any _ _ _ _ _ hB4' (by simp only [List.length_append, List.length_replicate]; omega) hbw4.size).mono ?_
        rintro e w5' ⟨rfl, hB5', hb5'⟩
        have hbw5 := hbw4.trans hb5'
        clear hB4' hbw4 hb5'
        go_wp2_with fail
        refine (writeString_any _ _ _ _ _ hB5' (by simp only [List.length_append, List.length_replicate]; omega) hbw5.size).mono ?_
        rintro e w6' ⟨rfl, hB6', hb6'⟩
        have hbw6 := hbw5.trans hb6'
        have hnx := TxtAt.next HS.out hB6' (by rw [← HY.out, ← HL.out, HD.out.1, show 9 - (9 - d) = d from by omega]) hbw6
        clear hB5' hbw5 hB6' hb6' hbw6
        go_wp2
        go_roundw
        case rel => exact ⟨j, by go_num, hnx⟩
        case measure => simp only [RowKit.intOf]; omega
end Go.Proofs.YtgfoplokplnpgaaDoor
