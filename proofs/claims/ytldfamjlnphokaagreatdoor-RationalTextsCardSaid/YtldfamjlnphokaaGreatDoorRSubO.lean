/- The reference: sub, whose result is memory of its own. -/
import Derived.Test.YtldfamjlnphokaaGreatDoorRefC
import Derived.Test.YtldfamjlnphokaaGreatDoorRefO

set_option linter.unusedVariables false
set_option linter.unusedSimpArgs false

namespace Go.Proofs.YtldfamjlnphokaaGreatDoor
open Go Go.RowKit Num

theorem Owned.base {w w1 w2 : World} {n : Nat} {v : Value} (h : Owned w1 w2 n v) (hs : w.heap.size ≤ w1.heap.size) : Owned w w2 n v := by
  rcases h with h | ⟨h0, g, cap, ex, e, hg, h1, h2, h3⟩
  · exact Or.inl h
  · exact Or.inr ⟨h0, g, cap, ex, e, Nat.le_trans hs hg, h1, h2, h3⟩
theorem Owned.mag {w w' : World} {n : Nat} {v : Value} (h : Owned w w' n v) : ∃ A c, v = .slice A (digs n).length c ∧ U32 w' v (digs n) := by
  rcases h with ⟨rfl, A, c, rfl, hc⟩ | ⟨h0, g, cap, ex, rfl, hg, h1, h2, h3⟩
  · exact ⟨A, c, by rw [digs_zero]; rfl, by rw [digs_zero]; exact U32.nil A hc⟩
  · exact ⟨_, cap, rfl, h1.u32 (digs_lt n) h2 h3⟩
theorem Owned.store {w w' : World} {n : Nat} {v : Value} (h : Owned w w' n v) {a : Addr} (ha : a.block < w.heap.size) (u : Value) : Owned w (w'.setCell a u) n v := by
  rcases h with h | ⟨h0, g, cap, ex, e, hg, h1, h2, h3⟩
  · exact Or.inl h
  · exact Or.inr ⟨h0, g, cap, ex, e, hg, h1.other (by omega) u, h2, h3⟩
set_option maxRecDepth 100000 in
set_option maxHeartbeats 4000000 in
theorem rsub_own (v1 v2 : Value) (l1 l2 : List Nat) (w : World) (h1 : U32 w v1 l1) (h2 : U32 w v2 l2) (hn1 : l1.length ≤ 500000) (hle : l2.length ≤ l1.length) (hv : val l2 ≤ val l1) :
    Calls Tryz.prog 101 #[v1, v2] w fun e w' => ∃ v, e = .returned v ∧ Owned w w' (val l1 - val l2) v ∧ Below w.heap.size w w' := by
  obtain ⟨i0, hi, hz0, hz1, hz2⟩ := info_parts info32
  obtain ⟨A1, cap1, rfl, hc1, hm1, hf1⟩ := id h1.form
  obtain ⟨A2, cap2, rfl, hc2, hm2, hf2⟩ := id h2.form
  have HI := Lib.hid hi
  have HF1 := Lib.hid hf1
  have HF2 := Lib.hid hf2
  have HL := Lib.hid (And.intro h1.lt h2.lt)
  have HV := Lib.hid hv
  clear hi hf1 hf2 h1 h2 hm1 hm2 hv
  go_enter Tryz.func101, Tryz.ntmps101
  go_wp2
  go_loopw [5, 6, 7, 8] (fun v cy i _ wr => ∃ (k b : Nat) (done : List Nat), k ≤ l1.length ∧ cy = .int .i64 b ∧ i = .int .i64 k ∧ RSubAt w wr l1 l2 k b v done) (fun _ _ i _ _ => l1.length - (intOf i).toNat)
  case atStart => exact ⟨0, 0, [], by omega, rfl, rfl, ⟨OutAt.start w, rfl, by simp, by omega, by simp [val]⟩⟩
  case round =>
    obtain ⟨k, b, done, hk, rfl, rfl, hs⟩ := hrel
    have hcy := hs.carry
    have hlen := hs.len
    have hb := hs.out.below
    have hsz := hb.size
    have a1 := getD_lt HL.out.1 k
    have a2 := getD_lt HL.out.2 k
    have HS := Lib.hid hs
    have HO := Lib.hid (fun p : Nat => hs.out.ahead (.cells #[.int .u32 (p : Int)] 49))
    have HN := Lib.hid (fun w2 v' p b' => hs.step (w2 := w2) (v' := v') (p := p) (b' := b') HL.out.1 HL.out.2)
    have HB := Lib.hid hb
    have HLE := Lib.hid hlen
    have hlk : done.length ≤ 500001 := by omega
    clear hs hb hlen
    by_cases hk1 : k < l1.length
    · obtain ⟨b1, o1, rfl, hb1, hcell1⟩ := HF1.out (by intro h; rw [h] at hk1; simp at hk1)
      have hx := (HB.out.cell (p := ⟨b1, o1 + k, none⟩) hb1).trans (hcell1 k hk1)
      clear hcell1 HF1
      generalize l1.getD k 0 = x at *
      by_cases hk2 : k < l2.length
      · obtain ⟨b2, o2, rfl, hb2, hcell2⟩ := HF2.out (by intro h; rw [h] at hk2; simp at hk2)
        have hy := (HB.out.cell (p := ⟨b2, o2 + k, none⟩) hb2).trans (hcell2 k hk2)
        clear hcell2 HF2
        generalize l2.getD k 0 = y at *
        by_cases hlt : x < y + b
        · obtain ⟨q, hq⟩ : ∃ q : Int, (x : Int) - (b : Int) - (y : Int) = q := ⟨_, rfl⟩
          have hq0 : q < 0 := by omega
          obtain ⟨p, hp⟩ : ∃ p : Nat, q + 4294967296 = (p : Int) := ⟨(q + 4294967296).toNat, by omega⟩
          have hp32 : p < 4294967296 := by omega
          have HX := Lib.hid (fun w2 v' => HN.out w2 v' p 1 hp32 (by omega) (by omega))
          have hqm : -8589934592 ≤ q := by omega
          have hrow2 := HO.out p
          clear HN hlt
          go_wp2_with ((at_builtin; refine wpList_append_own _ rfl _ _ 22 rfl w.heap.size 49 i0 (.int .u32 0) 1 4 Tryz.underlying22 HI.out hz0 hz1 hz2 rfl (by decide) u5 done.length (ws done) rfl hrow2 ⟨wr.heap.size, 0, none⟩ 1 1 [.int .u32 (p : Int)] rfl rfl (new_word wr p) (by intro u hu; simp at hu; subst hu; rfl) (by simp only [maxLen]; omega) (by omega) (by simp; omega) ?_; intro v3 w3 hown3 hgrow3 hnil3))
          replace HX := Lib.hid (HX.out w3 v3 hown3 hgrow3)
          clear hown3 hgrow3 hnil3 hrow2
          go_wp2
          go_roundw
          case rel => exact ⟨k + 1, 1, _, by omega, rfl, by go_num, HX.out⟩
          case measure => simp only [intOf]; omega
        · obtain ⟨p, hp⟩ : ∃ p : Nat, (x : Int) - (b : Int) - (y : Int) = (p : Int) := ⟨((x : Int) - (b : Int) - (y : Int)).toNat, by omega⟩
          have hp32 : p < 4294967296 := by omega
          have HX := Lib.hid (fun w2 v' => HN.out w2 v' p 0 hp32 (by omega) (by omega))
          have hrow2 := HO.out p
          clear HN hlt
          go_wp2_with ((at_builtin; refine wpList_append_own _ rfl _ _ 22 rfl w.heap.size 49 i0 (.int .u32 0) 1 4 Tryz.underlying22 HI.out hz0 hz1 hz2 rfl (by decide) u5 done.length (ws done) rfl hrow2 ⟨wr.heap.size, 0, none⟩ 1 1 [.int .u32 (p : Int)] rfl rfl (new_word wr p) (by intro u hu; simp at hu; subst hu; rfl) (by simp only [maxLen]; omega) (by omega) (by simp; omega) ?_; intro v3 w3 hown3 hgrow3 hnil3))
          replace HX := Lib.hid (HX.out w3 v3 hown3 hgrow3)
          clear hown3 hgrow3 hnil3 hrow2
          go_wp2
          go_roundw
          case rel => exact ⟨k + 1, 0, _, by omega, rfl, by go_num, HX.out⟩
          case measure => simp only [intOf]; omega
      · have e2 : l2.getD k 0 = 0 := by simp only [List.getD_eq_getElem?_getD, List.getElem?_eq_none (by omega : l2.length ≤ k)]; rfl
        rw [e2] at HN a2
        clear e2 HF2 a2
        by_cases hlt : x < b
        · obtain ⟨q, hq⟩ : ∃ q : Int, (x : Int) - (b : Int) = q := ⟨_, rfl⟩
          have hq0 : q < 0 := by omega
          obtain ⟨p, hp⟩ : ∃ p : Nat, q + 4294967296 = (p : Int) := ⟨(q + 4294967296).toNat, by omega⟩
          have hp32 : p < 4294967296 := by omega
          have HX := Lib.hid (fun w2 v' => HN.out w2 v' p 1 hp32 (by omega) (by omega))
          have hqm : -8589934592 ≤ q := by omega
          have hrow2 := HO.out p
          clear HN hlt
          go_wp2_with ((at_builtin; refine wpList_append_own _ rfl _ _ 22 rfl w.heap.size 49 i0 (.int .u32 0) 1 4 Tryz.underlying22 HI.out hz0 hz1 hz2 rfl (by decide) u5 done.length (ws done) rfl hrow2 ⟨wr.heap.size, 0, none⟩ 1 1 [.int .u32 (p : Int)] rfl rfl (new_word wr p) (by intro u hu; simp at hu; subst hu; rfl) (by simp only [maxLen]; omega) (by omega) (by simp; omega) ?_; intro v3 w3 hown3 hgrow3 hnil3))
          replace HX := Lib.hid (HX.out w3 v3 hown3 hgrow3)
          clear hown3 hgrow3 hnil3 hrow2
          go_wp2
          go_roundw
          case rel => exact ⟨k + 1, 1, _, by omega, rfl, by go_num, HX.out⟩
          case measure => simp only [intOf]; omega
        · obtain ⟨p, hp⟩ : ∃ p : Nat, (x : Int) - (b : Int) = (p : Int) := ⟨((x : Int) - (b : Int)).toNat, by omega⟩
          have hp32 : p < 4294967296 := by omega
          have HX := Lib.hid (fun w2 v' => HN.out w2 v' p 0 hp32 (by omega) (by omega))
          have hrow2 := HO.out p
          clear HN hlt
          go_wp2_with ((at_builtin; refine wpList_append_own _ rfl _ _ 22 rfl w.heap.size 49 i0 (.int .u32 0) 1 4 Tryz.underlying22 HI.out hz0 hz1 hz2 rfl (by decide) u5 done.length (ws done) rfl hrow2 ⟨wr.heap.size, 0, none⟩ 1 1 [.int .u32 (p : Int)] rfl rfl (new_word wr p) (by intro u hu; simp at hu; subst hu; rfl) (by simp only [maxLen]; omega) (by omega) (by simp; omega) ?_; intro v3 w3 hown3 hgrow3 hnil3))
          replace HX := Lib.hid (HX.out w3 v3 hown3 hgrow3)
          clear hown3 hgrow3 hnil3 hrow2
          go_wp2
          go_roundw
          case rel => exact ⟨k + 1, 0, _, by omega, rfl, by go_num, HX.out⟩
          case measure => simp only [intOf]; omega
    · obtain rfl : k = l1.length := by omega
      obtain ⟨hU, hvd⟩ := HS.out.done hle HV.out
      have HU := Lib.hid hU
      have HD := Lib.hid hvd
      clear hU hvd HN
      go_wp2_with fail
      refine (rtrim_own _ done _ HU.out (by omega)).mono ?_
      rw [HD.out]
      rintro e w4 ⟨v4, rfl, hm, hb4⟩
      have HM := Lib.hid (hm.base HB.out.size)
      have HBB := Lib.hid (nextw HB.out hb4)
      clear hm hb4
      go_wp2
      go_ret
      exact ⟨v4, rfl, HM.out, HBB.out⟩
end Go.Proofs.YtldfamjlnphokaaGreatDoor
