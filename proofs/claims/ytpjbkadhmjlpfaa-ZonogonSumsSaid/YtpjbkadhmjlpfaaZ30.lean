/- the reference's Valid. -/
import Derived.Test.YtpjbkadhmjlpfaaZ2
import Derived.Test.YtpjbkadhmjlpfaaZL
set_option linter.unusedVariables false
set_option linter.unusedSimpArgs false
namespace Go.Proofs.Ytpjbkadhmjlpfaa
open Go Go.RowKit Hd

set_option maxRecDepth 100000 in
set_option maxHeartbeats 4000000 in
theorem RValid_is (x y : Int) (A : Option Addr) (n c : Nat) (l : List P2)  (hn : n ≤ 1000000) (w : World) {lo_L hi_L : Nat} (L : PL w lo_L hi_L A n c l) :
    Calls Try.prog 20 #[.agg #[.int .i64 x, .int .i64 y, .slice A n c]] w fun e w' => e = .returned (.bool (decide (OkZ x y l))) ∧ Below w.heap.size w w' := by
  have hiL_L : hi_L ≤ w.heap.size := L.top
  replace L := Lib.hid L
  obtain ⟨HB, B_z0⟩ := box1 w 24 #[.int .i64 x, .int .i64 y, .slice A n c]
  replace L := Lib.hid (PL.below L.out HB.out)
  go_enter Try.func20, Try.ntmps20
  go_upto_region 1 with (fail)
  generalize w.alloc (.cells #[.int .i64 x, .int .i64 y, .slice A n c] 24) = W0 at *
  go_wp2_with fail
  go_loopw [3] (fun  kk wx => ∃ (k : Nat), k ≤ n ∧ kk = .int .i64 k ∧ Hid (∀ p ∈ l.take k, Vp p) ∧ Hid (PL wx lo_L hi_L A n c l) ∧ Hid (Bx wx (w.heap.size) 24 #[.int .i64 x, .int .i64 y, .slice A n c]) ∧ Hid (Below w.heap.size w wx)) (fun  kk _ => n - (intOf kk).toNat)
  case atStart => exact ⟨0, by omega, rfl, Lib.hid (by simp), L, B_z0, HB⟩
  case round =>
    clear L B_z0 HB
    obtain ⟨k, hk, rfl, HV, L, B_z0, HB⟩ := hrel
    by_cases hlt : k < n
    · skip
      have hlq0L : k < n := hlt
      obtain ⟨g_L, o_L, eA_L, -, -, -⟩ := L.out.elem hlq0L
      subst eA_L
      obtain ⟨⟨x_q0L, y_q0L⟩, hpq0L⟩ : ∃ q, l.getD k z2 = q := ⟨_, rfl⟩
      have HPq0L := Lib.hid hpq0L
      have HLq0L := Lib.hid hlq0L
      have hmq0L : (x_q0L, y_q0L) ∈ l := by rw [← hpq0L]; exact getD_mem (by have := L.out.len; omega)
      clear hpq0L hlq0L
      by_cases dd1 : Wi x_q0L 65536
      · skip
        by_cases dd2 : Wi y_q0L 65536
        · skip
          have H0 := Lib.hid (fun w => Rwithin_is x_q0L 65536 (by omega) w)
          have H1 := Lib.hid (fun w => Rwithin_is y_q0L 65536 (by omega) w)
          obtain ⟨c0z0, c1z0, c2z0⟩ := cells3 B_z0
          have e0q0L : wr.cell? ⟨g_L, o_L + k * 2, none⟩ = some (.int .i64 x_q0L) := (PL.el L.out HLq0L.out HPq0L.out).1
          have e1q0L : wr.cell? ⟨g_L, o_L + k * 2 + 1, none⟩ = some (.int .i64 y_q0L) := (PL.el L.out HLq0L.out HPq0L.out).2
          go_wp2_with fail
          refine (H0.out _).mono ?_
          clear c0z0 c1z0 c2z0 e0q0L e1q0L
          rintro e w1 ⟨rfl, bb⟩
          replace bb := nextw (w0 := wr) (by exact sm) bb
          replace B_z0 := mv B_z0 bb
          replace L := Lib.hid (PL.below L.out bb)
          replace HB := nx HB bb
          clear bb
          obtain ⟨c0z0, c1z0, c2z0⟩ := cells3 B_z0
          have e0q0L : w1.cell? ⟨g_L, o_L + k * 2, none⟩ = some (.int .i64 x_q0L) := (PL.el L.out HLq0L.out HPq0L.out).1
          have e1q0L : w1.cell? ⟨g_L, o_L + k * 2 + 1, none⟩ = some (.int .i64 y_q0L) := (PL.el L.out HLq0L.out HPq0L.out).2
          go_wp2_with fail
          refine (H1.out _).mono ?_
          clear c0z0 c1z0 c2z0 e0q0L e1q0L
          rintro e w2 ⟨rfl, bb⟩
          replace bb := nextw (w0 := w1) (by exact sm) bb
          replace B_z0 := mv B_z0 bb
          replace L := Lib.hid (PL.below L.out bb)
          replace HB := nx HB bb
          clear bb
          have HV2 : Hid (∀ p ∈ l.take (k + 1), Vp p) := by intro p hp; rw [take_snoc l z2 (by have := L.out.len; have := HLq0L.out; omega), HPq0L.out] at hp; rcases List.mem_append.mp hp with h | h; exact HV.out p h; simp at h; subst h; exact ⟨dd1, dd2⟩
          go_wp2_with fail
          go_roundw
          case rel => exact ⟨k + 1, by omega, by go_num, HV2, L, B_z0, HB⟩
          case measure => simp only [intOf]; omega
        · skip
          have H2 := Lib.hid (fun w => Rwithin_is x_q0L 65536 (by omega) w)
          have H3 := Lib.hid (fun w => Rwithin_is y_q0L 65536 (by omega) w)
          obtain ⟨c0z0, c1z0, c2z0⟩ := cells3 B_z0
          have e0q0L : wr.cell? ⟨g_L, o_L + k * 2, none⟩ = some (.int .i64 x_q0L) := (PL.el L.out HLq0L.out HPq0L.out).1
          have e1q0L : wr.cell? ⟨g_L, o_L + k * 2 + 1, none⟩ = some (.int .i64 y_q0L) := (PL.el L.out HLq0L.out HPq0L.out).2
          go_wp2_with fail
          refine (H2.out _).mono ?_
          clear c0z0 c1z0 c2z0 e0q0L e1q0L
          rintro e w3 ⟨rfl, bb⟩
          replace bb := nextw (w0 := wr) (by exact sm) bb
          replace B_z0 := mv B_z0 bb
          replace L := Lib.hid (PL.below L.out bb)
          replace HB := nx HB bb
          clear bb
          obtain ⟨c0z0, c1z0, c2z0⟩ := cells3 B_z0
          have e0q0L : w3.cell? ⟨g_L, o_L + k * 2, none⟩ = some (.int .i64 x_q0L) := (PL.el L.out HLq0L.out HPq0L.out).1
          have e1q0L : w3.cell? ⟨g_L, o_L + k * 2 + 1, none⟩ = some (.int .i64 y_q0L) := (PL.el L.out HLq0L.out HPq0L.out).2
          go_wp2_with fail
          refine (H3.out _).mono ?_
          clear c0z0 c1z0 c2z0 e0q0L e1q0L
          rintro e w4 ⟨rfl, bb⟩
          replace bb := nextw (w0 := w3) (by exact sm) bb
          replace B_z0 := mv B_z0 bb
          replace L := Lib.hid (PL.below L.out bb)
          replace HB := nx HB bb
          clear bb
          have HN : ¬ OkZ x y l := fun h => dd2 (h.2.2.2 _ hmq0L).2
          go_wp2
          go_ret
          exact ⟨rb (decide_eq_false HN).symm, nextw HB.out (by exact sm)⟩
      · skip
        have H4 := Lib.hid (fun w => Rwithin_is x_q0L 65536 (by omega) w)
        obtain ⟨c0z0, c1z0, c2z0⟩ := cells3 B_z0
        have e0q0L : wr.cell? ⟨g_L, o_L + k * 2, none⟩ = some (.int .i64 x_q0L) := (PL.el L.out HLq0L.out HPq0L.out).1
        have e1q0L : wr.cell? ⟨g_L, o_L + k * 2 + 1, none⟩ = some (.int .i64 y_q0L) := (PL.el L.out HLq0L.out HPq0L.out).2
        go_wp2_with fail
        refine (H4.out _).mono ?_
        clear c0z0 c1z0 c2z0 e0q0L e1q0L
        rintro e w5 ⟨rfl, bb⟩
        replace bb := nextw (w0 := wr) (by exact sm) bb
        replace B_z0 := mv B_z0 bb
        replace L := Lib.hid (PL.below L.out bb)
        replace HB := nx HB bb
        clear bb
        have HN : ¬ OkZ x y l := fun h => dd1 (h.2.2.2 _ hmq0L).1
        go_wp2
        go_ret
        exact ⟨rb (decide_eq_false HN).symm, nextw HB.out (by exact sm)⟩
    · skip
      have hkn : n = k := by omega
      subst hkn
      have HV3 : Hid (∀ p ∈ l, Vp p) := by have h := HV.out; rw [List.take_of_length_le (by have := L.out.len; omega)] at h; exact h
      clear HV
      by_cases dd1 : Wi x 8388608
      · skip
        by_cases dd2 : Wi y 8388608
        · skip
          have H5 := Lib.hid (fun w => Rwithin_is x 8388608 (by omega) w)
          have H6 := Lib.hid (fun w => Rwithin_is y 8388608 (by omega) w)
          obtain ⟨c0z0, c1z0, c2z0⟩ := cells3 B_z0
          go_wp2_with fail
          refine (H5.out _).mono ?_
          clear c0z0 c1z0 c2z0
          rintro e w6 ⟨rfl, bb⟩
          replace bb := nextw (w0 := wr) (by exact sm) bb
          replace B_z0 := mv B_z0 bb
          replace L := Lib.hid (PL.below L.out bb)
          replace HB := nx HB bb
          clear bb
          obtain ⟨c0z0, c1z0, c2z0⟩ := cells3 B_z0
          go_wp2_with fail
          refine (H6.out _).mono ?_
          clear c0z0 c1z0 c2z0
          rintro e w7 ⟨rfl, bb⟩
          replace bb := nextw (w0 := w6) (by exact sm) bb
          replace B_z0 := mv B_z0 bb
          replace L := Lib.hid (PL.below L.out bb)
          replace HB := nx HB bb
          clear bb
          obtain ⟨c0z0, c1z0, c2z0⟩ := cells3 B_z0
          have hlen := L.out.len
          have HN : ((n : Nat) : Int) ≤ 16 ↔ OkZ x y l := ⟨fun h => ⟨dd1, dd2, by omega, HV3.out⟩, fun h => by have := h.2.2.1; omega⟩
          clear hlen
          replace HN := Lib.hid HN
          go_wp2
          go_ret
          exact ⟨rb (decide_eq_decide.2 HN.out), nextw HB.out (by exact sm)⟩
        · skip
          have H7 := Lib.hid (fun w => Rwithin_is x 8388608 (by omega) w)
          have H8 := Lib.hid (fun w => Rwithin_is y 8388608 (by omega) w)
          obtain ⟨c0z0, c1z0, c2z0⟩ := cells3 B_z0
          go_wp2_with fail
          refine (H7.out _).mono ?_
          clear c0z0 c1z0 c2z0
          rintro e w8 ⟨rfl, bb⟩
          replace bb := nextw (w0 := wr) (by exact sm) bb
          replace B_z0 := mv B_z0 bb
          replace L := Lib.hid (PL.below L.out bb)
          replace HB := nx HB bb
          clear bb
          obtain ⟨c0z0, c1z0, c2z0⟩ := cells3 B_z0
          go_wp2_with fail
          refine (H8.out _).mono ?_
          clear c0z0 c1z0 c2z0
          rintro e w9 ⟨rfl, bb⟩
          replace bb := nextw (w0 := w8) (by exact sm) bb
          replace B_z0 := mv B_z0 bb
          replace L := Lib.hid (PL.below L.out bb)
          replace HB := nx HB bb
          clear bb
          have hlen := L.out.len
          have HN : ¬ OkZ x y l := fun h => dd2 h.2.1
          go_wp2
          go_ret
          exact ⟨rb (decide_eq_false HN).symm, nextw HB.out (by exact sm)⟩
      · skip
        have H9 := Lib.hid (fun w => Rwithin_is x 8388608 (by omega) w)
        obtain ⟨c0z0, c1z0, c2z0⟩ := cells3 B_z0
        go_wp2_with fail
        refine (H9.out _).mono ?_
        clear c0z0 c1z0 c2z0
        rintro e w10 ⟨rfl, bb⟩
        replace bb := nextw (w0 := wr) (by exact sm) bb
        replace B_z0 := mv B_z0 bb
        replace L := Lib.hid (PL.below L.out bb)
        replace HB := nx HB bb
        clear bb
        have hlen := L.out.len
        have HN : ¬ OkZ x y l := fun h => dd1 h.1
        go_wp2
        go_ret
        exact ⟨rb (decide_eq_false HN).symm, nextw HB.out (by exact sm)⟩
end Go.Proofs.Ytpjbkadhmjlpfaa
