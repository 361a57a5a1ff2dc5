/- wayfinderbase.Mod; the reference's Has; wayfinderbase.Ints. -/
import Derived.Test.YtincejndchdcdaaHRArc
namespace Go.Proofs.Ytincejndchdcdaa
open Go Go.RowKit Hd

theorem tmod_pos' {a b : Int} (hb : 0 < b) (h : 0 ≤ a.tmod b) : a.tmod b = a % b := by
  have h1 := Int.tmod_eq_emod (a := a) (b := b)
  have h2 := Int.emod_nonneg a (show b ≠ 0 by omega)
  have h3 := Int.emod_lt_of_pos a hb
  have h4 : (b.natAbs : Int) = b := by omega
  split at h1 <;> omega
theorem tmod_neg' {a b : Int} (hb : 0 < b) (h : a.tmod b < 0) : a.tmod b + b = a % b := by
  have h1 := Int.tmod_eq_emod (a := a) (b := b)
  have h2 := Int.emod_nonneg a (show b ≠ 0 by omega)
  have h4 : (b.natAbs : Int) = b := by omega
  split at h1 <;> omega
set_option maxRecDepth 100000 in
set_option maxHeartbeats 4000000 in
theorem Mod_q (a b : Int) (w : World) (g1 : 1 ≤ b) (g2 : b ≤ 1000) :
    Calls Try.prog 48 #[.int .i64 a, .int .i64 b] w fun e w' => e = .returned (.int .i64 (a % b)) ∧ w' = w := by
  have hn1 : -1000 ≤ a.tmod b ∧ a.tmod b ≤ 1000 := by
    have h1 := Int.tmod_eq_emod (a := a) (b := b)
    have h2 := Int.emod_nonneg a (show b ≠ 0 by omega)
    have h3 := Int.emod_lt_of_pos a (show 0 < b by omega)
    have h4 : (b.natAbs : Int) = b := by omega
    split at h1 <;> omega
  go_enter Try.func48, Try.ntmps48
  go_wp2_with fail
  · rename_i hh
    go_ret
    have e := tmod_neg' (a := a) (b := b) (by omega) hh
    exact ⟨ret_i64 (by rw [← e]), rfl⟩
  · rename_i hh
    go_ret
    exact ⟨ret_i64 (tmod_pos' (by omega) hh), rfl⟩
theorem Mod_at {a m : Int} (h : a % 256 = m) (w : World) :
    Calls Try.prog 48 #[.int .i64 a, .int .i64 256] w fun e w' => e = .returned (.int .i64 m) ∧ w' = w := h ▸ Mod_q a 256 w (by decide) (by decide)

set_option maxRecDepth 100000 in
set_option maxHeartbeats 1000000 in
theorem RHas_bad (f c h : Int) (hn : ¬ OkA f c) (w : World) :
    Calls Try.prog 33 #[av f c, .int .i64 h] w fun e w' => e = .returned (.bool false) ∧ Below w.heap.size w w' := by
  have HL := Lib.hid (fun w => RList_bad f c hn w)
  clear hn
  have HB := Lib.hid (show Below w.heap.size w (w.alloc (.cells #[.int .i64 f, .int .i64 c] 43)) from ((Below.refl _ _).alloc (by simp <;> omega) _))
  have B_a : Box2 (w.alloc (.cells #[.int .i64 f, .int .i64 c] 43)) (w.heap.size) f c := by have h := (Box2.new w f c); simpa using h
  replace B_a := Lib.hid B_a
  go_enter Try.func33, Try.ntmps33
  go_wp2_with fail
  generalize w.alloc (.cells #[.int .i64 f, .int .i64 c] 43) = W0 at *
  have c0a := B_a.out.c0
  have c1a := B_a.out.c1
  refine (HL.out _).mono ?_
  clear c0a c1a
  rintro e w1 ⟨rfl, bb⟩
  replace bb := nextw (w0 := W0) (by exact ⟨rfl, rfl, rfl, Nat.le_refl _, fun _ _ => rfl⟩) bb
  replace B_a := Lib.hid (Box2.below B_a.out bb B_a.out.lt)
  replace HB := Lib.hid (nextw HB.out bb)
  clear bb
  go_wp2_with fail
  refine wp_loop_rounds 1 ?_
  rw [rounds_succ]
  go_wp2
  go_ret
  exact ⟨rfl, nextw HB.out (by exact ⟨rfl, rfl, rfl, Nat.le_refl _, fun _ _ => rfl⟩)⟩

set_option maxRecDepth 100000 in
set_option maxHeartbeats 4000000 in
theorem RHas_ok (f c h : Int) (hv : OkA f c) (w : World) :
    Calls Try.prog 33 #[av f c, .int .i64 h] w fun e w' => e = .returned (.bool (hasB f c h)) ∧ Below w.heap.size w w' := by
  have HL := Lib.hid (fun w => RList_ok f c hv w)
  obtain ⟨n, hn⟩ : ∃ n : Nat, c = n := ⟨c.toNat, by have := hv.c0; omega⟩
  subst hn
  have b0 := hv.c0
  have b1 := hv.c1
  have g0 := hv.f0
  have g1 := hv.f1
  have HP : Hid (marks f (n : Int).toNat = marks f n) := by unfold Hid; rw [Int.toNat_natCast]
  rw [HP.out] at HL
  obtain ⟨m, hm⟩ : ∃ m, h % 256 = m := ⟨_, rfl⟩
  obtain ⟨t, ht⟩ : ∃ t, (h - f) % 256 = t := ⟨_, rfl⟩
  have t0 : 0 ≤ t := by omega
  have t1 : t < 256 := by omega
  have HE : Hid (hasB f n h = decide (t < n)) := by unfold Hid hasB; rw [ht]
  have HM := Lib.hid (fun w => Mod_at hm w)
  have HT : Hid (m = (f + t) % 256) := by unfold Hid; omega
  clear hv HP ht hm
  have HB := Lib.hid (show Below w.heap.size w (w.alloc (.cells #[.int .i64 f, .int .i64 (n : Int)] 43)) from ((Below.refl _ _).alloc (by simp <;> omega) _))
  have B_a : Box2 (w.alloc (.cells #[.int .i64 f, .int .i64 (n : Int)] 43)) (w.heap.size) f (n : Int) := by have h := (Box2.new w f (n : Int)); simpa using h
  replace B_a := Lib.hid B_a
  go_enter Try.func33, Try.ntmps33
  go_wp2_with fail
  generalize w.alloc (.cells #[.int .i64 f, .int .i64 (n : Int)] 43) = W0 at *
  have c0a := B_a.out.c0
  have c1a := B_a.out.c1
  refine (HL.out _).mono ?_
  rintro e w1 ⟨v, rfl, ⟨A, cap, rfl, hmx, hh⟩, bb⟩
  clear c0a c1a
  replace HB := Lib.hid (nextw HB.out (nextw (w0 := W0) (by exact ⟨rfl, rfl, rfl, Nat.le_refl _, fun _ _ => rfl⟩) bb))
  clear bb B_a HL
  obtain ⟨g, off, rfl, hg, hc⟩ := hh (by intro he; have := marks_length f n; rw [he] at this; simp at this; omega)
  have HC := Lib.hid hc
  have hln := marks_length f n
  rw [hln]
  clear hh hg hc hmx hln
  go_wp2_with fail
  go_loopw [6] (fun i wr => ∃ k : Nat, k ≤ n ∧ (k : Int) ≤ t ∧ i = .int .i64 k ∧ Hid (∀ i, i < (marks f n).length → wr.cell? ⟨g, off + i, none⟩ = some (.int .i64 ((marks f n).getD i 0))) ∧ Hid (Below w.heap.size w wr)) (fun i _ => n - (intOf i).toNat)
  case atStart => exact ⟨0, by omega, by omega, rfl, HC, HB⟩
  case round =>
    clear HC HB
    obtain ⟨k, hk, hkt, rfl, HC, HB⟩ := hrel
    by_cases hlt : k < n
    · have hcell : wr.cell? ⟨g, off + k, none⟩ = some (.int .i64 ((f + k) % 256)) := by have h := HC.out k (by rw [marks_length]; exact hlt); rw [marks_getD hlt] at h; exact h
      obtain ⟨x, hx⟩ : ∃ x, (f + k) % 256 = x := ⟨_, rfl⟩
      rw [hx] at hcell
      by_cases he : (k : Int) = t
      · have heq : (x == m) = true := by rw [HT.out, ← he, hx]; simp
        have HE2 : Hid (hasB f n h = true) := by unfold Hid; rw [HE.out]; exact decide_eq_true (by omega)
        clear he hx
        go_wp2_with fail
        go_quiet ((go_at_call 48; exact Calls.quiet_of_same (HM.out _)))
        go_wp2
        go_ret
        exact ⟨by rw [HE2.out]; rfl, bel_drewN HB.out _⟩
      · have heq : (x == m) = false := by rw [HT.out, ← hx, beq_eq_false_iff_ne]; omega
        clear hx
        go_wp2_with fail
        go_quiet ((go_at_call 48; exact Calls.quiet_of_same (HM.out _)))
        go_wp2
        go_roundw
        case rel => exact ⟨k + 1, by omega, by omega, by go_num, HC, Lib.hid (bel_drewN HB.out _)⟩
        case measure => simp only [intOf]; omega
    · have HE2 : Hid (hasB f n h = false) := by unfold Hid; rw [HE.out]; exact decide_eq_false (by omega)
      go_wp2
      go_ret
      exact ⟨by rw [HE2.out]; rfl, HB.out⟩

set_option maxRecDepth 100000 in
set_option maxHeartbeats 1000000 in
theorem Ints_same {v1 v2 : Value} {l : List Int} {w : World} (h1 : RI w v1 l) (h2 : RI w v2 l) :
    Calls Try.prog 34 #[v1, v2] w fun e w' => e = .returned (.bool true) ∧ Below w.heap.size w w' := by
  obtain ⟨A1, c1, rfl, hm, hh1⟩ := h1
  obtain ⟨A2, c2, rfl, -, hh2⟩ := h2
  unfold maxLen at hm
  by_cases hl : l = []
  · subst hl
    clear hh1 hh2 hm
    simp only [List.length_nil]
    go_enter Try.func34, Try.ntmps34
    go_wp2_with fail
    refine wp_loop_rounds 1 ?_
    rw [rounds_succ]
    go_wp2
    go_ret
    exact ⟨rfl, Below.refl _ _⟩
  · obtain ⟨g, off, rfl, -, hc1⟩ := hh1 hl
    obtain ⟨p, oq, rfl, -, hc2⟩ := hh2 hl
    have H1 := Lib.hid hc1
    have H2 := Lib.hid hc2
    have HB := Lib.hid (Below.refl w.heap.size w)
    clear hc1 hc2 hh1 hh2 hl
    obtain ⟨n, hn⟩ : ∃ n, l.length = n := ⟨_, rfl⟩
    have HN := Lib.hid hn
    rw [hn] at hm ⊢
    clear hn
    go_enter Try.func34, Try.ntmps34
    go_wp2_with fail
    go_loopw [5] (fun i wr => ∃ k : Nat, k ≤ n ∧ i = .int .i64 k ∧ Hid (∀ i, i < l.length → wr.cell? ⟨g, off + i, none⟩ = some (.int .i64 (l.getD i 0))) ∧ Hid (∀ i, i < l.length → wr.cell? ⟨p, oq + i, none⟩ = some (.int .i64 (l.getD i 0))) ∧ Hid (Below w.heap.size w wr)) (fun i _ => n - (intOf i).toNat)
    case atStart => exact ⟨0, by omega, rfl, H1, H2, HB⟩
    case round =>
      clear H1 H2 HB
      obtain ⟨k, hk, rfl, H1, H2, HB⟩ := hrel
      by_cases hlt : k < n
      · have e1 := H1.out k (by rw [HN.out]; exact hlt)
        have e2 := H2.out k (by rw [HN.out]; exact hlt)
        generalize l.getD k 0 = x at *
        go_wp2_with fail
        go_quiet (fail)
        go_wp2
        go_roundw
        case rel => exact ⟨k + 1, by omega, by go_num, H1, H2, Lib.hid (bel_drewN HB.out _)⟩
        case measure => simp only [intOf]; omega
      · obtain rfl : k = n := by omega
        go_wp2
        go_ret
        exact ⟨rfl, HB.out⟩
end Go.Proofs.Ytincejndchdcdaa
