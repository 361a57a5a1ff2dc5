/- Appending onto the rest of a row. -/
import Derived.Test.YtpjbkadhmjlpfaaZ18
set_option linter.unusedSimpArgs false
set_option linter.unusedVariables false
namespace Go.Proofs.Ytpjbkadhmjlpfaa
open Go Go.RowKit Hd

theorem PL.drop {w : World} {lo hi g o n c : Nat} {l : List P2} (h : PL w lo hi (some ⟨g, o, none⟩) n c l) (m : Nat) (hm : m ≤ n) : PL w lo hi (some ⟨g, o + m * 2, none⟩) (n - m) (c - m) (l.drop m) := by
  have hl := h.len
  refine ⟨by simp; omega, by have := h.cap; omega, h.top, fun hne => ?_⟩
  obtain ⟨g', o', e, hg, hc⟩ := h.row (fun e => by rw [e] at hne; simp at hne)
  cases e
  refine ⟨g, o + m * 2, rfl, hg, fun i hi' => ?_⟩
  have hi2 : m + i < l.length := by simp at hi'; omega
  have h2 := hc (m + i) hi2
  unfold At2 at h2 ⊢
  rw [show o + m * 2 + i * 2 = o + (m + i) * 2 by omega]
  simpa [List.getD_eq_getElem?_getD, List.getElem?_drop] using h2
theorem pts_drop (l : List P2) (m : Nat) : (pts l).drop (m * 2) = pts (l.drop m) := by
  induction l generalizing m with
  | nil => simp [pts]
  | cons p t ih =>
    match m with
    | 0 => simp
    | m + 1 =>
      have e : pts (p :: t) = .int .i64 p.1 :: .int .i64 p.2 :: pts t := rfl
      rw [e, show (m + 1) * 2 = m * 2 + 1 + 1 by omega]
      simpa using ih m
theorem run_app_off (w : World) {base g cap m lo hi k c : Nat} {A : Option Addr} {l nl : List P2} (hown : OwnP w base (.slice (some ⟨g, 0, none⟩) l.length cap) l) (hm : m ≤ l.length) (L : PL w lo hi A k c nl) (hne : nl ≠ []) (hl : l.length ≤ 1000) (hk : k ≤ 1000) (hb : base ≤ w.heap.size) :
    ∃ A' c' w', (∀ ty, (Builtin.append_ #[22, 22] ty #[.slice (some ⟨g, m * 2, none⟩) (l.length - m) (cap - m), .slice A k c]).run Try.prog w = .ok (.slice A' (l.length - m + k) c') w') ∧ PL w' base w'.heap.size A' (l.length - m + k) c' (l.drop m ++ nl) ∧ Below base w w' := by
  obtain ⟨i0, hi0, hz0, hz1, hz2⟩ := info_parts info2
  have hn := L.len
  obtain ⟨ad, rfl, hnews⟩ := L.addr hne
  rcases hown.2 with ⟨h0, -⟩ | ⟨g', cap', cur, hv, hg, hh, hnc, hcm, hcs, htake⟩
  · cases h0
  cases hv
  have hnl : (pts nl).length = k * i0.size := by rw [pts_length, hz1, hn]
  by_cases hroom : l.length + k ≤ cap
  · have hfit : l.length * i0.size + (pts nl).length ≤ cur.size := by rw [hnl, hz1, hcs, ← Nat.add_mul]; exact Nat.mul_le_mul_right 2 hroom
    have hr := run_append_room (P := Try.prog) w 22 0 39 i0 Try.underlying22 hi0 g l.length cap cur hh ad k c (pts nl) hnl hnews (pts_one _) hroom hfit
    obtain ⟨v', w', hr2, ho, hbel⟩ := run_app_pl w 0 hown L hl hk hb
    rw [hr2] at hr
    injection hr with e1 e2
    subst e1
    obtain ⟨A2, c2, e3, pl, -⟩ := ho.pl
    injection e3 with e4 e5 e6
    subst e4
    subst e6
    have hlen : (l ++ nl).length = l.length + k := by rw [List.length_append, hn]
    rw [hlen] at pl
    have pd := pl.drop m (by omega)
    rw [List.drop_append_of_le_length hm, Nat.zero_add, show l.length + k - m = l.length - m + k by omega] at pd
    refine ⟨_, _, w', fun ty => ?_, pd, hbel⟩
    have hf := run_firstCells_some (P := Try.prog) w i0.size k ad k c (pts nl) hnl hnews
    have hst := run_storeCells_at Try.prog g (l.length * i0.size) 39 (pts nl) 0 cur w hh (by simpa using hfit) (pts_one _)
    simp only [Nat.add_zero] at hst
    have ead : (⟨g, m * 2, none⟩ : Addr).add ((l.length - m) * i0.size) = ⟨g, l.length * i0.size, none⟩ := by
      rw [Addr.add_lit, hz1, show m * 2 + (l.length - m) * 2 = l.length * 2 by omega]
    have hroom2 : l.length - m + k ≤ cap - m := by omega
    rw [e2]
    simp [Builtin.append_, run_underlying Try.underlying22, sizeOf, typeInfo, hi0, Builtin.lenOf, hroom2, hf, ead, hst]
  · have holds : ∀ j u, (pts (l.drop m))[j]? = some u → w.cell? ((⟨g, m * 2, none⟩ : Addr).add j) = some u := by
      intro j u hu
      rw [← pts_drop, List.getElem?_drop] at hu
      have := hown.cells (g := g) rfl (m * 2 + j) u hu
      rw [Addr.add_lit] at this ⊢
      rwa [Nat.zero_add] at this
    have hr := fun ty => run_append_grow (P := Try.prog) w 22 ty 39 i0 (.agg #[.int .i64 0, .int .i64 0]) Try.underlying22 hi0 hz0 ⟨g, m * 2, none⟩ (l.length - m) (cap - m) (pts (l.drop m)) (by rw [pts_length, hz1]; simp) holds ad k c (pts nl) hnl hnews (by omega) (by omega) (growslice_fits (by omega) (by rw [hz2]; omega))
    have hG := grownCap_ge w (l.length - m + k) (cap - m) 39
    have hG2 := grownCap_le_maxLen w (l.length - m + k) (cap - m) 39 (by unfold maxLen; omega)
    have hdl : (l.drop m ++ nl).length = l.length - m + k := by rw [List.length_append, List.length_drop, hn]
    have ho : OwnP (w.drew.alloc (.cells ((pts (l.drop m)).toArray ++ (pts nl).toArray ++ Builtin.zeroCells (Value.agg #[.int .i64 0, .int .i64 0]).cells (grownCap w (l.length - m + k) (cap - m) 39 - (l.length - m + k))) 39)) base (.slice (some ⟨w.heap.size, 0, none⟩) (l.length - m + k) (grownCap w (l.length - m + k) (cap - m) 39)) (l.drop m ++ nl) := by
      refine ⟨pts_length _, .inr ⟨w.heap.size, _, _, by rw [hdl], hb, heap_alloc_new w.drew _, by omega, hG2, ?_, ?_⟩⟩
      · simp only [Array.size_append, List.size_toArray, size_zeroCells, pts_length]
        have e : (Value.agg #[.int .i64 0, .int .i64 0]).cells.size = 2 := rfl
        rw [e, List.length_drop, ← hn]
        omega
      · simp only [Array.toList_append, List.append_assoc]
        rw [← List.append_assoc, pts_append, ← pts_length]
        exact List.take_left
    obtain ⟨A2, c2, e3, pl, -⟩ := ho.pl
    injection e3 with e4 e5 e6
    subst e4
    subst e6
    rw [hdl] at pl
    exact ⟨_, _, _, hr, pl, (Below.drew (Below.refl base w)).alloc (by exact hb) _⟩
/-- The address is that of the row where nothing of it is left. -/
theorem run_app_off2 (w : World) {base g cap m lo hi k c : Nat} {A : Option Addr} {l nl : List P2} (hown : OwnP w base (.slice (some ⟨g, 0, none⟩) l.length cap) l) (hm : m ≤ l.length) (L : PL w lo hi A k c nl) (hne : nl ≠ []) (hl : l.length ≤ 1000) (hk : k ≤ 1000) (hb : base ≤ w.heap.size) :
    ∃ A' c' w', (∀ ty, (Builtin.append_ #[22, 22] ty #[.slice (if cap = m then some ⟨g, 0, none⟩ else some ⟨g, m * 2, none⟩) (l.length - m) (cap - m), .slice A k c]).run Try.prog w = .ok (.slice A' (l.length - m + k) c') w') ∧ PL w' base w'.heap.size A' (l.length - m + k) c' (l.drop m ++ nl) ∧ Below base w w' := by
  by_cases h : cap = m
  · simp only [if_pos h]
    have hlc : l.length ≤ cap := by
      obtain ⟨A2, c2, e3, pl, -⟩ := hown.pl
      injection e3 with e4 e5 e6
      subst e6
      exact pl.cap
    have hlm : l.length = m := by omega
    have hdr : l.drop m = [] := by rw [← hlm]; simp
    rw [hdr, show l.length - m = 0 by omega, show cap - m = 0 by omega, Nat.zero_add, List.nil_append]
    obtain ⟨i0, hi0, hz0, hz1, hz2⟩ := info_parts info2
    have hn := L.len
    obtain ⟨ad, rfl, hnews⟩ := L.addr hne
    have hk0 : 0 < k := by rw [hn]; exact List.length_pos_iff.mpr hne
    have hr := fun ty => run_append_grow (P := Try.prog) w 22 ty 39 i0 (.agg #[.int .i64 0, .int .i64 0]) Try.underlying22 hi0 hz0 ⟨g, 0, none⟩ 0 0 [] (by simp) (by intro j v hv; simp at hv) ad k c (pts nl) (by rw [pts_length, hz1, hn]) hnews (by omega) (by omega) (growslice_fits (by omega) (by rw [hz2]; omega))
    simp only [Nat.zero_add] at hr
    have hG := grownCap_ge w k 0 39
    have hG2 := grownCap_le_maxLen w k 0 39 (by unfold maxLen; omega)
    have ho : OwnP (w.drew.alloc (.cells ((#[] : Array Value) ++ (pts nl).toArray ++ Builtin.zeroCells (Value.agg #[.int .i64 0, .int .i64 0]).cells (grownCap w k 0 39 - k)) 39)) base (.slice (some ⟨w.heap.size, 0, none⟩) k (grownCap w k 0 39)) nl := by
      refine ⟨pts_length _, .inr ⟨w.heap.size, _, _, by rw [hn], hb, heap_alloc_new w.drew _, by omega, hG2, ?_, ?_⟩⟩
      · simp only [Array.size_append, List.size_toArray, size_zeroCells, pts_length]
        have e : (Value.agg #[.int .i64 0, .int .i64 0]).cells.size = 2 := rfl
        rw [e, ← hn]
        simp
        omega
      · simp only [Array.toList_append, List.append_assoc]
        rw [← pts_length]
        simp
    obtain ⟨A2, c2, e3, pl, -⟩ := ho.pl
    injection e3 with e4 e5 e6
    subst e4
    subst e6
    rw [← hn] at pl
    exact ⟨_, _, _, hr, pl, (Below.drew (Below.refl base w)).alloc (by exact hb) _⟩
  · simp only [if_neg h]
    exact run_app_off w hown hm L hne hl hk hb
end Go.Proofs.Ytpjbkadhmjlpfaa
