/- zonogon.spread. -/
import Derived.Test.YtpjbkadhmjlpfaaZ3
set_option linter.unusedVariables false
set_option linter.unusedSimpArgs false
namespace Go.Proofs.Ytpjbkadhmjlpfaa
open Go Go.RowKit Hd

/-- The sum of the magnitudes of the scalar products. -/
def spr (l : List P2) (nx ny : Int) : Int := (l.map fun g => mg (dt nx ny g.1 g.2)).sum
theorem spr_nil (nx ny : Int) : spr [] nx ny = 0 := rfl
theorem spr_snoc (l : List P2) (p : P2) (nx ny : Int) : spr (l ++ [p]) nx ny = spr l nx ny + mg (dt nx ny p.1 p.2) := by simp [spr]
/-- The products are small. -/
def Pm (l : List P2) (nx ny : Int) : Prop := ∀ p ∈ l, Wi (nx * p.1) 1125899906842624 ∧ Wi (ny * p.2) 1125899906842624
theorem spr_bd {l : List P2} {nx ny : Int} (h : Pm l nx ny) : 0 ≤ spr l nx ny ∧ spr l nx ny ≤ l.length * 2251799813685248 := by
  induction l with
  | nil => simp [spr]
  | cons p l ih =>
    have h1 := ih (fun p hp => h p (List.mem_cons_of_mem _ hp))
    obtain ⟨⟨a0, a1⟩, b0, b1⟩ := h p List.mem_cons_self
    have e : spr (p :: l) nx ny = mg (dt nx ny p.1 p.2) + spr l nx ny := rfl
    have e2 : mg (dt nx ny p.1 p.2) ≤ 2251799813685248 := by unfold mg dt; split <;> omega
    have e3 := mg_nonneg (dt nx ny p.1 p.2)
    rw [e, List.length_cons]
    omega
theorem Pm.take {l : List P2} {nx ny : Int} (h : Pm l nx ny) (k : Nat) : Pm (l.take k) nx ny := fun p hp => h p (List.mem_of_mem_take hp)
theorem wi_sm {a : Int} (h : Wi a 1125899906842624) : Sm a := ⟨by have := h.1; omega, by have := h.2; omega⟩
theorem pm_of {l : List P2} {nx ny : Int} {N M : Int} (hx : Wi nx N) (hy : Wi ny N) (hl : ∀ p ∈ l, Wi p.1 M ∧ Wi p.2 M) (hm : N * M ≤ 1125899906842624) : Pm l nx ny := by
  intro p hp
  obtain ⟨h1, h2⟩ := hl p hp
  have a := wi_mul hx h1
  have b := wi_mul hy h2
  exact ⟨⟨by have := a.1; omega, by have := a.2; omega⟩, ⟨by have := b.1; omega, by have := b.2; omega⟩⟩

set_option maxRecDepth 100000 in
set_option maxHeartbeats 4000000 in
theorem spread_is (A : Option Addr) (n c : Nat) (l : List P2) (na nb : Int) (hn : n ≤ 1000) (H : Pm l na nb) (w : World) {lo_L hi_L : Nat} (L : PL w lo_L hi_L A n c l) :
    Calls Try.prog 46 #[.slice A n c, .agg #[.int .i64 na, .int .i64 nb]] w fun e w' => e = .returned (.int .i64 (spr l na nb)) ∧ Below w.heap.size w w' := by
  have HP := Lib.hid H
  clear H
  replace L := Lib.hid L
  obtain ⟨HB, B_z0⟩ := box1 w 39 #[.int .i64 na, .int .i64 nb]
  replace L := plm L HB.out
  go_enter Try.func46, Try.ntmps46
  go_wp2_with fail
  generalize w.alloc (.cells #[.int .i64 na, .int .i64 nb] 39) = W0 at *
  go_wp2_with fail
  go_loopw [5, 10] (fun a0 kk wr => ∃ (k : Nat), k ≤ n ∧ kk = .int .i64 k ∧ a0 = (.int .i64 (spr (l.take k) na nb)) ∧ Hid (PL wr lo_L hi_L A n c l) ∧ Hid (Bx wr (w.heap.size) 39 #[.int .i64 na, .int .i64 nb]) ∧ Hid (Below w.heap.size w wr)) (fun _ kk _ => n - (intOf kk).toNat)
  case atStart => exact ⟨0, by omega, rfl, rfl, L, B_z0, HB⟩
  case round =>
    clear L B_z0 HB
    obtain ⟨k, hk, rfl, rfl, L, B_z0, HB⟩ := hrel
    by_cases hlt : k < n
    · skip
      obtain ⟨g, o, eA, hg, e0, e1⟩ := L.out.elem hlt
      have hlen := L.out.len
      have hmem : l.getD k z2 ∈ l := getD_mem (by omega)
      have HT := Lib.hid (take_snoc l z2 (k := k) (by omega))
      subst eA
      have hP := HP.out _ hmem
      have hS := spr_bd (HP.out.take k)
      have hS2 : ((l.take k).length : Int) ≤ 1000 := by rw [List.length_take]; omega
      generalize l.getD k z2 = p at *
      obtain ⟨px, py⟩ := p
      dsimp only at e0 e1 hP
      obtain ⟨S, hSe⟩ : ∃ S, spr (l.take k) na nb = S := ⟨_, rfl⟩
      have hSe2 := Lib.hid hSe
      rw [hSe] at hS ⊢
      clear hSe
      obtain ⟨d, hd⟩ : ∃ d, dt na nb px py = d := ⟨_, rfl⟩
      have ed : -2251799813685248 ≤ d ∧ d ≤ 2251799813685248 := by obtain ⟨⟨u1, u2⟩, u3, u4⟩ := hP; rw [← hd]; unfold dt; omega
      have HD := Lib.hid (fun w => dot_is na nb px py (wi_sm hP.1) (wi_sm hP.2) w)
      rw [hd] at HD
      obtain ⟨m, hm⟩ : ∃ m, mg d = m := ⟨_, rfl⟩
      have em : 0 ≤ m ∧ m ≤ 2251799813685248 := by rw [← hm]; unfold mg; split <;> omega
      have HG := Lib.hid (fun w => magnitude_is d ⟨by omega, by omega⟩ w)
      rw [hm] at HG
      have hdm := Lib.hid (And.intro hd hm)
      clear hP hd hm
      have ew : IntKind.i64.wrap (S + m) = S + m := by rw [IntKind.wrap_i64]; omega
      clear hmem hg hlen
      have lt_gz0 := B_z0.out.lt
      obtain ⟨bb, B_g⟩ := box1 wr 39 #[.int .i64 px, .int .i64 py]
      replace bb := bb.out
      replace B_z0 := mv B_z0 bb
      replace L := Lib.hid (PL.below L.out bb)
      replace HB := nx HB bb
      clear bb
      go_upto_region 5 with (fail)
      generalize wr.alloc (.cells #[.int .i64 px, .int .i64 py] 39) = WG at *
      clear e0 e1
      obtain ⟨c0z0, c1z0⟩ := cells2 B_z0
      obtain ⟨c0g, c1g⟩ := cells2 B_g
      go_wp2_with fail
      refine (HD.out _).mono ?_
      clear c0z0 c1z0 c0g c1g
      rintro e w1 ⟨rfl, bb⟩
      replace bb := nextw (w0 := WG) (by exact sm) bb
      replace B_z0 := mv B_z0 bb
      replace B_g := mv B_g bb
      replace L := Lib.hid (PL.below L.out bb)
      replace HB := nx HB bb
      clear bb
      go_wp2_with fail
      refine (HG.out _).mono ?_
      rintro e w2 ⟨rfl, bb⟩
      replace bb := nextw (w0 := w1) (by exact sm) bb
      replace B_z0 := mv B_z0 bb
      replace B_g := mv B_g bb
      replace L := Lib.hid (PL.below L.out bb)
      replace HB := nx HB bb
      clear bb
      have HF : Hid (S + m = spr (l.take (k + 1)) na nb) := by unfold Hid; rw [HT.out, spr_snoc, hSe2.out]; rw [hdm.out.1, hdm.out.2]
      go_wp2_with fail
      go_roundw
      case rel => exact ⟨k + 1, by omega, by go_num, by rw [HF.out], L, B_z0, HB⟩
      case measure => simp only [intOf]; omega
    · skip
      obtain rfl : k = n := by omega
      have hlen := L.out.len
      have HF : spr (l.take k) na nb = spr l na nb := by rw [List.take_of_length_le (by omega)]
      rw [HF]
      clear HF hlen
      go_wp2
      go_ret
      exact ⟨rfl, HB.out⟩
end Go.Proofs.Ytpjbkadhmjlpfaa
