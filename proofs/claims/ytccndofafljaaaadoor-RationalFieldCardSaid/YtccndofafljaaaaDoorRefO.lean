/- The reference: trim, whose result is memory of its own. -/
import Derived.Test.YtccndofafljaaaaDoorRefA

set_option linter.unusedVariables false
set_option linter.unusedSimpArgs false

namespace Go.Proofs.YtccndofafljaaaaDoor
open Go Go.RowKit Num

/-- v reads as the words of n, in a block from w's end on. -/
def Owned (w w' : World) (n : Nat) (v : Value) : Prop := (n = 0 ∧ ∃ A c, v = .slice A 0 c ∧ c ≤ maxLen) ∨ (n ≠ 0 ∧ ∃ g cap ex, v = .slice (some ⟨g, 0, none⟩) (digs n).length cap ∧ w.heap.size ≤ g ∧ OwnX w' g (digs n) ex ∧ (digs n).length ≤ cap ∧ cap ≤ maxLen)

set_option maxRecDepth 100000 in
set_option maxHeartbeats 1000000 in
theorem rtrim_own (v : Value) (l : List Nat) (w : World) (h : U32 w v l) (hn : l.length ≤ 1000000) :
    Calls Tryd.prog 89 #[v] w fun e w' => ∃ v', e = .returned v' ∧ Owned w w' (val l) v' ∧ Below w.heap.size w w' := by
  obtain ⟨i0, hi, hz0, hz1, hz2⟩ := info_parts info32
  rcases h.cases with ⟨rfl, A, cap, rfl, hcap⟩ | ⟨hpos, b, off, cap, rfl, hlc, hcap, hb, hc⟩
  · rcases A with _ | a
    · go_enter Tryd.func89, Tryd.ntmps89
      go_wp2
      go_loop [0] (fun m => m = .slice none 0 cap) (fun _ => 0)
      case atStart => rfl
      case round =>
        subst hrel
        go_wp2
        go_ret
        exact ⟨_, rfl, Or.inl ⟨rfl, _, _, rfl, Nat.zero_le _⟩, (Below.refl _ _).alloc (Nat.le_refl _) _⟩
    · go_enter Tryd.func89, Tryd.ntmps89
      go_wp2
      go_loop [0] (fun m => m = .slice (some a) 0 cap) (fun _ => 0)
      case atStart => rfl
      case round =>
        subst hrel
        go_wp2
        go_ret
        exact ⟨_, rfl, Or.inl ⟨rfl, _, _, rfl, Nat.zero_le _⟩, (Below.refl _ _).alloc (Nat.le_refl _) _⟩
  · have hlt := h.lt
    have hcap' := hcap
    unfold maxLen at hcap
    go_enter Tryd.func89, Tryd.ntmps89
    go_wp2
    go_loop [0] (fun m => ∃ k : Nat, k ≤ l.length ∧ m = .slice (some ⟨b, off, none⟩) k cap ∧ val (l.take k) = val l) (fun m => match m with | .slice _ k _ => k | _ => 0)
    case atStart => exact ⟨l.length, Nat.le_refl _, rfl, by rw [List.take_length]⟩
    case round =>
      obtain ⟨k, hk, rfl, hv⟩ := hrel
      have HV := Lib.hid hv
      clear hv
      rcases k with _ | k
      · have hv0 : val l = 0 := by have := HV.out; rw [List.take_zero] at this; exact this.symm
        have HZ := Lib.hid hv0
        clear hv0
        go_wp2
        go_ret
        exact ⟨_, rfl, Or.inl ⟨HZ.out, _, _, rfl, Nat.zero_le _⟩, (Below.refl _ _).alloc (Nat.le_refl _) _⟩
      · have hck := hc k (by omega)
        have HCE := Lib.hid (cells_of hb hk hc (.cells #[] 35))
        have hlen : (ws (l.take (k + 1))).length = k + 1 := by rw [ws_length, List.length_take]; omega
        have HLEN := Lib.hid hlen
        have HONE := Lib.hid (ws_oneCell (l.take (k + 1)))
        have hHC := Lib.hid hc
        clear hc hlen
        go_wp2_with ((at_builtin; refine wpList_append_own _ rfl _ _ 22 rfl w.heap.size 35 i0 (.int .u32 0) 1 4 Tryd.underlying22 hi hz0 hz1 hz2 rfl (by decide) (.slice (some ⟨w.heap.size, 0, none⟩) 0 0) 0 [] rfl (World.ownsRow_lit w #[] 0 (Nat.le_refl _) (Nat.zero_le _) rfl) ⟨b, off, none⟩ (k + 1) cap (ws (l.take (k + 1))) rfl (by rw [HLEN.out, Nat.mul_one]) HCE.out HONE.out (by simp only [maxLen]; omega) (by omega) (by simp) ?_; intro v1 w1 hown1 hgrow1 hnil1))
        · have h0 : ((l[k]?.getD 0 : Nat) : Int) = 0 := beq_iff_eq.1 (by assumption)
          go_round
          case rel => exact ⟨k, by omega, rfl, (val_take_zero (by omega) (by simp only [List.getD_eq_getElem?_getD]; omega)).trans HV.out⟩
          case measure => simp
        · have h0 : ((l[k]?.getD 0 : Nat) : Int) ≠ 0 := beq_eq_false_iff_ne.1 (by assumption)
          have hq : ∀ j, k + 1 = j + 1 → l.getD j 0 ≠ 0 := fun j hj => by
            obtain rfl : j = k := by omega
            simp only [List.getD_eq_getElem?_getD]; omega
          have hfin := mag_take h hpos hk HV.out hq
          have hd : digs (val l) = l.take (k + 1) := by
            rw [digs_front hlt, ← hfin.length]
          rw [Nat.zero_add, List.nil_append] at hown1
          have hlen2 : (l.take (k + 1)).length = k + 1 := by rw [List.length_take]; omega
          have hown2 : w1.ownsRow w.heap.size 35 1 v1 (l.take (k + 1)).length (ws (l.take (k + 1))) := by rw [hlen2]; exact hown1
          have hb1 : Below w.heap.size w w1 := ((Below.refl _ _).alloc (Nat.le_refl _) _).grown hgrow1 (by simp) (fun j hj => by simp [Value.ownBlock] at hj; omega)
          have hne : v1 ≠ .slice none 0 0 := fun e => by have := (hnil1.1 e).2; omega
          rw [← hd] at hown2
          obtain ⟨g, cap', ex, rfl, hg, ho, hc1, hc2⟩ := OwnX.of_row hown2 hne
          have hv0 : val l ≠ 0 := fun e => by rw [e, digs_zero] at hd; have := congrArg List.length hd; rw [hlen2] at this; simp at this
          clear hown1 hnil1 hgrow1 hfin
          go_ret
          exact ⟨_, rfl, Or.inr ⟨hv0, g, cap', ex, rfl, hg, ho, hc1, hc2⟩, hb1⟩
end Go.Proofs.YtccndofafljaaaaDoor
