/- integer.trim -/
import Derived.Test.YtgfoplokplnpgaaDoorSl
import Derived.BigQuiet
import Derived.Deep.QuietTactic
import Derived.Outline
import Derived.Handy
namespace Go.Proofs.YtgfoplokplnpgaaDoor
open Go Go.RowKit Num

theorem val_take_zero {l : List Nat} {k : Nat} (hk : k < l.length) (h0 : l.getD k 0 = 0) : val (l.take k) = val (l.take (k + 1)) := by
  rw [List.take_succ_eq_append_getElem hk]
  have : l[k] = 0 := by rw [← h0]; simp [List.getD, hk]
  rw [this, val_snoc_zero]

theorem take_last {l : List Nat} {k : Nat} (hk : k < l.length) : (l.take (k + 1)).getLast? = some (l.getD k 0) := by
  rw [List.take_succ_eq_append_getElem hk, List.getLast?_append]
  simp [List.getD, hk]

/-- A cut at the front, whose highest word is not zero, reads as the number. -/
theorem mag_of_take {w : World} {l : List Nat} {b off cap k : Nat} (hlt : ∀ x ∈ l, x < 4294967296) (hk : k ≤ l.length) (hlc : l.length ≤ cap) (hcap : cap ≤ maxLen) (hb : b < w.heap.size)
    (hc : ∀ i, i < l.length → w.cell? ⟨b, off + i, none⟩ = some (.int .u32 (l.getD i 0 : Nat))) (hv : val (l.take k) = val l) (hl : ∀ j, k = j + 1 → l.getD j 0 ≠ 0) :
    Mag w (.slice (some ⟨b, off, none⟩) k cap) (val l) := by
  have hlt' : ∀ x ∈ l.take k, x < 4294967296 := fun x hx => hlt x (List.mem_of_mem_take hx)
  have hd : digs (val l) = l.take k := by
    rw [← hv]
    refine digs_val hlt' fun x hx => ?_
    rcases k with _ | j
    · simp at hx
    · rw [take_last (by omega)] at hx
      injection hx with hx
      rw [← hx]
      exact hl j rfl
  unfold Mag
  rw [hd]
  have hlen : (l.take k).length = k := by simp; omega
  refine ⟨hlt', some ⟨b, off, none⟩, cap, by rw [hlen], by omega, hcap, fun _ => ⟨b, off, rfl, hb, fun i hi => ?_⟩⟩
  rw [hc i (by omega)]
  congr 2
  rw [hlen] at hi
  simp [List.getD, hi]

theorem mag_take {W : World} {l : List Nat} {b off cap k : Nat} (h : U32 W (.slice (some ⟨b, off, none⟩) l.length cap) l) (hpos : 0 < l.length) (hk : k ≤ l.length)
    (hv : val (l.take k) = val l) (hl : ∀ j, k = j + 1 → l.getD j 0 ≠ 0) : Mag W (.slice (some ⟨b, off, none⟩) k cap) (val l) := by
  rcases h.cases with ⟨rfl, _⟩ | ⟨_, b', off', cap', e, h1, h2, h3, h4⟩
  · simp at hpos
  · injection e with e1 e2 e3
    injection e1 with e1
    injection e1 with e1 e4
    subst e1 e3 e4
    exact mag_of_take h.lt hk h1 h2 h3 h4 hv hl

theorem Mag.length {w : World} {A : Option Addr} {k cap n : Nat} (h : Mag w (.slice A k cap) n) : k = (digs n).length := by
  obtain ⟨A', cap', e, -⟩ := h.form
  injection e
theorem digs_front {l : List Nat} (h : ∀ x ∈ l, x < 4294967296) : digs (val l) = l.take (digs (val l)).length := by
  induction l with
  | nil => simp [val, digs_zero]
  | cons x xs ih =>
    have hx := h x (List.mem_cons_self ..)
    have ih' := ih (fun y hy => h y (List.mem_cons_of_mem _ hy))
    by_cases h0 : x + 4294967296 * val xs = 0
    · rw [val, h0, digs_zero]; rfl
    · rw [digs_val_cons hx h0, List.length_cons, List.take_succ_cons, ← ih']

/-- v' is the front part of v, of the length k. -/
def Front (v v' : Value) (k : Nat) : Prop := ∀ A n cap, v = .slice A n cap → v' = .slice A k cap
theorem slice_len {A A' : Option Addr} {n cap n' cap' : Nat} (e : Value.slice A n cap = .slice A' n' cap') (k : Nat) :
    Value.slice A k cap = .slice A' k cap' := by
  injection e with e1 e2 e3
  rw [e1, e3]

set_option maxHeartbeats 400000 in
theorem trim_any (v : Value) (l : List Nat) (w : World) (h : U32 w v l) :
    Calls Tryd.prog 36 #[v] w fun e w' => ∃ v', e = .returned v' ∧ w = w' ∧ (∀ W, U32 W v l → Mag W v' (val l)) ∧ Front v v' (digs (val l)).length := by
  rcases h.cases with ⟨rfl, A, cap, rfl, hcap⟩ | ⟨hpos, b, off, cap, rfl, hlc, hcap, hb, hc⟩
  · have hm : ∀ A W, Mag W (.slice A 0 cap) (val []) := fun A W => by unfold Mag; rw [val, digs_zero]; exact U32.nil A hcap
    unfold maxLen at hcap
    go_enter Tryd.func36, Tryd.ntmps36
    go_wp2
    go_loop [3] (fun i => i = .int .i64 0) (fun _ => 0)
    case atStart => rfl
    case round =>
      subst hrel
      go_wp2
      go_ret
      refine ⟨_, rfl, rfl, fun W _ => hm _ W, fun A' n' cap' e => ?_⟩
      rw [val, digs_zero]
      exact slice_len e 0
  · have hlt := h.lt
    have hcap' := hcap
    unfold maxLen at hcap
    go_enter Tryd.func36, Tryd.ntmps36
    go_wp2
    go_loop [3] (fun i => ∃ k : Nat, k ≤ l.length ∧ i = .int .i64 k ∧ val (l.take k) = val l) (fun i => (intOf i).toNat)
    case atStart => exact ⟨l.length, Nat.le_refl _, rfl, by rw [List.take_length]⟩
    case round =>
      obtain ⟨k, hk, rfl, hv⟩ := hrel
      have HV := Lib.hid hv
      clear hv
      rcases k with _ | k
      · go_wp2
        go_ret
        have hfin := mag_take h hpos hk HV.out (fun j hj => by omega)
        refine ⟨_, rfl, rfl, fun W hW => mag_take hW hpos hk HV.out (fun j hj => by omega), fun A' n' cap' e => ?_⟩
        rw [← hfin.length]
        exact slice_len e _
      · have hck := hc k (by omega)
        go_wp2
        · have h0 : ((l[k]?.getD 0 : Nat) : Int) = 0 := beq_iff_eq.1 (by assumption)
          go_round
          case rel => exact ⟨k, by omega, rfl, (val_take_zero (by omega) (by simp only [List.getD_eq_getElem?_getD]; omega)).trans HV.out⟩
          case measure => simp [intOf]
        · have h0 : ((l[k]?.getD 0 : Nat) : Int) ≠ 0 := beq_eq_false_iff_ne.1 (by assumption)
          go_ret
          have hq : ∀ j, k + 1 = j + 1 → l.getD j 0 ≠ 0 := fun j hj => by
            obtain rfl : j = k := by omega
            simp only [List.getD_eq_getElem?_getD]; omega
          have hfin := mag_take h hpos hk HV.out hq
          refine ⟨_, rfl, rfl, fun W hW => mag_take hW hpos hk HV.out hq, fun A' n' cap' e => ?_⟩
          rw [← hfin.length]
          exact slice_len e _

/-- What trim returns. -/
def trimV (v : Value) (n : Nat) : Value := match v with
  | .slice A _ cap => .slice A (digs n).length cap
  | v => v

theorem trim_eq (v : Value) (l : List Nat) (w : World) (h : U32 w v l) :
    Calls Tryd.prog 36 #[v] w fun e w' => e = .returned (trimV v (val l)) ∧ w' = w := by
  refine (trim_any v l w h).mono fun e w' hh => ?_
  obtain ⟨v', rfl, rfl, _, hf⟩ := hh
  obtain ⟨A, cap, rfl, _⟩ := h.form
  rw [hf _ _ _ rfl]
  exact ⟨rfl, rfl⟩
theorem trimV_mag {w : World} {v : Value} {l : List Nat} (h : U32 w v l) : Mag w (trimV v (val l)) (val l) := by
  unfold Mag
  rcases h.cases with ⟨rfl, A, cap, rfl, hcap⟩ | ⟨hpos, b, off, cap, rfl, hlc, hcap, hb, hc⟩
  · unfold trimV
    rw [val, digs_zero]
    exact U32.nil A hcap
  · unfold trimV
    have hd := digs_front h.lt
    have hle : (digs (val l)).length ≤ l.length := digs_length_le (val_lt h.lt)
    refine ⟨digs_lt _, _, cap, rfl, by omega, hcap, fun _ => ⟨b, off, rfl, hb, fun i hi => ?_⟩⟩
    rw [hc i (by omega), hd]
    congr 2
    simp [List.getD, hi, show i < l.length from by omega]
end Go.Proofs.YtgfoplokplnpgaaDoor
