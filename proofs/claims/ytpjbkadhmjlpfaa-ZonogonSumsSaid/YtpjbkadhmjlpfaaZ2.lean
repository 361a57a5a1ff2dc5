/- slices.ContainsFunc at points; zonogon.Valid. -/
import Derived.Test.YtpjbkadhmjlpfaaZBase
import Derived.Test.YtpjbkadhmjlpfaaShelf
import Derived.Shelf.SlicesQ.IndexFunc
set_option linter.unusedSimpArgs false
set_option linter.unusedVariables false
namespace Go.Proofs.Ytpjbkadhmjlpfaa
open Go Go.RowKit Hd

def Vp (p : P2) : Prop := Wi p.1 65536 ∧ Wi p.2 65536
instance (p : P2) : Decidable (Vp p) := inferInstanceAs (Decidable (_ ∧ _))
/-- A valid zonogon. -/
def OkZ (x y : Int) (l : List P2) : Prop := Wi x 8388608 ∧ Wi y 8388608 ∧ l.length ≤ 16 ∧ ∀ p ∈ l, Vp p
instance (x y : Int) (l : List P2) : Decidable (OkZ x y l) := inferInstanceAs (Decidable (_ ∧ _ ∧ _ ∧ _))

set_option maxRecDepth 100000 in
set_option maxHeartbeats 1000000 in
theorem IndexF_none (A : Option Addr) (cap : Nat) (fv : Value) (w : World) :
    Calls Try.prog 76 #[.slice A 0 cap, fv] w fun e w' => e = .returned (.int .i64 (-1)) ∧ w' = w := by
  go_enter Try.func76, Try.ntmps76
  go_wp2_with fail
  refine wp_loop_rounds 1 ?_
  rw [rounds_succ]
  go_wp2
  go_ret
  exact ⟨rfl, rfl⟩
set_option maxRecDepth 100000 in
set_option maxHeartbeats 1000000 in
theorem ContainsF_none (A : Option Addr) (cap : Nat) (fv : Value) (w : World) :
    Calls Try.prog 48 #[.slice A 0 cap, fv] w fun e w' => e = .returned (.bool false) ∧ w' = w := by
  go_enter Try.func48, Try.ntmps48
  go_wp2_with (go_at_call 76; refine (IndexF_none _ _ _ _).mono ?_; rintro e w' ⟨rfl, rfl⟩)
  go_ret
  exact ⟨rfl, rfl⟩
/-- Whether one of the points has the property. -/
theorem ContainsF_any {α : Type} [Inhabited α] (f : α → P2) (p : α → Bool) (g : Nat) (lb : Array Value) (eg : ∀ args w, (callFunc g args).run Try.prog w = .ok (.enter g args) w) {lo hi : Nat} {A : Option Addr} {n cap : Nat} (zs : List α) (w : World)
    (h : PL w lo hi A n cap (zs.map f)) (hn : n ≤ 1000000) (hp : PredBelow Try.prog g lb (fun x => .agg (enc2 (f x)).toArray) p w) :
    Calls Try.prog 48 #[.slice A n cap, .func (.func g) #[] lb] w fun e w' => e = .returned (.bool (zs.any p)) ∧ Below w.heap.size w w' := by
  have hl := h.len
  rw [List.length_map] at hl
  by_cases hne : zs = []
  · subst hne
    simp only [List.length_nil] at hl
    subst hl
    exact (ContainsF_none A cap _ w).mono fun e w' ⟨he, hw⟩ => ⟨he, by rw [hw]; exact Below.refl _ _⟩
  · obtain ⟨b, o, rfl, hb, hc⟩ := h.row (by simpa using hne)
    have hcon := AnyQ.slices_ContainsFunc Try.cf 2 Try.isAgg39 Try.sizeOf39 (fun x => enc2 (f x)) (fun _ => rfl) p g lb eg b o n cap zs w hp (by omega) (by omega) (Nat.lt_of_lt_of_le hb.2 h.top) (fun j hj i v hi => by
      have h1 := hc j (by simpa using hj)
      have e : (zs.map f).getD j z2 = f zs[j]! := by simp [List.getD_eq_getElem?_getD, List.getElem?_eq_getElem hj, getElem!_pos, hj]
      rw [e] at h1
      generalize f zs[j]! = y at hi h1
      match i, hi with
      | 0, hi => simp [enc2] at hi; rw [← hi]; exact h1.1
      | 1, hi => simp [enc2] at hi; rw [← hi]; exact h1.2
      | i + 2, hi => simp [enc2] at hi)
    rw [List.take_of_length_le (by omega)] at hcon
    exact hcon

theorem ValidF_eg : ∀ args w, (callFunc 49 args).run Try.prog w = .ok (.enter 49 args) w := enters_of Try.func49 (by kernel_rfl) rfl
set_option maxRecDepth 100000 in
set_option maxHeartbeats 1000000 in
theorem ValidF_any (x y : Int) (w : World) :
    Calls Try.prog 49 #[.agg #[.int .i64 x, .int .i64 y]] w fun e w' => e = .returned (.bool (!decide (Wi x 65536 ∧ Wi y 65536))) ∧ Below w.heap.size w w' := by
  have H0 := Lib.hid (fun w => pointWithin_is x y 65536 (by omega) w)
  generalize decide (Wi x 65536 ∧ Wi y 65536) = r at *
  obtain ⟨HB, B_z0⟩ := box1 w 39 #[.int .i64 x, .int .i64 y]
  go_enter Try.func49, Try.ntmps49
  go_upto_region 1 with (fail)
  generalize w.alloc (.cells #[.int .i64 x, .int .i64 y] 39) = W0 at *
  obtain ⟨c0z0, c1z0⟩ := cells2 B_z0
  go_wp2_with fail
  refine (H0.out _).mono ?_
  clear c0z0 c1z0
  rintro e w1 ⟨rfl, bb⟩
  replace bb := nextw (w0 := W0) (by exact sm) bb
  replace HB := nx HB bb
  clear bb
  go_wp2
  go_ret
  exact ⟨rfl, nextw HB.out (by exact sm)⟩
theorem ValidL_any {lo hi : Nat} {A : Option Addr} {n cap : Nat} {l : List P2} (w : World) (h : PL w lo hi A n cap l) (hn : n ≤ 1000000) :
    Calls Try.prog 48 #[.slice A n cap, .func (.func 49) #[] #[]] w fun e w' => e = .returned (.bool (l.any fun p => !decide (Vp p))) ∧ Below w.heap.size w w' :=
  ContainsF_any (fun p : P2 => p) (fun p => !decide (Vp p)) _ _ ValidF_eg l w (by rw [List.map_id']; exact h) hn (fun W x hb => (ValidF_any x.1 x.2 W).mono fun e w' ⟨he, hb'⟩ => ⟨he, hb.trans (hb'.mono hb.size)⟩)
end Go.Proofs.Ytpjbkadhmjlpfaa
