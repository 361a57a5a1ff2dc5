/- The laws' few, decided. -/
import Derived.Test.YtccndofafljaaaaDoorQFew
import Derived.Test.YtccndofafljaaaaDoorQ4

set_option linter.unusedVariables false
set_option linter.unusedSimpArgs false

namespace Go.Proofs.YtccndofafljaaaaDoor
open Go Go.RowKit Num

theorem below_push {w w' : World} {o : Obj} (h1 : w'.os = w.os) (h2 : w'.tape = w.tape) (h3 : w'.output = w.output) (h4 : w'.heap = w.heap.push o) : Below w.heap.size w w' :=
  ⟨h1, h2, h3, by rw [h4]; simp, fun k hk => by rw [h4, Array.getElem?_push_lt hk]; simp [hk]⟩
theorem Rats.lit (w : World) (cs : Array Value) (T : TypeId) (L : List (Nat × Nat)) (h : ∀ i, i < L.length → (∃ A c, cs[i * 4 + 1]? = some (.slice A (L.getD i (0, 0)).1 c)) ∧ (∃ A c, cs[i * 4 + 2 + 1]? = some (.slice A (L.getD i (0, 0)).2 c))) :
    Rats (w.alloc (.cells cs T)) (.slice (some ⟨w.heap.size, 0, none⟩) L.length L.length) L := by
  refine ⟨w.heap.size, rfl, fun i hi => ?_⟩
  obtain ⟨⟨A, c, h1⟩, ⟨B, d, h2⟩⟩ := h i hi
  refine ⟨⟨A, c, ?_⟩, ⟨B, d, ?_⟩⟩
  · rw [cell_of_row (w.alloc (.cells cs T)) w.heap.size _ cs T (0, 0) (heap_alloc_new w _)]; exact h1
  · rw [cell_of_row (w.alloc (.cells cs T)) w.heap.size _ cs T (0, 0) (heap_alloc_new w _)]; exact h2
set_option maxRecDepth 100000 in
set_option maxHeartbeats 1000000 in
theorem fewq_any (v : Value) (L : List (Nat × Nat)) (w : World) (h : Rats w v L) (hL : L.length ≤ 12) (hm : ∀ p ∈ L, p.1 ≤ 9223372036854775807 ∧ p.2 ≤ 9223372036854775807) :
    Calls Tryd.prog 16 #[v] w fun e w' => e = .returned (.bool (decide (fewSum L ≤ 60))) ∧ Below w.heap.size w w' := by
  have HR := Lib.hid h
  have c := fun w (h : Rats w v L) => Few_any v L w h hL hm
  obtain ⟨b, hb⟩ : ∃ b, decide (fewSum L ≤ 60) = b := ⟨_, rfl⟩
  rw [hb] at c ⊢
  have HC := Lib.hid c
  obtain ⟨g, rfl, -⟩ := h
  clear hm c hb
  go_enter Tryd.func16, Tryd.ntmps16
  go_wp2_with fail
  refine (HC.out _ (by obtain ⟨g', e, h⟩ := HR.out; exact ⟨g', e, h⟩)).mono ?_
  rintro e w1 ⟨rfl, bb⟩
  have HB := Lib.hid bb
  clear bb
  go_wp2
  go_ret
  exact ⟨rfl, nextw (by exact ⟨rfl, rfl, rfl, Nat.le_refl _, fun _ _ => rfl⟩) HB.out⟩
theorem fewSum_small {L : List (Nat × Nat)} (h : fewSum L ≤ 60) : ∀ p ∈ L, p.1 ≤ 60 ∧ p.2 ≤ 60 := by
  induction L with
  | nil => simp
  | cons x t ih =>
    obtain ⟨a, b⟩ := x
    simp only [fewSum] at h
    intro p hp
    rcases List.mem_cons.1 hp with rfl | hp
    · simp only; omega
    · exact ih (by omega) p hp
theorem fewq_yes {v : Value} {L : List (Nat × Nat)} {w : World} (h : Rats w v L) (hL : L.length ≤ 12) (hf : fewSum L ≤ 60) :
    Calls Tryd.prog 16 #[v] w fun e w' => e = .returned (.bool true) ∧ Below w.heap.size w w' := by
  have c := fewq_any v L w h hL (fun p hp => by have := fewSum_small hf p hp; omega)
  rwa [decide_eq_true hf] at c
theorem fewq_no {v : Value} {L : List (Nat × Nat)} {w : World} (h : Rats w v L) (hL : L.length ≤ 12) (hm : ∀ p ∈ L, p.1 ≤ 9223372036854775807 ∧ p.2 ≤ 9223372036854775807) (hf : ¬ fewSum L ≤ 60) :
    Calls Tryd.prog 16 #[v] w fun e w' => e = .returned (.bool false) ∧ Below w.heap.size w w' := by
  have c := fewq_any v L w h hL hm
  rwa [decide_eq_false hf] at c
end Go.Proofs.YtccndofafljaaaaDoor
