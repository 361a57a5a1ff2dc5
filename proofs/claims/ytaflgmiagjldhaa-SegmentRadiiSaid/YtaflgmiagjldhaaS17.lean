/- What Touch's answers say of ends that are exchanged, and of points. -/
import Derived.Test.YtaflgmiagjldhaaS15
import Derived.Test.YtaflgmiagjldhaaS16
import Derived.Test.YtaflgmiagjldhaaS10
set_option linter.unusedVariables false
set_option linter.unusedSimpArgs false
namespace Go.Proofs.Ytaflgmiagjldhaa
open Go Go.RowKit Hd

theorem al1 {w : World} {x i : Nat} {v : Value} (h : w.cell? ⟨x, i, none⟩ = some v) (hx : x < w.heap.size) : ∀ o, (w.alloc o).cell? ⟨x, i, none⟩ = some v := fun o => (World.cell?_alloc_lt _ _ _ hx).trans h
theorem al2 {w : World} {x i : Nat} {v : Value} (h : w.cell? ⟨x, i, none⟩ = some v) (hx : x < w.heap.size) : ∀ o p, ((w.alloc o).alloc p).cell? ⟨x, i, none⟩ = some v := fun o p => al1 (al1 h hx o) (by rw [World.size_alloc]; exact Nat.lt_succ_of_lt hx) p

theorem tk_flip {a b c d x0 y0 x1 y1 k : Int} : decide (TK c d a b x0 y0 x1 y1 k ∧ To c d a b x0 y0 x1 y1 k) = decide (TK a b c d x0 y0 x1 y1 k ∧ To a b c d x0 y0 x1 y1 k) := by
  rw [decide_eq_decide, to_flip]
  exact ⟨fun ⟨h, g⟩ => ⟨⟨h.q, h.p, ⟨⟨by have := h.w; omega, by have := h.w; omega⟩, by have := h.w; omega, by have := h.w; omega⟩, h.r, h.k0, h.k1⟩, g⟩, fun ⟨h, g⟩ => ⟨⟨h.q, h.p, ⟨⟨by have := h.w; omega, by have := h.w; omega⟩, by have := h.w; omega, by have := h.w; omega⟩, h.r, h.k0, h.k1⟩, g⟩⟩

theorem tk_point {a b x0 y0 x1 y1 k : Int} (hp : OkP a b) (hr : OkR x0 y0 x1 y1) (k0 : 0 ≤ k) (k1 : k ≤ 1024) : decide (TK a b a b x0 y0 x1 y1 k ∧ To a b a b x0 y0 x1 y1 k) = decide (gapM a b x0 y0 x1 y1 ≤ k * k) :=
  decide_eq_decide.2 ⟨fun h => (to_point hr.hx hr.hy).1 h.2, fun h => ⟨⟨hp, hp, ⟨⟨by omega, by omega⟩, by omega, by omega⟩, hr, k0, k1⟩, (to_point hr.hx hr.hy).2 h⟩⟩
end Go.Proofs.Ytaflgmiagjldhaa
