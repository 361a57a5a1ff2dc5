/- Plain mathematics: the reference's grid of a sweep. -/
import Derived.Test.YtkhcogfajihecaaYM3
import Derived.Test.YtkhcogfajihecaaSLaw
set_option linter.unusedSimpArgs false
set_option linter.unusedVariables false
namespace Go.Proofs.Ytkhcogfajihecaa
open Go Go.RowKit Hd

theorem lt_cancel' {a b c : Int} (hc : 1 ≤ c) (h : a * c < b * c) : a < b := Int.lt_of_mul_lt_mul_right h (by omega)
theorem fl_sp {n d : Int} (hd : 1 ≤ d) : fl n d * d ≤ n ∧ n < (fl n d + 1) * d := by
  unfold fl
  exact ⟨Int.ediv_mul_le n (by omega), Int.lt_ediv_add_one_mul_self n (by omega)⟩
theorem fl_mm {lo hi x d N M mn mx : Int} (hd : 1 ≤ d) (hM : 1 ≤ M) (h1 : lo * M ≤ N * d) (h2 : N * d ≤ hi * M) (a1 : mn ≤ fl (lo * x) d) (a2 : mn ≤ fl (hi * x) d) (b1 : fl (lo * x) d ≤ mx) (b2 : fl (hi * x) d ≤ mx) : mn * M ≤ N * x ∧ N * x ≤ (mx + 1) * M := by
  obtain ⟨f1, f2⟩ := fl_sp (n := lo * x) hd
  obtain ⟨f3, f4⟩ := fl_sp (n := hi * x) hd
  have c1 := mle (show 0 ≤ d by omega) a1
  have c2 := mle (show 0 ≤ d by omega) a2
  have c3 := mle (show 0 ≤ d by omega) (show fl (lo * x) d + 1 ≤ mx + 1 by omega)
  have c4 := mle (show 0 ≤ d by omega) (show fl (hi * x) d + 1 ≤ mx + 1 by omega)
  have d1 := mle (show 0 ≤ M by omega) (show mn * d ≤ lo * x by omega)
  have d2 := mle (show 0 ≤ M by omega) (show mn * d ≤ hi * x by omega)
  have d3 := mle (show 0 ≤ M by omega) (show lo * x ≤ (mx + 1) * d by omega)
  have d4 := mle (show 0 ≤ M by omega) (show hi * x ≤ (mx + 1) * d by omega)
  rcases Int.lt_or_le x 0 with hx | hx
  · have e1 := mle (show 0 ≤ -x by omega) h1
    have e2 := mle (show 0 ≤ -x by omega) h2
    exact ⟨le_cancel hd (by grind), le_cancel hd (by grind)⟩
  · have e1 := mle hx h1
    have e2 := mle hx h2
    exact ⟨le_cancel hd (by grind), le_cancel hd (by grind)⟩
/-- Whether a cell is met, as the reference asks. -/
def spB (x0 y0 x1 y1 x y d lo hi X Y : Int) : Bool := meB 0 0 x y d lo hi ((X * 64) - x1) ((Y * 64) - y1) (((X * 64) + 64) - x0) (((Y * 64) + 64) - y0)
theorem spB_iff {x0 y0 x1 y1 x y d lo hi X Y : Int} (h : SwO x0 y0 x1 y1 x y d lo hi) (ho : OkR ((X * 64) - x1) ((Y * 64) - y1) (((X * 64) + 64) - x0) (((Y * 64) + 64) - y0)) : spB x0 y0 x1 y1 x y d lo hi X Y = true ↔ SwP x0 y0 x1 y1 x y d lo hi X Y := by
  unfold spB SwP
  rw [me_iff]
  have l0 := h.l0
  have lh := h.lh
  have h1 := h.h1
  have hd := h.v.lo
  constructor
  · rintro ⟨-, -, t, m, hm, ⟨g0, ⟨g1, g2⟩, g3, g4⟩, g5, g6⟩
    exact ⟨t, m, hm, ⟨g5, g6⟩, ⟨by grind, by grind⟩, by grind, by grind⟩
  · rintro ⟨N, M, hM, ⟨g5, g6⟩, ⟨g1, g2⟩, g3, g4⟩
    have hN : 0 ≤ N := by
      have := mle (show 0 ≤ M by omega) l0
      exact le_cancel hd (by omega)
    exact ⟨⟨l0, lh, by omega⟩, ⟨⟨by decide, by decide, by decide, by decide⟩, h.v, ho⟩, N, M, hM, ⟨hN, ⟨by grind, by grind⟩, by grind, by grind⟩, g5, g6⟩
theorem sw_range {x0 y0 x1 y1 x y d lo hi X Y mn mx : Int} (h : SwO x0 y0 x1 y1 x y d lo hi) (hp : SwP x0 y0 x1 y1 x y d lo hi X Y) (a1 : mn ≤ fl (lo * x) d) (a2 : mn ≤ fl (hi * x) d) (b1 : fl (lo * x) d ≤ mx) (b2 : fl (hi * x) d ≤ mx) : x0 + mn ≤ 64 * (X + 1) ∧ 64 * X ≤ x1 + mx + 1 := by
  obtain ⟨N, M, hM, ⟨g5, g6⟩, ⟨g1, g2⟩, -⟩ := hp
  obtain ⟨k1, k2⟩ := fl_mm h.v.lo hM g5 g6 a1 a2 b1 b2
  exact ⟨le_cancel hM (by grind), le_cancel hM (by grind)⟩
theorem sw_rangeY {x0 y0 x1 y1 x y d lo hi X Y mn mx : Int} (h : SwO x0 y0 x1 y1 x y d lo hi) (hp : SwP x0 y0 x1 y1 x y d lo hi X Y) (a1 : mn ≤ fl (lo * y) d) (a2 : mn ≤ fl (hi * y) d) (b1 : fl (lo * y) d ≤ mx) (b2 : fl (hi * y) d ≤ mx) : y0 + mn ≤ 64 * (Y + 1) ∧ 64 * Y ≤ y1 + mx + 1 := by
  obtain ⟨N, M, hM, ⟨g5, g6⟩, -, g1, g2⟩ := hp
  obtain ⟨k1, k2⟩ := fl_mm h.v.lo hM g5 g6 a1 a2 b1 b2
  exact ⟨le_cancel hM (by grind), le_cancel hM (by grind)⟩
theorem grid_sw {x0 y0 x1 y1 x y d lo hi KX0 KY0 KX1 KY1 mnx mxx mny mxy : Int} {n m : Nat} (h : SwO x0 y0 x1 y1 x y d lo hi)
    (a1 : mnx ≤ fl (lo * x) d) (a2 : mnx ≤ fl (hi * x) d) (b1 : fl (lo * x) d ≤ mxx) (b2 : fl (hi * x) d ≤ mxx) (a3 : mny ≤ fl (lo * y) d) (a4 : mny ≤ fl (hi * y) d) (b3 : fl (lo * y) d ≤ mxy) (b4 : fl (hi * y) d ≤ mxy)
    (r1 : -2049 ≤ mnx) (r2 : mxx ≤ 2049) (r3 : -2049 ≤ mny) (r4 : mxy ≤ 2049)
    (h1 : 64 * (KX0 + 1) ≤ x0 + mnx) (h1' : x0 + mnx < 64 * (KX0 + 2)) (h2 : 64 * (KY0 + 1) ≤ y0 + mny) (h2' : y0 + mny < 64 * (KY0 + 2)) (h3 : x1 + mxx + 1 < 64 * KX1) (h3' : 64 * (KX1 - 1) ≤ x1 + mxx + 1) (h4 : y1 + mxy + 1 < 64 * KY1) (h4' : 64 * (KY1 - 1) ≤ y1 + mxy + 1) (hn : (KX1 + 1 - KX0).toNat = n) (hm : (KY1 + 1 - KY0).toNat = m) :
    gridF (spB x0 y0 x1 y1 x y d lo hi) KX0 KY0 n m = swX x0 y0 x1 y1 x y d lo hi := by
  have wx := h.wx
  have wy := h.wy
  have hx := h.hx
  have hy := h.hy
  refine sr_ext (sr_gridF _ _ _ _ _) (sr_swK _ _ _ _ _ _ _ _ _ _ _) (fun c => ?_)
  rw [mem_gridF]
  have e := mem_swX (x0 := x0) (y0 := y0) (x1 := x1) (y1 := y1) (x := x) (y := y) (d := d) (lo := lo) (hi := hi) (X := c.1) (Y := c.2) h.v.lo h.lh hx hy
  have e2 : c ∈ swX x0 y0 x1 y1 x y d lo hi ↔ SwP x0 y0 x1 y1 x y d lo hi c.1 c.2 := e
  show _ ↔ c ∈ swX x0 y0 x1 y1 x y d lo hi
  rw [e2]
  constructor
  · rintro ⟨g1, g2, g3⟩
    exact (spB_iff h ⟨by omega, by omega, by omega, by omega, by omega, by omega, by omega, by omega, by omega, by omega⟩).1 g3
  · intro hp
    obtain ⟨k1, k2⟩ := sw_range h hp a1 a2 b1 b2
    obtain ⟨k3, k4⟩ := sw_rangeY h hp a3 a4 b3 b4
    refine ⟨by omega, by omega, (spB_iff h ⟨by omega, by omega, by omega, by omega, by omega, by omega, by omega, by omega, by omega, by omega⟩).2 hp⟩
theorem fl_small {t x d : Int} (hd : 1 ≤ d) (h0 : 0 ≤ t) (h1 : t ≤ 2048) (hx1 : -d ≤ x) (hx2 : x ≤ d) : -2049 ≤ fl (t * x) d ∧ fl (t * x) d ≤ 2048 := by
  obtain ⟨f1, f2⟩ := fl_sp (n := t * x) hd
  have k1 := mle h0 hx1
  have k2 := mle h0 hx2
  have k3 := mle (show 0 ≤ d by omega) h1
  constructor
  · have : -2048 * d < (fl (t * x) d + 1) * d := by grind
    have := lt_cancel' hd this
    omega
  · have : fl (t * x) d * d ≤ 2048 * d := by grind
    exact le_cancel hd this
end Go.Proofs.Ytkhcogfajihecaa
