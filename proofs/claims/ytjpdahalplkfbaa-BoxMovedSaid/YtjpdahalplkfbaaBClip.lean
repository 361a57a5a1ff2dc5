/- Clip; moved boxes. -/
import Derived.Test.YtjpdahalplkfbaaBMv
import Derived.Test.YtjpdahalplkfbaaB5
set_option linter.unusedVariables false
set_option linter.unusedSimpArgs false
namespace Go.Proofs.Ytjpdahalplkfbaa
open Go Go.RowKit Hd

set_option maxRecDepth 100000 in
set_option maxHeartbeats 4000000 in
theorem Clip_w0 (n m o : Int) (MX0 MX1 : Int) (mx0 : (if o < n then o else n) = MX0) (mx1 : (if m < MX0 then MX0 else m) = MX1)   (w : World) :
    Calls Try.prog 40 #[.int .i64 n, .int .i64 m, .int .i64 o] w fun e w' => e = .returned (.int .i64 MX1) ∧ Below w.heap.size w w' := by
  replace mx0 := Lib.hid mx0
  replace mx1 := Lib.hid mx1
  have HB := Lib.hid (Below.refl w.heap.size w)
  go_enter Try.func40, Try.ntmps40
  go_upto_region 1 with (fail)
  have mxo0 := mx0.out
  have mxo1 := mx1.out
  go_wp2
  go_ret
  exact ⟨(by first | rfl | exact rbt (by omega) | exact rbf (by omega)), nextw HB.out (by exact sm)⟩

def ClipV (n m o : Int) : Value := .int .i64 (if m < (if o < n then o else n) then (if o < n then o else n) else m)
theorem Clip_any (n m o : Int)  (w : World) :
    Calls Try.prog 40 #[.int .i64 n, .int .i64 m, .int .i64 o] w fun e w' => e = .returned (ClipV n m o) ∧ Below w.heap.size w w' := by
  unfold ClipV
  exact Clip_w0 n m o _ _ rfl rfl   w

/-- What Clip answers. -/
def clipM (n lo hi : Int) : Int := max lo (min n hi)
theorem Clip_at {n lo hi s : Int} (hs : clipM n lo hi = s) (w : World) : Calls Try.prog 40 #[.int .i64 n, .int .i64 lo, .int .i64 hi] w fun e w' => e = .returned (.int .i64 s) ∧ Below w.heap.size w w' := by
  have e := Clip_any n lo hi w
  rwa [show ClipV n lo hi = .int .i64 s by unfold ClipV; rw [← hs]; unfold clipM; exact congrArg (Value.int .i64) (by split <;> split <;> omega)] at e
theorem clip_bd {n lo hi s : Int} (h : clipM n lo hi = s) (hl : lo ≤ hi) : lo ≤ s ∧ s ≤ hi ∧ (n < lo ∧ s = lo ∨ hi < n ∧ s = hi ∨ lo ≤ n ∧ n ≤ hi ∧ s = n) := by unfold clipM at h; omega
theorem HasP.bd {x0 y0 x1 y1 f c x y h : Int} (i : HasP x0 y0 x1 y1 f c x y h) : (-1048576 ≤ x ∧ x ≤ 1048576) ∧ (-1048576 ≤ y ∧ y ≤ 1048576) ∧ (x0 ≤ x ∧ x ≤ x1) ∧ (y0 ≤ y ∧ y ≤ y1) := by
  obtain ⟨o, i1, i2, i3, i4, -⟩ := i; have b := o.b; omega
theorem mv_has {x0 y0 x1 y1 f c a b k l x y h s t : Int} (j : mvArg x0 y0 x1 y1 f c a b k l) (g : mvRng x0 y0 x1 y1 a b k l) (i : HasP x0 y0 x1 y1 f c x y h) (hs : a ≤ s ∧ s ≤ b) (ht : k ≤ t ∧ t ≤ l) : HasP (x0 + a) (y0 + k) (x1 + b) (y1 + l) f c (x + s) (y + t) h := by
  obtain ⟨o, j1, j2⟩ := j
  obtain ⟨g1, g2, g3, g4, g5, g6, g7, g8⟩ := g
  obtain ⟨-, i1, i2, i3, i4, i5⟩ := i
  have b := o.b
  exact ⟨⟨⟨by omega, by omega⟩, o.a⟩, by omega, by omega, by omega, by omega, i5⟩
theorem mv_near {x0 y0 x1 y1 f c a b k l x y h p q : Int} (j : mvArg x0 y0 x1 y1 f c a b k l) (i : HasP (x0 + a) (y0 + k) (x1 + b) (y1 + l) f c x y h) (hp : clipM (x - a) x0 x1 = p) (hq : clipM (y - k) y0 y1 = q) : HasP x0 y0 x1 y1 f c p q h := by
  obtain ⟨o, j1, j2⟩ := j
  have b := o.b
  have hp := clip_bd hp (by omega)
  have hq := clip_bd hq (by omega)
  obtain ⟨-, i1, i2, i3, i4, i5⟩ := i
  exact ⟨o, by omega, by omega, by omega, by omega, i5⟩
end Go.Proofs.Ytjpdahalplkfbaa
