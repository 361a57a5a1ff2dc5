/- Plain mathematics: the distances at which a ray is in a rectangle, as the program finds them. -/
import Derived.Test.YtkhcogfajihecaaSMath
namespace Go.Proofs.Ytkhcogfajihecaa
namespace Hd

/-- The numbers from i/j to o/u. -/
structure Sp where
  i : Int
  j : Int
  o : Int
  u : Int
structure Bd (i j o u : Int) : Prop where
  i1 : -4194304 ≤ i
  i2 : i ≤ 4194304
  j1 : 0 ≤ j
  j2 : j ≤ 67108864
  o1 : -4194304 ≤ o
  o2 : o ≤ 4194304
  u1 : 0 ≤ u
  u2 : u ≤ 67108864
structure Be (x lo hi : Int) : Prop where
  x1 : -67108864 ≤ x
  x2 : x ≤ 67108864
  l1 : -4194304 ≤ lo
  l2 : lo ≤ 4194304
  h1 : -4194304 ≤ hi
  h2 : hi ≤ 4194304
theorem bnd {a b : Int} (a1 : -4194304 ≤ a) (a2 : a ≤ 4194304) (b1 : -67108864 ≤ b) (b2 : b ≤ 67108864) : -281474976710656 ≤ a * b ∧ a * b ≤ 281474976710656 := by
  have := mul_le (a := a) (b := b) (A := 4194304) (B := 67108864) a1 a2 b1 b2
  omega
def cutI (s : Sp) (X L : Int) : Sp := if s.i * X < L * s.j then ⟨L, X, s.o, s.u⟩ else s
def cutO (s : Sp) (X H : Int) : Sp := if H * s.u < s.o * X then ⟨s.i, s.j, H, X⟩ else s
def cutP (s : Sp) (X L H : Int) : Sp := cutO (cutI s X L) X H
def okS (s : Sp) : Bool := !decide (s.o * s.j < s.i * s.u)
def cutS (s : Sp) (x lo hi : Int) : Sp := if x = 0 then s else if x < 0 then cutP s (-x) (-hi) (-lo) else cutP s x lo hi
def cutB (s : Sp) (x lo hi : Int) : Bool := if x = 0 then decide (lo ≤ 0 ∧ 0 ≤ hi) else okS (cutS s x lo hi)
def BdS (s : Sp) : Prop := Bd s.i s.j s.o s.u
theorem cutP_bd {s : Sp} {X L H : Int} (h : BdS s) (b : Be X L H) (hx : 0 ≤ X) : BdS (cutP s X L H) := by
  obtain ⟨h1, h2, h3, h4, h5, h6, h7, h8⟩ := h
  obtain ⟨b1, b2, b3, b4, b5, b6⟩ := b
  unfold BdS cutP cutO cutI
  repeat' split
  all_goals constructor <;> ((try dsimp only); omega)
theorem cutS_bd {s : Sp} {x lo hi : Int} (h : BdS s) (b : Be x lo hi) : BdS (cutS s x lo hi) := by
  unfold cutS
  split
  · exact h
  · obtain ⟨b1, b2, b3, b4, b5, b6⟩ := b
    split
    · exact cutP_bd h ⟨by omega, by omega, by omega, by omega, by omega, by omega⟩ (by omega)
    · exact cutP_bd h ⟨by omega, by omega, by omega, by omega, by omega, by omega⟩ (by omega)
def s0 : Sp := ⟨0, 1, 1, 0⟩
def sz : Sp := ⟨0, 0, 0, 0⟩
theorem s0_bd : BdS s0 := by constructor <;> decide
/-- The numbers t for which p + t (x, y) is in the rectangle. -/
def pasB (a b x y x0 y0 x1 y1 : Int) : Bool := cutB s0 x (x0 - a) (x1 - a) && cutB (cutS s0 x (x0 - a) (x1 - a)) y (y0 - b) (y1 - b)
def pasS (a b x y x0 y0 x1 y1 : Int) : Sp := if cutB s0 x (x0 - a) (x1 - a) = true then cutS (cutS s0 x (x0 - a) (x1 - a)) y (y0 - b) (y1 - b) else sz
def Ok3 (a b x y d x0 y0 x1 y1 : Int) : Prop := OkP a b ∧ OkV x y d ∧ OkR x0 y0 x1 y1
instance (a b x y d x0 y0 x1 y1 : Int) : Decidable (Ok3 a b x y d x0 y0 x1 y1) := inferInstanceAs (Decidable (_ ∧ _ ∧ _))
def visB (a b x y d x0 y0 x1 y1 : Int) : Bool := decide (Ok3 a b x y d x0 y0 x1 y1) && pasB a b x y x0 y0 x1 y1
def visS (a b x y d x0 y0 x1 y1 : Int) : Sp := if Ok3 a b x y d x0 y0 x1 y1 then pasS a b x y x0 y0 x1 y1 else sz
theorem sz_bd : BdS sz := by constructor <;> decide
theorem pasS_bd {a b x y x0 y0 x1 y1 : Int} (hp : OkP a b) (hr : OkR x0 y0 x1 y1) (x1' : -67108864 ≤ x) (x2' : x ≤ 67108864) (y1' : -67108864 ≤ y) (y2' : y ≤ 67108864) : BdS (pasS a b x y x0 y0 x1 y1) := by
  obtain ⟨p1, p2, p3, p4⟩ := hp
  obtain ⟨r1, r2, r3, r4, r5, r6, r7, r8, r9, r10⟩ := hr
  unfold pasS
  split
  · exact cutS_bd (cutS_bd s0_bd ⟨by omega, by omega, by omega, by omega, by omega, by omega⟩) ⟨by omega, by omega, by omega, by omega, by omega, by omega⟩
  · exact sz_bd
theorem visS_bd (a b x y d x0 y0 x1 y1 : Int) : BdS (visS a b x y d x0 y0 x1 y1) := by
  unfold visS
  split
  · rename_i h
    have hx := h.2.1.bx
    have hy := h.2.1.by_
    have := h.2.1.hi
    exact pasS_bd h.1 h.2.2 (by omega) (by omega) (by omega) (by omega)
  · exact sz_bd
/-- In lowest terms. -/
def gg (n d : Int) : Int := (Nat.gcd d.natAbs n.natAbs : Nat)
def lwN (n d : Int) : Int := n.tdiv (gg n d)
def lwD (n d : Int) : Int := d.tdiv (gg n d)
theorem gg_pos {n d : Int} (h : 1 ≤ d) : 1 ≤ gg n d := by
  have : 0 < Nat.gcd d.natAbs n.natAbs := Nat.gcd_pos_of_pos_left _ (by omega)
  unfold gg; omega
end Hd
end Go.Proofs.Ytkhcogfajihecaa
