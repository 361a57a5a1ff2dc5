/- The law RationalField: the walk. -/
import Derived.Test.YtccndofafljaaaaDoorQFewL
import Derived.Test.YtccndofafljaaaaDoorQ5
import Derived.Deep.DeepCutAuto

set_option linter.unusedVariables false
set_option linter.unusedSimpArgs false

namespace Go.Proofs.YtccndofafljaaaaDoor
open Go Go.RowKit Num

theorem below_push2 {w w' : World} {o o2 : Obj} (h1 : w'.os = w.os) (h2 : w'.tape = w.tape) (h3 : w'.output = w.output) (h4 : w'.heap = (w.heap.push o).push o2) : Below w.heap.size w w' :=
  ⟨h1, h2, h3, by rw [h4]; simp; omega, fun k hk => by rw [h4]; simp [Array.getElem?_push, show k ≠ w.heap.size + 1 by omega, show k ≠ w.heap.size by omega]⟩
theorem box_new1 {w X w' : World} (hb : Below X.heap.size X w') (hX : X.heap = w.heap.push (.cells #[.bool false, .slice none 0 0, .bool false, .slice none 0 0] 38)) : Box4 w' w.heap.size false (.slice none 0 0) false (.slice none 0 0) := by
  unfold Box4
  rw [hb.block w.heap.size (by rw [hX]; simp), hX]
  simp
theorem box_new2 {w X w' : World} (hb : Below X.heap.size X w') (hX : X.heap = (w.heap.push (.cells #[.bool false, .slice none 0 0, .bool false, .slice none 0 0] 38)).push (.cells #[.bool false, .slice none 0 0, .bool false, .slice none 0 0] 38)) : Box4 w' w.heap.size false (.slice none 0 0) false (.slice none 0 0) ∧ Box4 w' (w.heap.size + 1) false (.slice none 0 0) false (.slice none 0 0) := by
  unfold Box4
  rw [hb.block w.heap.size (by rw [hX]; simp; omega), hb.block (w.heap.size + 1) (by rw [hX]; simp), hX]
  constructor
  · rw [Array.getElem?_push_lt (by simp), Array.getElem_push_eq]
  · have : w.heap.size + 1 = (w.heap.push (Obj.cells #[.bool false, .slice none 0 0, .bool false, .slice none 0 0] 38)).size := by simp
    rw [this, Array.getElem?_push_size]
/-- What the statement that adds and multiplies leaves: two new variables, a and b. -/
def SumProd (w0 : World) (R S : Rat) (a b : Value) (wx : World) : Prop :=
  ∃ p q ss As ks cs ts Cs ls ds sm Am km cm tm Cm lm dm, a = .pointer (some ⟨p, 0, none⟩) ∧ b = .pointer (some ⟨q, 0, none⟩) ∧ p ≠ q ∧ w0.heap.size ≤ p ∧ w0.heap.size ≤ q ∧
    Box4 wx p ss (.slice As ks cs) ts (.slice Cs ls ds) ∧ Box4 wx q sm (.slice Am km cm) tm (.slice Cm lm dm) ∧
    Qc wx (.agg #[.bool ss, .slice As ks cs, .bool ts, .slice Cs ls ds]) R 1000 ∧ Qc wx (.agg #[.bool sm, .slice Am km cm, .bool tm, .slice Cm lm dm]) S 1000 ∧ Below w0.heap.size w0 wx
theorem fin1 {w0 w : World} {R S : Rat} {j1 j2 : Nat} {ss : Bool} {As : Option Addr} {ks cs : Nat} {ts : Bool} {Cs : Option Addr} {ls ds : Nat} {sm : Bool} {Am : Option Addr} {km cm : Nat} {tm : Bool} {Cm : Option Addr} {lm dm : Nat} (hs : Qc w (.agg #[.bool ss, .slice As ks cs, .bool ts, .slice Cs ls ds]) R j1) (hm : Qc w (.agg #[.bool sm, .slice Am km cm, .bool tm, .slice Cm lm dm]) S j2) (hb : Below w0.heap.size w0 w) (g1 : j1 ≤ 1000) (g2 : j2 ≤ 1000) : SumProd w0 R S (.pointer (some ⟨w.heap.size, 0, none⟩)) (.pointer (some ⟨w.heap.size + 1, 0, none⟩)) ((w.alloc (.cells #[.bool ss, .slice As ks cs, .bool ts, .slice Cs ls ds] 38)).alloc (.cells #[.bool sm, .slice Am km cm, .bool tm, .slice Cm lm dm] 38)) := by
  have b1 : Below w.heap.size w (w.alloc (.cells #[.bool ss, .slice As ks cs, .bool ts, .slice Cs ls ds] 38)) := (Below.refl _ _).alloc (Nat.le_refl _) _
  have b2 : Below w.heap.size w ((w.alloc (.cells #[.bool ss, .slice As ks cs, .bool ts, .slice Cs ls ds] 38)).alloc (.cells #[.bool sm, .slice Am km cm, .bool tm, .slice Cm lm dm] 38)) := b1.alloc (by simp) _
  refine ⟨_, _, _, _, _, _, _, _, _, _, _, _, _, _, _, _, _, _, rfl, rfl, by omega, hb.size, Nat.le_succ_of_le hb.size, (Box4.new w ss _ ts _).alloc _, ?_, (hs.below b2).more g1, (hm.below b2).more g2, nextw hb b2⟩
  have h := Box4.new (w.alloc (.cells #[.bool ss, .slice As ks cs, .bool ts, .slice Cs ls ds] 38)) sm (.slice Am km cm) tm (.slice Cm lm dm)
  simpa using h
theorem fin1b {w0 w : World} {R S : Rat} {j1 j2 : Nat} {ss : Bool} {As : Option Addr} {ks cs : Nat} {ts : Bool} {Cs : Option Addr} {ls ds : Nat} {sm : Bool} {Am : Option Addr} {km cm : Nat} {tm : Bool} {Cm : Option Addr} {lm dm : Nat} (hs : Qc w (.agg #[.bool ss, .slice As ks cs, .bool ts, .slice Cs ls ds]) R j1) (hm : Qc w (.agg #[.bool sm, .slice Am km cm, .bool tm, .slice Cm lm dm]) S j2) (hb : Below w0.heap.size w0 w) (g1 : j1 ≤ 1000) (g2 : j2 ≤ 1000) : SumProd w0 R S (.pointer (some ⟨w.heap.size + 1, 0, none⟩)) (.pointer (some ⟨w.heap.size, 0, none⟩)) ((w.alloc (.cells #[.bool sm, .slice Am km cm, .bool tm, .slice Cm lm dm] 38)).alloc (.cells #[.bool ss, .slice As ks cs, .bool ts, .slice Cs ls ds] 38)) := by
  have b1 : Below w.heap.size w (w.alloc (.cells #[.bool sm, .slice Am km cm, .bool tm, .slice Cm lm dm] 38)) := (Below.refl _ _).alloc (Nat.le_refl _) _
  have b2 : Below w.heap.size w ((w.alloc (.cells #[.bool sm, .slice Am km cm, .bool tm, .slice Cm lm dm] 38)).alloc (.cells #[.bool ss, .slice As ks cs, .bool ts, .slice Cs ls ds] 38)) := b1.alloc (by simp) _
  refine ⟨_, _, _, _, _, _, _, _, _, _, _, _, _, _, _, _, _, _, rfl, rfl, by omega, Nat.le_succ_of_le hb.size, hb.size, ?_, (Box4.new w sm _ tm _).alloc _, (hs.below b2).more g1, (hm.below b2).more g2, nextw hb b2⟩
  have h := Box4.new (w.alloc (.cells #[.bool sm, .slice Am km cm, .bool tm, .slice Cm lm dm] 38)) ss (.slice As ks cs) ts (.slice Cs ls ds)
  simpa using h
theorem fin2 {w0 w : World} {R S : Rat} {j1 j2 : Nat} {ss : Bool} {As : Option Addr} {ks cs : Nat} {ts : Bool} {Cs : Option Addr} {ls ds : Nat} {sm : Bool} {Am : Option Addr} {km cm : Nat} {tm : Bool} {Cm : Option Addr} {lm dm : Nat} {p : Nat} (hs : Qc w (.agg #[.bool ss, .slice As ks cs, .bool ts, .slice Cs ls ds]) R j1) (hm : Qc w (.agg #[.bool sm, .slice Am km cm, .bool tm, .slice Cm lm dm]) S j2) (hb : Below w0.heap.size w0 w) (g1 : j1 ≤ 1000) (g2 : j2 ≤ 1000) (hn : Box4 w p false (.slice none 0 0) false (.slice none 0 0)) (hp : w0.heap.size ≤ p) : SumProd w0 R S (.pointer (some ⟨p, 0, none⟩)) (.pointer (some ⟨w.heap.size, 0, none⟩)) ((st4 w p (.bool ss) (.slice As ks cs) (.bool ts) (.slice Cs ls ds)).alloc (.cells #[.bool sm, .slice Am km cm, .bool tm, .slice Cm lm dm] 38)) := by
  have hl := hn.lt
  have b1 : Below (st4 w p (.bool ss) (.slice As ks cs) (.bool ts) (.slice Cs ls ds)).heap.size (st4 w p (.bool ss) (.slice As ks cs) (.bool ts) (.slice Cs ls ds)) ((st4 w p (.bool ss) (.slice As ks cs) (.bool ts) (.slice Cs ls ds)).alloc (.cells #[.bool sm, .slice Am km cm, .bool tm, .slice Cm lm dm] 38)) := (Below.refl _ _).alloc (Nat.le_refl _) _
  refine ⟨_, _, _, _, _, _, _, _, _, _, _, _, _, _, _, _, _, _, rfl, rfl, by omega, hp, hb.size, (hn.store ss _ ts _).alloc _, ?_, ((hn.keepsQc hs _ _ _ _).below b1).more g1, ((hn.keepsQc hm _ _ _ _).below b1).more g2, nextw (Below.store4 hb hp _ _ _ _) b1⟩
  have h := Box4.new (st4 w p (.bool ss) (.slice As ks cs) (.bool ts) (.slice Cs ls ds)) sm (.slice Am km cm) tm (.slice Cm lm dm)
  rwa [size_st4] at h
theorem fin2b {w0 w : World} {R S : Rat} {j1 j2 : Nat} {ss : Bool} {As : Option Addr} {ks cs : Nat} {ts : Bool} {Cs : Option Addr} {ls ds : Nat} {sm : Bool} {Am : Option Addr} {km cm : Nat} {tm : Bool} {Cm : Option Addr} {lm dm : Nat} {p : Nat} (hs : Qc w (.agg #[.bool ss, .slice As ks cs, .bool ts, .slice Cs ls ds]) R j1) (hm : Qc w (.agg #[.bool sm, .slice Am km cm, .bool tm, .slice Cm lm dm]) S j2) (hb : Below w0.heap.size w0 w) (g1 : j1 ≤ 1000) (g2 : j2 ≤ 1000) (hn : Box4 w p false (.slice none 0 0) false (.slice none 0 0)) (hp : w0.heap.size ≤ p) : SumProd w0 R S (.pointer (some ⟨w.heap.size, 0, none⟩)) (.pointer (some ⟨p, 0, none⟩)) ((st4 w p (.bool sm) (.slice Am km cm) (.bool tm) (.slice Cm lm dm)).alloc (.cells #[.bool ss, .slice As ks cs, .bool ts, .slice Cs ls ds] 38)) := by
  have hl := hn.lt
  have b1 : Below (st4 w p (.bool sm) (.slice Am km cm) (.bool tm) (.slice Cm lm dm)).heap.size (st4 w p (.bool sm) (.slice Am km cm) (.bool tm) (.slice Cm lm dm)) ((st4 w p (.bool sm) (.slice Am km cm) (.bool tm) (.slice Cm lm dm)).alloc (.cells #[.bool ss, .slice As ks cs, .bool ts, .slice Cs ls ds] 38)) := (Below.refl _ _).alloc (Nat.le_refl _) _
  refine ⟨_, _, _, _, _, _, _, _, _, _, _, _, _, _, _, _, _, _, rfl, rfl, by omega, hb.size, hp, ?_, (hn.store sm _ tm _).alloc _, ((hn.keepsQc hs _ _ _ _).below b1).more g1, ((hn.keepsQc hm _ _ _ _).below b1).more g2, nextw (Below.store4 hb hp _ _ _ _) b1⟩
  have h := Box4.new (st4 w p (.bool sm) (.slice Am km cm) (.bool tm) (.slice Cm lm dm)) ss (.slice As ks cs) ts (.slice Cs ls ds)
  rwa [size_st4] at h
theorem fin3 {w0 w : World} {R S : Rat} {j1 j2 : Nat} {ss : Bool} {As : Option Addr} {ks cs : Nat} {ts : Bool} {Cs : Option Addr} {ls ds : Nat} {sm : Bool} {Am : Option Addr} {km cm : Nat} {tm : Bool} {Cm : Option Addr} {lm dm : Nat} {p q : Nat} (hs : Qc w (.agg #[.bool ss, .slice As ks cs, .bool ts, .slice Cs ls ds]) R j1) (hm : Qc w (.agg #[.bool sm, .slice Am km cm, .bool tm, .slice Cm lm dm]) S j2) (hb : Below w0.heap.size w0 w) (g1 : j1 ≤ 1000) (g2 : j2 ≤ 1000) (hn : Box4 w p false (.slice none 0 0) false (.slice none 0 0)) (hn2 : Box4 w q false (.slice none 0 0) false (.slice none 0 0)) (hp : w0.heap.size ≤ p) (hq : w0.heap.size ≤ q) (hpq : p ≠ q) : SumProd w0 R S (.pointer (some ⟨p, 0, none⟩)) (.pointer (some ⟨q, 0, none⟩)) (st4 (st4 w p (.bool ss) (.slice As ks cs) (.bool ts) (.slice Cs ls ds)) q (.bool sm) (.slice Am km cm) (.bool tm) (.slice Cm lm dm)) :=
  have hq2 := hn2.far4 (Ne.symm hpq) (.bool ss) (.slice As ks cs) (.bool ts) (.slice Cs ls ds)
  ⟨_, _, _, _, _, _, _, _, _, _, _, _, _, _, _, _, _, _, rfl, rfl, hpq, hp, hq, (hn.store ss _ ts _).far4 hpq _ _ _ _, hq2.store sm _ tm _, (hq2.keepsQc (hn.keepsQc hs _ _ _ _) _ _ _ _).more g1, (hq2.keepsQc (hn.keepsQc hm _ _ _ _) _ _ _ _).more g2, Below.store4 (Below.store4 hb hp _ _ _ _) hq _ _ _ _⟩
theorem fin2x {w0 w : World} {R S : Rat} {j1 j2 : Nat} {ss : Bool} {As : Option Addr} {ks cs : Nat} {ts : Bool} {Cs : Option Addr} {ls ds : Nat} {sm : Bool} {Am : Option Addr} {km cm : Nat} {tm : Bool} {Cm : Option Addr} {lm dm : Nat} {p : Nat} (hs : Qc w (.agg #[.bool ss, .slice As ks cs, .bool ts, .slice Cs ls ds]) R j1) (hm : Qc w (.agg #[.bool sm, .slice Am km cm, .bool tm, .slice Cm lm dm]) S j2) (hb : Below w0.heap.size w0 w) (g1 : j1 ≤ 1000) (g2 : j2 ≤ 1000) (hn : Box4 w p false (.slice none 0 0) false (.slice none 0 0)) (hp : w0.heap.size ≤ p) : SumProd w0 R S (.pointer (some ⟨p, 0, none⟩)) (.pointer (some ⟨w.heap.size, 0, none⟩)) (((((w.setCell ⟨p, 0, none⟩ (.bool ss)).setCell ⟨p, 1, none⟩ (.slice As ks cs)).setCell ⟨p, 2, none⟩ (.bool ts)).setCell ⟨p, 3, none⟩ (.slice Cs ls ds)).alloc (.cells #[.bool sm, .slice Am km cm, .bool tm, .slice Cm lm dm] 38)) := fin2 hs hm hb g1 g2 hn hp
theorem fin2bx {w0 w : World} {R S : Rat} {j1 j2 : Nat} {ss : Bool} {As : Option Addr} {ks cs : Nat} {ts : Bool} {Cs : Option Addr} {ls ds : Nat} {sm : Bool} {Am : Option Addr} {km cm : Nat} {tm : Bool} {Cm : Option Addr} {lm dm : Nat} {p : Nat} (hs : Qc w (.agg #[.bool ss, .slice As ks cs, .bool ts, .slice Cs ls ds]) R j1) (hm : Qc w (.agg #[.bool sm, .slice Am km cm, .bool tm, .slice Cm lm dm]) S j2) (hb : Below w0.heap.size w0 w) (g1 : j1 ≤ 1000) (g2 : j2 ≤ 1000) (hn : Box4 w p false (.slice none 0 0) false (.slice none 0 0)) (hp : w0.heap.size ≤ p) : SumProd w0 R S (.pointer (some ⟨w.heap.size, 0, none⟩)) (.pointer (some ⟨p, 0, none⟩)) (((((w.setCell ⟨p, 0, none⟩ (.bool sm)).setCell ⟨p, 1, none⟩ (.slice Am km cm)).setCell ⟨p, 2, none⟩ (.bool tm)).setCell ⟨p, 3, none⟩ (.slice Cm lm dm)).alloc (.cells #[.bool ss, .slice As ks cs, .bool ts, .slice Cs ls ds] 38)) := fin2b hs hm hb g1 g2 hn hp
theorem fin3x {w0 w : World} {R S : Rat} {j1 j2 : Nat} {ss : Bool} {As : Option Addr} {ks cs : Nat} {ts : Bool} {Cs : Option Addr} {ls ds : Nat} {sm : Bool} {Am : Option Addr} {km cm : Nat} {tm : Bool} {Cm : Option Addr} {lm dm : Nat} {p q : Nat} (hs : Qc w (.agg #[.bool ss, .slice As ks cs, .bool ts, .slice Cs ls ds]) R j1) (hm : Qc w (.agg #[.bool sm, .slice Am km cm, .bool tm, .slice Cm lm dm]) S j2) (hb : Below w0.heap.size w0 w) (g1 : j1 ≤ 1000) (g2 : j2 ≤ 1000) (hn : Box4 w p false (.slice none 0 0) false (.slice none 0 0)) (hn2 : Box4 w q false (.slice none 0 0) false (.slice none 0 0)) (hp : w0.heap.size ≤ p) (hq : w0.heap.size ≤ q) (hpq : p ≠ q) : SumProd w0 R S (.pointer (some ⟨p, 0, none⟩)) (.pointer (some ⟨q, 0, none⟩)) ((((((((w.setCell ⟨p, 0, none⟩ (.bool ss)).setCell ⟨p, 1, none⟩ (.slice As ks cs)).setCell ⟨p, 2, none⟩ (.bool ts)).setCell ⟨p, 3, none⟩ (.slice Cs ls ds)).setCell ⟨q, 0, none⟩ (.bool sm)).setCell ⟨q, 1, none⟩ (.slice Am km cm)).setCell ⟨q, 2, none⟩ (.bool tm)).setCell ⟨q, 3, none⟩ (.slice Cm lm dm)) := fin3 hs hm hb g1 g2 hn hn2 hp hq hpq
theorem Sign_as {v : Value} {r : Rat} {k : Nat} {w : World} {m : Int} (h : Qd w v r k) (f : k ≤ 10000) (e : sgnQ r = m) :
    Calls Tryd.prog 23 #[v] w fun e w' => e = .returned (.int .i64 m) ∧ Below w.heap.size w w' := by
  subst e; exact Sign_q h f
theorem add_sub_q (a b : Rat) : a + b - b = a := by rw [Rat.sub_eq_add_neg, Rat.add_assoc, Rat.add_neg_cancel, Rat.add_zero]
theorem Sign_nz {v : Value} {r : Rat} {k : Nat} {w : World} (h : Qd w v r k) (f : k ≤ 10000) (e : r ≠ 0) :
    Calls Tryd.prog 23 #[v] w fun e w' => ∃ c : Int, (c == 0) = false ∧ e = .returned (.int .i64 c) ∧ Below w.heap.size w w' :=
  (Sign_q h f).mono fun e' w' ⟨he, hb⟩ => ⟨_, sgn_nz e, he, hb⟩

set_option maxRecDepth 100000 in
set_option maxHeartbeats 8000000 in
theorem Field_long {sx : Bool} {Ax : Option Addr} {kx cx : Nat} {tx : Bool} {Cx : Option Addr} {lx dx : Nat} {rx : Rat} {qx : Nat} {sy : Bool} {Ay : Option Addr} {ky cy : Nat} {ty : Bool} {Cy : Option Addr} {ly dy : Nat} {ry : Rat} {qy : Nat} {sz : Bool} {Az : Option Addr} {kz cz : Nat} {tz : Bool} {Cz : Option Addr} {lz dz : Nat} {rz : Rat} {qz : Nat} {w : World} (hx : Qd w (.agg #[.bool sx, .slice Ax kx cx, .bool tx, .slice Cx lx dx]) rx qx) (hy : Qd w (.agg #[.bool sy, .slice Ay ky cy, .bool ty, .slice Cy ly dy]) ry qy) (hz : Qd w (.agg #[.bool sz, .slice Az kz cz, .bool tz, .slice Cz lz dz]) rz qz) (htab : Tab10 w) (hm : ∀ p ∈ [(kx, lx), (ky, ly), (kz, lz)], p.1 ≤ 9223372036854775807 ∧ p.2 ≤ 9223372036854775807) (hfew : ¬ fewSum [(kx, lx), (ky, ly), (kz, lz)] ≤ 60) :
    Calls Tryd.prog 4 #[.agg #[.bool sx, .slice Ax kx cx, .bool tx, .slice Cx lx dx], .agg #[.bool sy, .slice Ay ky cy, .bool ty, .slice Cy ly dy], .agg #[.bool sz, .slice Az kz cz, .bool tz, .slice Cz lz dz]] w fun e w' => e = .returned (.bool true) ∧ Below w.heap.size w w' := by
  have V_x := Lib.hid hx
  have V_y := Lib.hid hy
  have V_z := Lib.hid hz
  have V_tab := Lib.hid htab
  have HF := Lib.hid hfew
  have HM := Lib.hid hm
  clear hx hy hz htab hfew hm
  have hb0 : Below w.heap.size w (((w.alloc (.cells #[.bool sx, (.slice Ax kx cx), .bool tx, (.slice Cx lx dx)] 38)).alloc (.cells #[.bool sy, (.slice Ay ky cy), .bool ty, (.slice Cy ly dy)] 38)).alloc (.cells #[.bool sz, (.slice Az kz cz), .bool tz, (.slice Cz lz dz)] 38)) := (Below.alloc (Below.alloc (Below.alloc (Below.refl w.heap.size w) (by simp <;> omega) _) (by simp <;> omega) _) (by simp <;> omega) _)
  have B_x : Box4 (((w.alloc (.cells #[.bool sx, (.slice Ax kx cx), .bool tx, (.slice Cx lx dx)] 38)).alloc (.cells #[.bool sy, (.slice Ay ky cy), .bool ty, (.slice Cy ly dy)] 38)).alloc (.cells #[.bool sz, (.slice Az kz cz), .bool tz, (.slice Cz lz dz)] 38)) (w.heap.size) sx (.slice Ax kx cx) tx (.slice Cx lx dx) := by have h := Box4.alloc (Box4.alloc (Box4.new w sx (.slice Ax kx cx) tx (.slice Cx lx dx)) (.cells #[.bool sy, (.slice Ay ky cy), .bool ty, (.slice Cy ly dy)] 38)) (.cells #[.bool sz, (.slice Az kz cz), .bool tz, (.slice Cz lz dz)] 38); simpa using h
  replace B_x := Lib.hid B_x
  have B_y : Box4 (((w.alloc (.cells #[.bool sx, (.slice Ax kx cx), .bool tx, (.slice Cx lx dx)] 38)).alloc (.cells #[.bool sy, (.slice Ay ky cy), .bool ty, (.slice Cy ly dy)] 38)).alloc (.cells #[.bool sz, (.slice Az kz cz), .bool tz, (.slice Cz lz dz)] 38)) (w.heap.size + 1) sy (.slice Ay ky cy) ty (.slice Cy ly dy) := by have h := Box4.alloc (Box4.new (w.alloc (.cells #[.bool sx, (.slice Ax kx cx), .bool tx, (.slice Cx lx dx)] 38)) sy (.slice Ay ky cy) ty (.slice Cy ly dy)) (.cells #[.bool sz, (.slice Az kz cz), .bool tz, (.slice Cz lz dz)] 38); simpa using h
  replace B_y := Lib.hid B_y
  have B_z : Box4 (((w.alloc (.cells #[.bool sx, (.slice Ax kx cx), .bool tx, (.slice Cx lx dx)] 38)).alloc (.cells #[.bool sy, (.slice Ay ky cy), .bool ty, (.slice Cy ly dy)] 38)).alloc (.cells #[.bool sz, (.slice Az kz cz), .bool tz, (.slice Cz lz dz)] 38)) (w.heap.size + 1 + 1) sz (.slice Az kz cz) tz (.slice Cz lz dz) := by have h := Box4.new ((w.alloc (.cells #[.bool sx, (.slice Ax kx cx), .bool tx, (.slice Cx lx dx)] 38)).alloc (.cells #[.bool sy, (.slice Ay ky cy), .bool ty, (.slice Cy ly dy)] 38)) sz (.slice Az kz cz) tz (.slice Cz lz dz); simpa using h
  replace B_z := Lib.hid B_z
  replace V_x := Lib.hid (Qd.below V_x.out hb0)
  replace V_y := Lib.hid (Qd.below V_y.out hb0)
  replace V_z := Lib.hid (Qd.below V_z.out hb0)
  replace V_tab := Lib.hid (tab_below V_tab.out hb0)
  have HB := Lib.hid hb0
  clear hb0
  have c0x := B_x.out.c0
  have c1x := B_x.out.c1
  have c2x := B_x.out.c2
  have c3x := B_x.out.c3
  have c0y := B_y.out.c0
  have c1y := B_y.out.c1
  have c2y := B_y.out.c2
  have c3y := B_y.out.c3
  have c0z := B_z.out.c0
  have c1z := B_z.out.c1
  have c2z := B_z.out.c2
  have c3z := B_z.out.c3
  go_enter Tryd.func4, Tryd.ntmps4
  go_wp2_with fail
  clear c0x c1x c2x c3x c0y c1y c2y c3y c0z c1z c2z c3z
  generalize ((w.alloc (.cells #[.bool sx, (.slice Ax kx cx), .bool tx, (.slice Cx lx dx)] 38)).alloc (.cells #[.bool sy, (.slice Ay ky cy), .bool ty, (.slice Cy ly dy)] 38)).alloc (.cells #[.bool sz, (.slice Az kz cz), .bool tz, (.slice Cz lz dz)] 38) = W0 at *
  refine (awakeQ _ (tab_below V_tab.out (by exact ⟨rfl, rfl, rfl, Nat.le_refl _, fun _ _ => rfl⟩))).mono ?_
  rintro e w1 ⟨rfl, bb⟩
  replace bb := nextw (w0 := W0) (by exact ⟨rfl, rfl, rfl, Nat.le_refl _, fun _ _ => rfl⟩) bb
  replace B_x := Lib.hid (Box4.below B_x.out bb B_x.out.lt)
  replace B_y := Lib.hid (Box4.below B_y.out bb B_y.out.lt)
  replace B_z := Lib.hid (Box4.below B_z.out bb B_z.out.lt)
  replace V_x := Lib.hid (Qd.below V_x.out bb)
  replace V_y := Lib.hid (Qd.below V_y.out bb)
  replace V_z := Lib.hid (Qd.below V_z.out bb)
  replace V_tab := Lib.hid (tab_below V_tab.out bb)
  replace HB := Lib.hid (nextw HB.out bb)
  clear bb
  have c0x := B_x.out.c0
  have c1x := B_x.out.c1
  have c2x := B_x.out.c2
  have c3x := B_x.out.c3
  have c0y := B_y.out.c0
  have c1y := B_y.out.c1
  have c2y := B_y.out.c2
  have c3y := B_y.out.c3
  have c0z := B_z.out.c0
  have c1z := B_z.out.c1
  have c2z := B_z.out.c2
  have c3z := B_z.out.c3
  go_wp2_with fail
  refine (fewq_no (L := [(kx, lx), (ky, ly), (kz, lz)]) (Rats.lit _ _ _ _ (by intro i hi; rcases i with _ | _ | _ | i <;> first | exact ⟨⟨_, _, rfl⟩, ⟨_, _, rfl⟩⟩ | (simp only [List.length_cons, List.length_nil] at hi; omega))) (by simp) HM.out HF.out).mono ?_
  rintro e w2 ⟨rfl, bb⟩
  replace bb := nextw (w0 := w1) (by first | exact ⟨rfl, rfl, rfl, Nat.le_refl _, fun _ _ => rfl⟩ | exact nextw (by exact ⟨rfl, rfl, rfl, Nat.le_refl _, fun _ _ => rfl⟩) ((Below.refl _ _).alloc (Nat.le_refl _) _) | exact below_push rfl rfl rfl rfl) bb
  clear c0x c1x c2x c3x c0y c1y c2y c3y c0z c1z c2z c3z
  replace B_x := Lib.hid (Box4.below B_x.out bb B_x.out.lt)
  replace B_y := Lib.hid (Box4.below B_y.out bb B_y.out.lt)
  replace B_z := Lib.hid (Box4.below B_z.out bb B_z.out.lt)
  replace V_x := Lib.hid (Qd.below V_x.out bb)
  replace V_y := Lib.hid (Qd.below V_y.out bb)
  replace V_z := Lib.hid (Qd.below V_z.out bb)
  replace V_tab := Lib.hid (tab_below V_tab.out bb)
  replace HB := Lib.hid (nextw HB.out bb)
  clear bb
  go_wp2_with fail
  refine (awakeQ _ (tab_below V_tab.out (by exact ⟨rfl, rfl, rfl, Nat.le_refl _, fun _ _ => rfl⟩))).mono ?_
  rintro e w3 ⟨rfl, bb⟩
  replace bb := nextw (w0 := w2) (by exact ⟨rfl, rfl, rfl, Nat.le_refl _, fun _ _ => rfl⟩) bb
  replace B_x := Lib.hid (Box4.below B_x.out bb B_x.out.lt)
  replace B_y := Lib.hid (Box4.below B_y.out bb B_y.out.lt)
  replace B_z := Lib.hid (Box4.below B_z.out bb B_z.out.lt)
  replace V_x := Lib.hid (Qd.below V_x.out bb)
  replace V_y := Lib.hid (Qd.below V_y.out bb)
  replace V_z := Lib.hid (Qd.below V_z.out bb)
  replace V_tab := Lib.hid (tab_below V_tab.out bb)
  replace HB := Lib.hid (nextw HB.out bb)
  clear bb
  have HBo := HB.out
  go_wp2
  go_ret
  exact ⟨rfl, nextw HBo (by exact ⟨rfl, rfl, rfl, Nat.le_refl _, fun _ _ => rfl⟩)⟩

set_option maxRecDepth 100000 in
set_option maxHeartbeats 16000000 in
theorem Field_main {sx : Bool} {Ax : Option Addr} {kx cx : Nat} {tx : Bool} {Cx : Option Addr} {lx dx : Nat} {rx : Rat} {qx : Nat} {sy : Bool} {Ay : Option Addr} {ky cy : Nat} {ty : Bool} {Cy : Option Addr} {ly dy : Nat} {ry : Rat} {qy : Nat} {sz : Bool} {Az : Option Addr} {kz cz : Nat} {tz : Bool} {Cz : Option Addr} {lz dz : Nat} {rz : Rat} {qz : Nat} {w : World} (hx : Qd w (.agg #[.bool sx, .slice Ax kx cx, .bool tx, .slice Cx lx dx]) rx qx) (hy : Qd w (.agg #[.bool sy, .slice Ay ky cy, .bool ty, .slice Cy ly dy]) ry qy) (hz : Qd w (.agg #[.bool sz, .slice Az kz cz, .bool tz, .slice Cz lz dz]) rz qz) (htab : Tab10 w) (hqx : qx ≤ 60) (hqy : qy ≤ 60) (hqz : qz ≤ 60) (hfew : fewSum [(kx, lx), (ky, ly), (kz, lz)] ≤ 60) :
    Calls Tryd.prog 4 #[.agg #[.bool sx, .slice Ax kx cx, .bool tx, .slice Cx lx dx], .agg #[.bool sy, .slice Ay ky cy, .bool ty, .slice Cy ly dy], .agg #[.bool sz, .slice Az kz cz, .bool tz, .slice Cz lz dz]] w fun e w' => e = .returned (.bool true) ∧ Below w.heap.size w w' := by
  have V_x := Lib.hid hx
  have V_y := Lib.hid hy
  have V_z := Lib.hid hz
  have V_tab := Lib.hid htab
  have HF := Lib.hid hfew
  clear hx hy hz htab hfew
  have hb0 : Below w.heap.size w (((w.alloc (.cells #[.bool sx, (.slice Ax kx cx), .bool tx, (.slice Cx lx dx)] 38)).alloc (.cells #[.bool sy, (.slice Ay ky cy), .bool ty, (.slice Cy ly dy)] 38)).alloc (.cells #[.bool sz, (.slice Az kz cz), .bool tz, (.slice Cz lz dz)] 38)) := (Below.alloc (Below.alloc (Below.alloc (Below.refl w.heap.size w) (by simp <;> omega) _) (by simp <;> omega) _) (by simp <;> omega) _)
  have B_x : Box4 (((w.alloc (.cells #[.bool sx, (.slice Ax kx cx), .bool tx, (.slice Cx lx dx)] 38)).alloc (.cells #[.bool sy, (.slice Ay ky cy), .bool ty, (.slice Cy ly dy)] 38)).alloc (.cells #[.bool sz, (.slice Az kz cz), .bool tz, (.slice Cz lz dz)] 38)) (w.heap.size) sx (.slice Ax kx cx) tx (.slice Cx lx dx) := by have h := Box4.alloc (Box4.alloc (Box4.new w sx (.slice Ax kx cx) tx (.slice Cx lx dx)) (.cells #[.bool sy, (.slice Ay ky cy), .bool ty, (.slice Cy ly dy)] 38)) (.cells #[.bool sz, (.slice Az kz cz), .bool tz, (.slice Cz lz dz)] 38); simpa using h
  replace B_x := Lib.hid B_x
  have B_y : Box4 (((w.alloc (.cells #[.bool sx, (.slice Ax kx cx), .bool tx, (.slice Cx lx dx)] 38)).alloc (.cells #[.bool sy, (.slice Ay ky cy), .bool ty, (.slice Cy ly dy)] 38)).alloc (.cells #[.bool sz, (.slice Az kz cz), .bool tz, (.slice Cz lz dz)] 38)) (w.heap.size + 1) sy (.slice Ay ky cy) ty (.slice Cy ly dy) := by have h := Box4.alloc (Box4.new (w.alloc (.cells #[.bool sx, (.slice Ax kx cx), .bool tx, (.slice Cx lx dx)] 38)) sy (.slice Ay ky cy) ty (.slice Cy ly dy)) (.cells #[.bool sz, (.slice Az kz cz), .bool tz, (.slice Cz lz dz)] 38); simpa using h
  replace B_y := Lib.hid B_y
  have B_z : Box4 (((w.alloc (.cells #[.bool sx, (.slice Ax kx cx), .bool tx, (.slice Cx lx dx)] 38)).alloc (.cells #[.bool sy, (.slice Ay ky cy), .bool ty, (.slice Cy ly dy)] 38)).alloc (.cells #[.bool sz, (.slice Az kz cz), .bool tz, (.slice Cz lz dz)] 38)) (w.heap.size + 1 + 1) sz (.slice Az kz cz) tz (.slice Cz lz dz) := by have h := Box4.new ((w.alloc (.cells #[.bool sx, (.slice Ax kx cx), .bool tx, (.slice Cx lx dx)] 38)).alloc (.cells #[.bool sy, (.slice Ay ky cy), .bool ty, (.slice Cy ly dy)] 38)) sz (.slice Az kz cz) tz (.slice Cz lz dz); simpa using h
  replace B_z := Lib.hid B_z
  replace V_x := Lib.hid (Qd.below V_x.out hb0)
  replace V_y := Lib.hid (Qd.below V_y.out hb0)
  replace V_z := Lib.hid (Qd.below V_z.out hb0)
  replace V_tab := Lib.hid (tab_below V_tab.out hb0)
  have HB := Lib.hid hb0
  clear hb0
  have c0x := B_x.out.c0
  have c1x := B_x.out.c1
  have c2x := B_x.out.c2
  have c3x := B_x.out.c3
  have c0y := B_y.out.c0
  have c1y := B_y.out.c1
  have c2y := B_y.out.c2
  have c3y := B_y.out.c3
  have c0z := B_z.out.c0
  have c1z := B_z.out.c1
  have c2z := B_z.out.c2
  have c3z := B_z.out.c3
  go_enter Tryd.func4, Tryd.ntmps4
  go_wp2_with fail
  clear c0x c1x c2x c3x c0y c1y c2y c3y c0z c1z c2z c3z
  generalize ((w.alloc (.cells #[.bool sx, (.slice Ax kx cx), .bool tx, (.slice Cx lx dx)] 38)).alloc (.cells #[.bool sy, (.slice Ay ky cy), .bool ty, (.slice Cy ly dy)] 38)).alloc (.cells #[.bool sz, (.slice Az kz cz), .bool tz, (.slice Cz lz dz)] 38) = W0 at *
  refine (awakeQ _ (tab_below V_tab.out (by exact ⟨rfl, rfl, rfl, Nat.le_refl _, fun _ _ => rfl⟩))).mono ?_
  rintro e w1 ⟨rfl, bb⟩
  replace bb := nextw (w0 := W0) (by exact ⟨rfl, rfl, rfl, Nat.le_refl _, fun _ _ => rfl⟩) bb
  replace B_x := Lib.hid (Box4.below B_x.out bb B_x.out.lt)
  replace B_y := Lib.hid (Box4.below B_y.out bb B_y.out.lt)
  replace B_z := Lib.hid (Box4.below B_z.out bb B_z.out.lt)
  replace V_x := Lib.hid (Qd.below V_x.out bb)
  replace V_y := Lib.hid (Qd.below V_y.out bb)
  replace V_z := Lib.hid (Qd.below V_z.out bb)
  replace V_tab := Lib.hid (tab_below V_tab.out bb)
  replace HB := Lib.hid (nextw HB.out bb)
  clear bb
  have c0x := B_x.out.c0
  have c1x := B_x.out.c1
  have c2x := B_x.out.c2
  have c3x := B_x.out.c3
  have c0y := B_y.out.c0
  have c1y := B_y.out.c1
  have c2y := B_y.out.c2
  have c3y := B_y.out.c3
  have c0z := B_z.out.c0
  have c1z := B_z.out.c1
  have c2z := B_z.out.c2
  have c3z := B_z.out.c3
  go_wp2_with fail
  refine (fewq_yes (L := [(kx, lx), (ky, ly), (kz, lz)]) (Rats.lit _ _ _ _ (by intro i hi; rcases i with _ | _ | _ | i <;> first | exact ⟨⟨_, _, rfl⟩, ⟨_, _, rfl⟩⟩ | (simp only [List.length_cons, List.length_nil] at hi; omega))) (by simp) HF.out).mono ?_
  rintro e w2 ⟨rfl, bb⟩
  replace bb := nextw (w0 := w1) (by first | exact ⟨rfl, rfl, rfl, Nat.le_refl _, fun _ _ => rfl⟩ | exact nextw (by exact ⟨rfl, rfl, rfl, Nat.le_refl _, fun _ _ => rfl⟩) ((Below.refl _ _).alloc (Nat.le_refl _) _) | exact below_push rfl rfl rfl rfl) bb
  clear c0x c1x c2x c3x c0y c1y c2y c3y c0z c1z c2z c3z
  replace B_x := Lib.hid (Box4.below B_x.out bb B_x.out.lt)
  replace B_y := Lib.hid (Box4.below B_y.out bb B_y.out.lt)
  replace B_z := Lib.hid (Box4.below B_z.out bb B_z.out.lt)
  replace V_x := Lib.hid (Qd.below V_x.out bb)
  replace V_y := Lib.hid (Qd.below V_y.out bb)
  replace V_z := Lib.hid (Qd.below V_z.out bb)
  replace V_tab := Lib.hid (tab_below V_tab.out bb)
  replace HB := Lib.hid (nextw HB.out bb)
  clear bb
  have c0x := B_x.out.c0
  have c1x := B_x.out.c1
  have c2x := B_x.out.c2
  have c3x := B_x.out.c3
  have c0y := B_y.out.c0
  have c1y := B_y.out.c1
  have c2y := B_y.out.c2
  have c3y := B_y.out.c3
  go_upto_region 3 with fail
  go_cut [7, 8] (fun a b wx => SumProd w2 (rx + ry) (rx * ry) a b wx)
  clear c0x c1x c2x c3x c0y c1y c2y c3y
  case first =>
    clear V_z V_tab B_z
    have HC := Lib.hid (Below.refl w2.heap.size w2)
    have zx0 := B_x.out.lt
    have zy0 := B_y.out.lt
    have c0x := B_x.out.c0
    have c1x := B_x.out.c1
    have c2x := B_x.out.c2
    have c3x := B_x.out.c3
    have c0y := B_y.out.c0
    have c1y := B_y.out.c1
    have c2y := B_y.out.c2
    have c3y := B_y.out.c3
    have tk1x0 : True := trivial
    first | (go_region_held3 (fun w' => w'.cell? ⟨w.heap.size, 0, none⟩ = some (.bool sx) ∧ w'.cell? ⟨w.heap.size, 1, none⟩ = some (.slice Ax kx cx) ∧ w'.cell? ⟨w.heap.size, 2, none⟩ = some (.bool tx) ∧ w'.cell? ⟨w.heap.size, 3, none⟩ = some (.slice Cx lx dx) ∧ w'.cell? ⟨w.heap.size + 1, 0, none⟩ = some (.bool sy) ∧ w'.cell? ⟨w.heap.size + 1, 1, none⟩ = some (.slice Ay ky cy) ∧ w'.cell? ⟨w.heap.size + 1, 2, none⟩ = some (.bool ty) ∧ w'.cell? ⟨w.heap.size + 1, 3, none⟩ = some (.slice Cy ly dy)) (((try dsimp only); (repeat' apply And.intro) <;> (first | (with_reducible assumption) | ((repeat (first | (with_reducible refine Eq.trans (cell_drew1 _ _) ?_) | (with_reducible refine Eq.trans (World.cell?_alloc_lt _ _ _ (by first | (dsimp only; omega) | (simp only [World.size_alloc, World.size_setCell]; omega))) ?_) | (with_reducible refine Eq.trans (cell_set4 (by omega) _ _ _ _) ?_))); with_reducible assumption) | assumption | go_keep)))
    (first
      | (clear tk1x0; go_at_call 17; refine (Add_q (Qd.below V_x.out (by first | exact ⟨rfl, rfl, rfl, Nat.le_refl _, fun _ _ => rfl⟩ | exact below_push rfl rfl rfl rfl | exact below_push2 rfl rfl rfl rfl)) (Qd.below V_y.out (by first | exact ⟨rfl, rfl, rfl, Nat.le_refl _, fun _ _ => rfl⟩ | exact below_push rfl rfl rfl rfl | exact below_push2 rfl rfl rfl rfl)) (by omega) (by omega)).mono ?_; rintro e w3 ⟨vs, rfl, rs, bb⟩; have bb0 := bb; (first | (have h2 := box_new2 (w := w2) bb0 rfl; have N_a := Lib.hid h2.1; have N_b := Lib.hid h2.2; clear h2) | (have h2 := box_new1 (w := w2) bb0 rfl; have N_a := Lib.hid h2; clear h2) | skip); clear bb0; replace bb := nextw (w0 := w2) (by first | exact ⟨rfl, rfl, rfl, Nat.le_refl _, fun _ _ => rfl⟩ | exact below_push rfl rfl rfl rfl | exact below_push2 rfl rfl rfl rfl) bb; replace B_x := Lib.hid (Box4.below B_x.out bb B_x.out.lt); replace B_y := Lib.hid (Box4.below B_y.out bb B_y.out.lt); replace V_x := Lib.hid (Qd.below V_x.out bb); replace V_y := Lib.hid (Qd.below V_y.out bb); replace HB := Lib.hid (nextw HB.out bb); replace HC := Lib.hid (nextw HC.out bb); clear bb; replace rs := Lib.hid rs; have V_s := rs; clear rs; obtain ⟨ss, As, ks, cs, ts, Cs, ls, ds, rfl⟩ := V_s.out.shape; have c0x := B_x.out.c0; have c1x := B_x.out.c1; have c2x := B_x.out.c2; have c3x := B_x.out.c3; have c0y := B_y.out.c0; have c1y := B_y.out.c1; have c2y := B_y.out.c2; have c3y := B_y.out.c3; have hle3 := HC.out.size; have zx1 := B_x.out.lt; have zy1 := B_y.out.lt; (try (have LW := Lib.hid N_a.out.lt)); have tk1x1 : True := trivial)
      | (clear tk1x1; go_at_call 18; refine (Mul_q (Qd.below V_x.out (by first | exact ⟨rfl, rfl, rfl, Nat.le_refl _, fun _ _ => rfl⟩ | exact below_push rfl rfl rfl rfl | exact below_push2 rfl rfl rfl rfl)) (Qd.below V_y.out (by first | exact ⟨rfl, rfl, rfl, Nat.le_refl _, fun _ _ => rfl⟩ | exact below_push rfl rfl rfl rfl | exact below_push2 rfl rfl rfl rfl)) (by omega) (by omega)).mono ?_; rintro e w4 ⟨vm, rfl, rm, bb⟩; have bb0 := bb; (try (replace N_a := Lib.hid (Box4.below N_a.out (nextw (by first | exact ⟨rfl, rfl, rfl, Nat.le_refl _, fun _ _ => rfl⟩ | exact below_push rfl rfl rfl rfl | exact below_push2 rfl rfl rfl rfl) bb) N_a.out.lt))); (try (replace N_b := Lib.hid (Box4.below N_b.out (nextw (by first | exact ⟨rfl, rfl, rfl, Nat.le_refl _, fun _ _ => rfl⟩ | exact below_push rfl rfl rfl rfl | exact below_push2 rfl rfl rfl rfl) bb) N_b.out.lt))); (first | (have h2 := box_new2 (w := w3) bb0 rfl; have N_c := Lib.hid h2.1; have N_d := Lib.hid h2.2; clear h2) | (have h2 := box_new1 (w := w3) bb0 rfl; have N_c := Lib.hid h2; clear h2) | skip); clear bb0; replace bb := nextw (w0 := w3) (by first | exact ⟨rfl, rfl, rfl, Nat.le_refl _, fun _ _ => rfl⟩ | exact below_push rfl rfl rfl rfl | exact below_push2 rfl rfl rfl rfl) bb; replace B_x := Lib.hid (Box4.below B_x.out bb B_x.out.lt); replace B_y := Lib.hid (Box4.below B_y.out bb B_y.out.lt); replace V_x := Lib.hid (Qd.below V_x.out bb); replace V_y := Lib.hid (Qd.below V_y.out bb); replace V_s := Lib.hid (Qc.below V_s.out bb); replace HB := Lib.hid (nextw HB.out bb); replace HC := Lib.hid (nextw HC.out bb); clear bb; replace rm := Lib.hid rm; have V_m := rm; clear rm; obtain ⟨sm, Am, km, cm, tm, Cm, lm, dm, rfl⟩ := V_m.out.shape; have c0x := B_x.out.c0; have c1x := B_x.out.c1; have c2x := B_x.out.c2; have c3x := B_x.out.c3; have c0y := B_y.out.c0; have c1y := B_y.out.c1; have c2y := B_y.out.c2; have c3y := B_y.out.c3; (try (have c0a := N_a.out.c0; have c1a := N_a.out.c1; have c2a := N_a.out.c2; have c3a := N_a.out.c3; have f0a := N_a.out.f0; have f1a := N_a.out.f1; have f2a := N_a.out.f2; have f3a := N_a.out.f3)); (try (have c0b := N_b.out.c0; have c1b := N_b.out.c1; have c2b := N_b.out.c2; have c3b := N_b.out.c3; have f0b := N_b.out.f0; have f1b := N_b.out.f1; have f2b := N_b.out.f2; have f3b := N_b.out.f3)); (try (have c0c := N_c.out.c0; have c1c := N_c.out.c1; have c2c := N_c.out.c2; have c3c := N_c.out.c3; have f0c := N_c.out.f0; have f1c := N_c.out.f1; have f2c := N_c.out.f2; have f3c := N_c.out.f3)); (try (have c0d := N_d.out.c0; have c1d := N_d.out.c1; have c2d := N_d.out.c2; have c3d := N_d.out.c3; have f0d := N_d.out.f0; have f1d := N_d.out.f1; have f2d := N_d.out.f2; have f3d := N_d.out.f3)); (try (have la := N_a.out.lt; have lna := Nat.ne_of_lt la; have lma := Nat.ne_of_gt la)); (try (have lb := N_b.out.lt; have lnb := Nat.ne_of_lt lb; have lmb := Nat.ne_of_gt lb)); (try (have lc := N_c.out.lt; have lnc := Nat.ne_of_lt lc; have lmc := Nat.ne_of_gt lc)); (try (have ld := N_d.out.lt; have lnd := Nat.ne_of_lt ld; have lmd := Nat.ne_of_gt ld)); (try (have lb := Nat.ne_of_lt LW.out; have lc := Nat.ne_of_gt LW.out)); have hle4 := HC.out.size; have zx2 := B_x.out.lt; have zy2 := B_y.out.lt; have tk1x2 : True := trivial))) | fail
    all_goals go_wp2_with fail
    all_goals go_meet
    all_goals (first | (with_reducible exact fin1 V_s.out V_m.out HC.out (by omega) (by omega)) | (with_reducible exact fin1b V_s.out V_m.out HC.out (by omega) (by omega)) | (with_reducible exact fin2x V_s.out V_m.out HC.out (by omega) (by omega) N_a.out (by omega)) | (with_reducible exact fin2bx V_s.out V_m.out HC.out (by omega) (by omega) N_a.out (by omega)) | (with_reducible exact fin2x V_s.out V_m.out HC.out (by omega) (by omega) N_c.out (by omega)) | (with_reducible exact fin2bx V_s.out V_m.out HC.out (by omega) (by omega) N_c.out (by omega)) | (with_reducible exact fin3x V_s.out V_m.out HC.out (by omega) (by omega) N_a.out N_b.out (by omega) (by omega) (by omega)) | (with_reducible exact fin3x V_s.out V_m.out HC.out (by omega) (by omega) N_b.out N_a.out (by omega) (by omega) (by omega)) | (with_reducible exact fin3x V_s.out V_m.out HC.out (by omega) (by omega) N_a.out N_c.out (by omega) (by omega) (by omega)) | (with_reducible exact fin3x V_s.out V_m.out HC.out (by omega) (by omega) N_c.out N_a.out (by omega) (by omega) (by omega)) | (with_reducible exact fin3x V_s.out V_m.out HC.out (by omega) (by omega) N_c.out N_d.out (by omega) (by omega) (by omega)) | (with_reducible exact fin3x V_s.out V_m.out HC.out (by omega) (by omega) N_d.out N_c.out (by omega) (by omega) (by omega)))
  case rest =>
    obtain ⟨p, q, ss, As, ks, cs, ts, Cs, ls, ds, sm, Am, km, cm, tm, Cm, lm, dm, rfl, rfl, hpq, hp, hq, bs, bm, vs, vm, bb⟩ := hcut
    replace B_x := Lib.hid (Box4.below B_x.out bb B_x.out.lt)
    replace B_y := Lib.hid (Box4.below B_y.out bb B_y.out.lt)
    replace B_z := Lib.hid (Box4.below B_z.out bb B_z.out.lt)
    replace V_x := Lib.hid (Qd.below V_x.out bb)
    replace V_y := Lib.hid (Qd.below V_y.out bb)
    replace V_z := Lib.hid (Qd.below V_z.out bb)
    replace V_tab := Lib.hid (tab_below V_tab.out bb)
    replace HB := Lib.hid (nextw HB.out bb)
    clear bb hpq hp hq
    have B_s := Lib.hid bs
    have B_m := Lib.hid bm
    have V_s := Lib.hid vs
    have V_m := Lib.hid vm
    clear bs bm vs vm V_tab
    have c0x := B_x.out.c0
    have c1x := B_x.out.c1
    have c2x := B_x.out.c2
    have c3x := B_x.out.c3
    have c0y := B_y.out.c0
    have c1y := B_y.out.c1
    have c2y := B_y.out.c2
    have c3y := B_y.out.c3
    have c0z := B_z.out.c0
    have c1z := B_z.out.c1
    have c2z := B_z.out.c2
    have c3z := B_z.out.c3
    have c0s := B_s.out.c0
    have c1s := B_s.out.c1
    have c2s := B_s.out.c2
    have c3s := B_s.out.c3
    have c0m := B_m.out.c0
    have c1m := B_m.out.c1
    have c2m := B_m.out.c2
    have c3m := B_m.out.c3
    go_wp2
    have c0x := B_x.out.c0
    have c1x := B_x.out.c1
    have c2x := B_x.out.c2
    have c3x := B_x.out.c3
    have c0y := B_y.out.c0
    have c1y := B_y.out.c1
    have c2y := B_y.out.c2
    have c3y := B_y.out.c3
    have c0z := B_z.out.c0
    have c1z := B_z.out.c1
    have c2z := B_z.out.c2
    have c3z := B_z.out.c3
    have c0s := B_s.out.c0
    have c1s := B_s.out.c1
    have c2s := B_s.out.c2
    have c3s := B_s.out.c3
    have c0m := B_m.out.c0
    have c1m := B_m.out.c1
    have c2m := B_m.out.c2
    have c3m := B_m.out.c3
    have tk2x0 : True := trivial
    first | (go_region_held3 (fun w' => w'.cell? ⟨w.heap.size, 0, none⟩ = some (.bool sx) ∧ w'.cell? ⟨w.heap.size, 1, none⟩ = some (.slice Ax kx cx) ∧ w'.cell? ⟨w.heap.size, 2, none⟩ = some (.bool tx) ∧ w'.cell? ⟨w.heap.size, 3, none⟩ = some (.slice Cx lx dx) ∧ w'.cell? ⟨w.heap.size + 1, 0, none⟩ = some (.bool sy) ∧ w'.cell? ⟨w.heap.size + 1, 1, none⟩ = some (.slice Ay ky cy) ∧ w'.cell? ⟨w.heap.size + 1, 2, none⟩ = some (.bool ty) ∧ w'.cell? ⟨w.heap.size + 1, 3, none⟩ = some (.slice Cy ly dy) ∧ w'.cell? ⟨w.heap.size + 1 + 1, 0, none⟩ = some (.bool sz) ∧ w'.cell? ⟨w.heap.size + 1 + 1, 1, none⟩ = some (.slice Az kz cz) ∧ w'.cell? ⟨w.heap.size + 1 + 1, 2, none⟩ = some (.bool tz) ∧ w'.cell? ⟨w.heap.size + 1 + 1, 3, none⟩ = some (.slice Cz lz dz) ∧ w'.cell? ⟨p, 0, none⟩ = some (.bool ss) ∧ w'.cell? ⟨p, 1, none⟩ = some (.slice As ks cs) ∧ w'.cell? ⟨p, 2, none⟩ = some (.bool ts) ∧ w'.cell? ⟨p, 3, none⟩ = some (.slice Cs ls ds) ∧ w'.cell? ⟨q, 0, none⟩ = some (.bool sm) ∧ w'.cell? ⟨q, 1, none⟩ = some (.slice Am km cm) ∧ w'.cell? ⟨q, 2, none⟩ = some (.bool tm) ∧ w'.cell? ⟨q, 3, none⟩ = some (.slice Cm lm dm)) (((try dsimp only); (repeat' apply And.intro) <;> (first | (with_reducible assumption) | ((repeat (first | (with_reducible refine Eq.trans (cell_drew1 _ _) ?_) | (with_reducible refine Eq.trans (cell_set4 (by omega) _ _ _ _) ?_))); with_reducible assumption) | assumption | go_keep)))
    (first
      | (clear tk2x0; go_at_call 17; refine (Add_q (Qd.below V_y.out (by exact ⟨rfl, rfl, rfl, Nat.le_refl _, fun _ _ => rfl⟩)) (Qd.below V_x.out (by exact ⟨rfl, rfl, rfl, Nat.le_refl _, fun _ _ => rfl⟩)) (by omega) (by omega)).mono ?_; rintro e w3 ⟨va1, rfl, ra1, bb⟩; replace bb := nextw (w0 := wc) (by exact ⟨rfl, rfl, rfl, Nat.le_refl _, fun _ _ => rfl⟩) bb; replace B_x := Lib.hid (Box4.below B_x.out bb B_x.out.lt); replace B_y := Lib.hid (Box4.below B_y.out bb B_y.out.lt); replace B_z := Lib.hid (Box4.below B_z.out bb B_z.out.lt); replace B_s := Lib.hid (Box4.below B_s.out bb B_s.out.lt); replace B_m := Lib.hid (Box4.below B_m.out bb B_m.out.lt); replace V_x := Lib.hid (Qd.below V_x.out bb); replace V_y := Lib.hid (Qd.below V_y.out bb); replace V_z := Lib.hid (Qd.below V_z.out bb); replace V_s := Lib.hid (Qc.below V_s.out bb); replace V_m := Lib.hid (Qc.below V_m.out bb); replace HB := Lib.hid (nextw HB.out bb); clear bb; replace ra1 := Lib.hid ra1; have V_a1 := ra1; clear ra1; clear c0x c1x c2x c3x c0y c1y c2y c3y c0z c1z c2z c3z c0s c1s c2s c3s c0m c1m c2m c3m; have c0x := B_x.out.c0; have c1x := B_x.out.c1; have c2x := B_x.out.c2; have c3x := B_x.out.c3; have c0y := B_y.out.c0; have c1y := B_y.out.c1; have c2y := B_y.out.c2; have c3y := B_y.out.c3; have c0z := B_z.out.c0; have c1z := B_z.out.c1; have c2z := B_z.out.c2; have c3z := B_z.out.c3; have c0s := B_s.out.c0; have c1s := B_s.out.c1; have c2s := B_s.out.c2; have c3s := B_s.out.c3; have c0m := B_m.out.c0; have c1m := B_m.out.c1; have c2m := B_m.out.c2; have c3m := B_m.out.c3; have tk2x1 : True := trivial)
      | (clear tk2x1; go_at_call 19; refine (BRat_q (Qc.below V_s.out (by exact ⟨rfl, rfl, rfl, Nat.le_refl _, fun _ _ => rfl⟩)) (Qc.below V_a1.out (by exact ⟨rfl, rfl, rfl, Nat.le_refl _, fun _ _ => rfl⟩)) (by omega) (by omega) (Rat.add_comm _ _)).mono ?_; rintro e w4 ⟨rfl, bb⟩; replace bb := nextw (w0 := w3) (by exact ⟨rfl, rfl, rfl, Nat.le_refl _, fun _ _ => rfl⟩) bb; clear V_a1; replace B_x := Lib.hid (Box4.below B_x.out bb B_x.out.lt); replace B_y := Lib.hid (Box4.below B_y.out bb B_y.out.lt); replace B_z := Lib.hid (Box4.below B_z.out bb B_z.out.lt); replace B_s := Lib.hid (Box4.below B_s.out bb B_s.out.lt); replace B_m := Lib.hid (Box4.below B_m.out bb B_m.out.lt); replace V_x := Lib.hid (Qd.below V_x.out bb); replace V_y := Lib.hid (Qd.below V_y.out bb); replace V_z := Lib.hid (Qd.below V_z.out bb); replace V_s := Lib.hid (Qc.below V_s.out bb); replace V_m := Lib.hid (Qc.below V_m.out bb); replace HB := Lib.hid (nextw HB.out bb); clear bb; clear c0x c1x c2x c3x c0y c1y c2y c3y c0z c1z c2z c3z c0s c1s c2s c3s c0m c1m c2m c3m; have c0x := B_x.out.c0; have c1x := B_x.out.c1; have c2x := B_x.out.c2; have c3x := B_x.out.c3; have c0y := B_y.out.c0; have c1y := B_y.out.c1; have c2y := B_y.out.c2; have c3y := B_y.out.c3; have c0z := B_z.out.c0; have c1z := B_z.out.c1; have c2z := B_z.out.c2; have c3z := B_z.out.c3; have c0s := B_s.out.c0; have c1s := B_s.out.c1; have c2s := B_s.out.c2; have c3s := B_s.out.c3; have c0m := B_m.out.c0; have c1m := B_m.out.c1; have c2m := B_m.out.c2; have c3m := B_m.out.c3; have tk2x2 : True := trivial)
      | (clear tk2x2; go_at_call 18; refine (Mul_q (Qd.below V_y.out (by exact ⟨rfl, rfl, rfl, Nat.le_refl _, fun _ _ => rfl⟩)) (Qd.below V_x.out (by exact ⟨rfl, rfl, rfl, Nat.le_refl _, fun _ _ => rfl⟩)) (by omega) (by omega)).mono ?_; rintro e w5 ⟨va2, rfl, ra2, bb⟩; replace bb := nextw (w0 := w4) (by exact ⟨rfl, rfl, rfl, Nat.le_refl _, fun _ _ => rfl⟩) bb; replace B_x := Lib.hid (Box4.below B_x.out bb B_x.out.lt); replace B_y := Lib.hid (Box4.below B_y.out bb B_y.out.lt); replace B_z := Lib.hid (Box4.below B_z.out bb B_z.out.lt); replace B_s := Lib.hid (Box4.below B_s.out bb B_s.out.lt); replace B_m := Lib.hid (Box4.below B_m.out bb B_m.out.lt); replace V_x := Lib.hid (Qd.below V_x.out bb); replace V_y := Lib.hid (Qd.below V_y.out bb); replace V_z := Lib.hid (Qd.below V_z.out bb); replace V_s := Lib.hid (Qc.below V_s.out bb); replace V_m := Lib.hid (Qc.below V_m.out bb); replace HB := Lib.hid (nextw HB.out bb); clear bb; replace ra2 := Lib.hid ra2; have V_a2 := ra2; clear ra2; clear c0x c1x c2x c3x c0y c1y c2y c3y c0z c1z c2z c3z c0s c1s c2s c3s c0m c1m c2m c3m; have c0x := B_x.out.c0; have c1x := B_x.out.c1; have c2x := B_x.out.c2; have c3x := B_x.out.c3; have c0y := B_y.out.c0; have c1y := B_y.out.c1; have c2y := B_y.out.c2; have c3y := B_y.out.c3; have c0z := B_z.out.c0; have c1z := B_z.out.c1; have c2z := B_z.out.c2; have c3z := B_z.out.c3; have c0s := B_s.out.c0; have c1s := B_s.out.c1; have c2s := B_s.out.c2; have c3s := B_s.out.c3; have c0m := B_m.out.c0; have c1m := B_m.out.c1; have c2m := B_m.out.c2; have c3m := B_m.out.c3; have tk2x3 : True := trivial)
      | (clear tk2x3; go_at_call 19; refine (BRat_q (Qc.below V_m.out (by exact ⟨rfl, rfl, rfl, Nat.le_refl _, fun _ _ => rfl⟩)) (Qc.below V_a2.out (by exact ⟨rfl, rfl, rfl, Nat.le_refl _, fun _ _ => rfl⟩)) (by omega) (by omega) (Rat.mul_comm _ _)).mono ?_; rintro e w6 ⟨rfl, bb⟩; replace bb := nextw (w0 := w5) (by exact ⟨rfl, rfl, rfl, Nat.le_refl _, fun _ _ => rfl⟩) bb; clear V_a2; replace B_x := Lib.hid (Box4.below B_x.out bb B_x.out.lt); replace B_y := Lib.hid (Box4.below B_y.out bb B_y.out.lt); replace B_z := Lib.hid (Box4.below B_z.out bb B_z.out.lt); replace B_s := Lib.hid (Box4.below B_s.out bb B_s.out.lt); replace B_m := Lib.hid (Box4.below B_m.out bb B_m.out.lt); replace V_x := Lib.hid (Qd.below V_x.out bb); replace V_y := Lib.hid (Qd.below V_y.out bb); replace V_z := Lib.hid (Qd.below V_z.out bb); replace V_s := Lib.hid (Qc.below V_s.out bb); replace V_m := Lib.hid (Qc.below V_m.out bb); replace HB := Lib.hid (nextw HB.out bb); clear bb; clear c0x c1x c2x c3x c0y c1y c2y c3y c0z c1z c2z c3z c0s c1s c2s c3s c0m c1m c2m c3m; have c0x := B_x.out.c0; have c1x := B_x.out.c1; have c2x := B_x.out.c2; have c3x := B_x.out.c3; have c0y := B_y.out.c0; have c1y := B_y.out.c1; have c2y := B_y.out.c2; have c3y := B_y.out.c3; have c0z := B_z.out.c0; have c1z := B_z.out.c1; have c2z := B_z.out.c2; have c3z := B_z.out.c3; have c0s := B_s.out.c0; have c1s := B_s.out.c1; have c2s := B_s.out.c2; have c3s := B_s.out.c3; have c0m := B_m.out.c0; have c1m := B_m.out.c1; have c2m := B_m.out.c2; have c3m := B_m.out.c3; have tk2x4 : True := trivial))) | fail
    clear c0x c1x c2x c3x c0y c1y c2y c3y c0z c1z c2z c3z c0s c1s c2s c3s c0m c1m c2m c3m
    have c0x := B_x.out.c0
    have c1x := B_x.out.c1
    have c2x := B_x.out.c2
    have c3x := B_x.out.c3
    have c0y := B_y.out.c0
    have c1y := B_y.out.c1
    have c2y := B_y.out.c2
    have c3y := B_y.out.c3
    have c0z := B_z.out.c0
    have c1z := B_z.out.c1
    have c2z := B_z.out.c2
    have c3z := B_z.out.c3
    have c0s := B_s.out.c0
    have c1s := B_s.out.c1
    have c2s := B_s.out.c2
    have c3s := B_s.out.c3
    have c0m := B_m.out.c0
    have c1m := B_m.out.c1
    have c2m := B_m.out.c2
    have c3m := B_m.out.c3
    go_wp2
    have c0x := B_x.out.c0
    have c1x := B_x.out.c1
    have c2x := B_x.out.c2
    have c3x := B_x.out.c3
    have c0y := B_y.out.c0
    have c1y := B_y.out.c1
    have c2y := B_y.out.c2
    have c3y := B_y.out.c3
    have c0z := B_z.out.c0
    have c1z := B_z.out.c1
    have c2z := B_z.out.c2
    have c3z := B_z.out.c3
    have c0s := B_s.out.c0
    have c1s := B_s.out.c1
    have c2s := B_s.out.c2
    have c3s := B_s.out.c3
    have c0m := B_m.out.c0
    have c1m := B_m.out.c1
    have c2m := B_m.out.c2
    have c3m := B_m.out.c3
    have tk3x0 : True := trivial
    first | (go_region_held3 (fun w' => w'.cell? ⟨w.heap.size, 0, none⟩ = some (.bool sx) ∧ w'.cell? ⟨w.heap.size, 1, none⟩ = some (.slice Ax kx cx) ∧ w'.cell? ⟨w.heap.size, 2, none⟩ = some (.bool tx) ∧ w'.cell? ⟨w.heap.size, 3, none⟩ = some (.slice Cx lx dx) ∧ w'.cell? ⟨w.heap.size + 1, 0, none⟩ = some (.bool sy) ∧ w'.cell? ⟨w.heap.size + 1, 1, none⟩ = some (.slice Ay ky cy) ∧ w'.cell? ⟨w.heap.size + 1, 2, none⟩ = some (.bool ty) ∧ w'.cell? ⟨w.heap.size + 1, 3, none⟩ = some (.slice Cy ly dy) ∧ w'.cell? ⟨w.heap.size + 1 + 1, 0, none⟩ = some (.bool sz) ∧ w'.cell? ⟨w.heap.size + 1 + 1, 1, none⟩ = some (.slice Az kz cz) ∧ w'.cell? ⟨w.heap.size + 1 + 1, 2, none⟩ = some (.bool tz) ∧ w'.cell? ⟨w.heap.size + 1 + 1, 3, none⟩ = some (.slice Cz lz dz) ∧ w'.cell? ⟨p, 0, none⟩ = some (.bool ss) ∧ w'.cell? ⟨p, 1, none⟩ = some (.slice As ks cs) ∧ w'.cell? ⟨p, 2, none⟩ = some (.bool ts) ∧ w'.cell? ⟨p, 3, none⟩ = some (.slice Cs ls ds) ∧ w'.cell? ⟨q, 0, none⟩ = some (.bool sm) ∧ w'.cell? ⟨q, 1, none⟩ = some (.slice Am km cm) ∧ w'.cell? ⟨q, 2, none⟩ = some (.bool tm) ∧ w'.cell? ⟨q, 3, none⟩ = some (.slice Cm lm dm)) (((try dsimp only); (repeat' apply And.intro) <;> (first | (with_reducible assumption) | ((repeat (first | (with_reducible refine Eq.trans (cell_drew1 _ _) ?_) | (with_reducible refine Eq.trans (cell_set4 (by omega) _ _ _ _) ?_))); with_reducible assumption) | assumption | go_keep)))
    (first
      | (clear tk3x0; go_at_call 17; refine (Add_q (Qc.qd (Qc.below V_s.out (by exact ⟨rfl, rfl, rfl, Nat.le_refl _, fun _ _ => rfl⟩))) (Qd.below V_z.out (by exact ⟨rfl, rfl, rfl, Nat.le_refl _, fun _ _ => rfl⟩)) (by omega) (by omega)).mono ?_; rintro e w7 ⟨vb1, rfl, rb1, bb⟩; replace bb := nextw (w0 := w6) (by exact ⟨rfl, rfl, rfl, Nat.le_refl _, fun _ _ => rfl⟩) bb; replace B_x := Lib.hid (Box4.below B_x.out bb B_x.out.lt); replace B_y := Lib.hid (Box4.below B_y.out bb B_y.out.lt); replace B_z := Lib.hid (Box4.below B_z.out bb B_z.out.lt); replace B_s := Lib.hid (Box4.below B_s.out bb B_s.out.lt); replace B_m := Lib.hid (Box4.below B_m.out bb B_m.out.lt); replace V_x := Lib.hid (Qd.below V_x.out bb); replace V_y := Lib.hid (Qd.below V_y.out bb); replace V_z := Lib.hid (Qd.below V_z.out bb); replace V_s := Lib.hid (Qc.below V_s.out bb); replace V_m := Lib.hid (Qc.below V_m.out bb); replace HB := Lib.hid (nextw HB.out bb); clear bb; replace rb1 := Lib.hid rb1; have V_b1 := rb1; clear rb1; clear c0x c1x c2x c3x c0y c1y c2y c3y c0z c1z c2z c3z c0s c1s c2s c3s c0m c1m c2m c3m; have c0x := B_x.out.c0; have c1x := B_x.out.c1; have c2x := B_x.out.c2; have c3x := B_x.out.c3; have c0y := B_y.out.c0; have c1y := B_y.out.c1; have c2y := B_y.out.c2; have c3y := B_y.out.c3; have c0z := B_z.out.c0; have c1z := B_z.out.c1; have c2z := B_z.out.c2; have c3z := B_z.out.c3; have c0s := B_s.out.c0; have c1s := B_s.out.c1; have c2s := B_s.out.c2; have c3s := B_s.out.c3; have c0m := B_m.out.c0; have c1m := B_m.out.c1; have c2m := B_m.out.c2; have c3m := B_m.out.c3; have tk3x1 : True := trivial)
      | (clear tk3x1; go_at_call 17; refine (Add_q (Qd.below V_y.out (by exact ⟨rfl, rfl, rfl, Nat.le_refl _, fun _ _ => rfl⟩)) (Qd.below V_z.out (by exact ⟨rfl, rfl, rfl, Nat.le_refl _, fun _ _ => rfl⟩)) (by omega) (by omega)).mono ?_; rintro e w8 ⟨vb2, rfl, rb2, bb⟩; replace bb := nextw (w0 := w7) (by exact ⟨rfl, rfl, rfl, Nat.le_refl _, fun _ _ => rfl⟩) bb; replace B_x := Lib.hid (Box4.below B_x.out bb B_x.out.lt); replace B_y := Lib.hid (Box4.below B_y.out bb B_y.out.lt); replace B_z := Lib.hid (Box4.below B_z.out bb B_z.out.lt); replace B_s := Lib.hid (Box4.below B_s.out bb B_s.out.lt); replace B_m := Lib.hid (Box4.below B_m.out bb B_m.out.lt); replace V_x := Lib.hid (Qd.below V_x.out bb); replace V_y := Lib.hid (Qd.below V_y.out bb); replace V_z := Lib.hid (Qd.below V_z.out bb); replace V_s := Lib.hid (Qc.below V_s.out bb); replace V_m := Lib.hid (Qc.below V_m.out bb); replace V_b1 := Lib.hid (Qc.below V_b1.out bb); replace HB := Lib.hid (nextw HB.out bb); clear bb; replace rb2 := Lib.hid rb2; have V_b2 := rb2; clear rb2; clear c0x c1x c2x c3x c0y c1y c2y c3y c0z c1z c2z c3z c0s c1s c2s c3s c0m c1m c2m c3m; have c0x := B_x.out.c0; have c1x := B_x.out.c1; have c2x := B_x.out.c2; have c3x := B_x.out.c3; have c0y := B_y.out.c0; have c1y := B_y.out.c1; have c2y := B_y.out.c2; have c3y := B_y.out.c3; have c0z := B_z.out.c0; have c1z := B_z.out.c1; have c2z := B_z.out.c2; have c3z := B_z.out.c3; have c0s := B_s.out.c0; have c1s := B_s.out.c1; have c2s := B_s.out.c2; have c3s := B_s.out.c3; have c0m := B_m.out.c0; have c1m := B_m.out.c1; have c2m := B_m.out.c2; have c3m := B_m.out.c3; have tk3x2 : True := trivial)
      | (clear tk3x2; go_at_call 17; refine (Add_q (Qd.below V_x.out (by exact ⟨rfl, rfl, rfl, Nat.le_refl _, fun _ _ => rfl⟩)) (Qc.qd (Qc.below V_b2.out (by exact ⟨rfl, rfl, rfl, Nat.le_refl _, fun _ _ => rfl⟩))) (by omega) (by omega)).mono ?_; rintro e w9 ⟨vb3, rfl, rb3, bb⟩; replace bb := nextw (w0 := w8) (by exact ⟨rfl, rfl, rfl, Nat.le_refl _, fun _ _ => rfl⟩) bb; clear V_b2; replace B_x := Lib.hid (Box4.below B_x.out bb B_x.out.lt); replace B_y := Lib.hid (Box4.below B_y.out bb B_y.out.lt); replace B_z := Lib.hid (Box4.below B_z.out bb B_z.out.lt); replace B_s := Lib.hid (Box4.below B_s.out bb B_s.out.lt); replace B_m := Lib.hid (Box4.below B_m.out bb B_m.out.lt); replace V_x := Lib.hid (Qd.below V_x.out bb); replace V_y := Lib.hid (Qd.below V_y.out bb); replace V_z := Lib.hid (Qd.below V_z.out bb); replace V_s := Lib.hid (Qc.below V_s.out bb); replace V_m := Lib.hid (Qc.below V_m.out bb); replace V_b1 := Lib.hid (Qc.below V_b1.out bb); replace HB := Lib.hid (nextw HB.out bb); clear bb; replace rb3 := Lib.hid rb3; have V_b3 := rb3; clear rb3; clear c0x c1x c2x c3x c0y c1y c2y c3y c0z c1z c2z c3z c0s c1s c2s c3s c0m c1m c2m c3m; have c0x := B_x.out.c0; have c1x := B_x.out.c1; have c2x := B_x.out.c2; have c3x := B_x.out.c3; have c0y := B_y.out.c0; have c1y := B_y.out.c1; have c2y := B_y.out.c2; have c3y := B_y.out.c3; have c0z := B_z.out.c0; have c1z := B_z.out.c1; have c2z := B_z.out.c2; have c3z := B_z.out.c3; have c0s := B_s.out.c0; have c1s := B_s.out.c1; have c2s := B_s.out.c2; have c3s := B_s.out.c3; have c0m := B_m.out.c0; have c1m := B_m.out.c1; have c2m := B_m.out.c2; have c3m := B_m.out.c3; have tk3x3 : True := trivial)
      | (clear tk3x3; go_at_call 19; refine (BRat_q (Qc.below V_b1.out (by exact ⟨rfl, rfl, rfl, Nat.le_refl _, fun _ _ => rfl⟩)) (Qc.below V_b3.out (by exact ⟨rfl, rfl, rfl, Nat.le_refl _, fun _ _ => rfl⟩)) (by omega) (by omega) (Rat.add_assoc _ _ _)).mono ?_; rintro e w10 ⟨rfl, bb⟩; replace bb := nextw (w0 := w9) (by exact ⟨rfl, rfl, rfl, Nat.le_refl _, fun _ _ => rfl⟩) bb; clear V_b1 V_b3; replace B_x := Lib.hid (Box4.below B_x.out bb B_x.out.lt); replace B_y := Lib.hid (Box4.below B_y.out bb B_y.out.lt); replace B_z := Lib.hid (Box4.below B_z.out bb B_z.out.lt); replace B_s := Lib.hid (Box4.below B_s.out bb B_s.out.lt); replace B_m := Lib.hid (Box4.below B_m.out bb B_m.out.lt); replace V_x := Lib.hid (Qd.below V_x.out bb); replace V_y := Lib.hid (Qd.below V_y.out bb); replace V_z := Lib.hid (Qd.below V_z.out bb); replace V_s := Lib.hid (Qc.below V_s.out bb); replace V_m := Lib.hid (Qc.below V_m.out bb); replace HB := Lib.hid (nextw HB.out bb); clear bb; clear c0x c1x c2x c3x c0y c1y c2y c3y c0z c1z c2z c3z c0s c1s c2s c3s c0m c1m c2m c3m; have c0x := B_x.out.c0; have c1x := B_x.out.c1; have c2x := B_x.out.c2; have c3x := B_x.out.c3; have c0y := B_y.out.c0; have c1y := B_y.out.c1; have c2y := B_y.out.c2; have c3y := B_y.out.c3; have c0z := B_z.out.c0; have c1z := B_z.out.c1; have c2z := B_z.out.c2; have c3z := B_z.out.c3; have c0s := B_s.out.c0; have c1s := B_s.out.c1; have c2s := B_s.out.c2; have c3s := B_s.out.c3; have c0m := B_m.out.c0; have c1m := B_m.out.c1; have c2m := B_m.out.c2; have c3m := B_m.out.c3; have tk3x4 : True := trivial)
      | (clear tk3x4; go_at_call 18; refine (Mul_q (Qc.qd (Qc.below V_m.out (by exact ⟨rfl, rfl, rfl, Nat.le_refl _, fun _ _ => rfl⟩))) (Qd.below V_z.out (by exact ⟨rfl, rfl, rfl, Nat.le_refl _, fun _ _ => rfl⟩)) (by omega) (by omega)).mono ?_; rintro e w11 ⟨vc1, rfl, rc1, bb⟩; replace bb := nextw (w0 := w10) (by exact ⟨rfl, rfl, rfl, Nat.le_refl _, fun _ _ => rfl⟩) bb; replace B_x := Lib.hid (Box4.below B_x.out bb B_x.out.lt); replace B_y := Lib.hid (Box4.below B_y.out bb B_y.out.lt); replace B_z := Lib.hid (Box4.below B_z.out bb B_z.out.lt); replace B_s := Lib.hid (Box4.below B_s.out bb B_s.out.lt); replace B_m := Lib.hid (Box4.below B_m.out bb B_m.out.lt); replace V_x := Lib.hid (Qd.below V_x.out bb); replace V_y := Lib.hid (Qd.below V_y.out bb); replace V_z := Lib.hid (Qd.below V_z.out bb); replace V_s := Lib.hid (Qc.below V_s.out bb); replace V_m := Lib.hid (Qc.below V_m.out bb); replace HB := Lib.hid (nextw HB.out bb); clear bb; replace rc1 := Lib.hid rc1; have V_c1 := rc1; clear rc1; clear c0x c1x c2x c3x c0y c1y c2y c3y c0z c1z c2z c3z c0s c1s c2s c3s c0m c1m c2m c3m; have c0x := B_x.out.c0; have c1x := B_x.out.c1; have c2x := B_x.out.c2; have c3x := B_x.out.c3; have c0y := B_y.out.c0; have c1y := B_y.out.c1; have c2y := B_y.out.c2; have c3y := B_y.out.c3; have c0z := B_z.out.c0; have c1z := B_z.out.c1; have c2z := B_z.out.c2; have c3z := B_z.out.c3; have c0s := B_s.out.c0; have c1s := B_s.out.c1; have c2s := B_s.out.c2; have c3s := B_s.out.c3; have c0m := B_m.out.c0; have c1m := B_m.out.c1; have c2m := B_m.out.c2; have c3m := B_m.out.c3; have tk3x5 : True := trivial)
      | (clear tk3x5; go_at_call 18; refine (Mul_q (Qd.below V_y.out (by exact ⟨rfl, rfl, rfl, Nat.le_refl _, fun _ _ => rfl⟩)) (Qd.below V_z.out (by exact ⟨rfl, rfl, rfl, Nat.le_refl _, fun _ _ => rfl⟩)) (by omega) (by omega)).mono ?_; rintro e w12 ⟨vc2, rfl, rc2, bb⟩; replace bb := nextw (w0 := w11) (by exact ⟨rfl, rfl, rfl, Nat.le_refl _, fun _ _ => rfl⟩) bb; replace B_x := Lib.hid (Box4.below B_x.out bb B_x.out.lt); replace B_y := Lib.hid (Box4.below B_y.out bb B_y.out.lt); replace B_z := Lib.hid (Box4.below B_z.out bb B_z.out.lt); replace B_s := Lib.hid (Box4.below B_s.out bb B_s.out.lt); replace B_m := Lib.hid (Box4.below B_m.out bb B_m.out.lt); replace V_x := Lib.hid (Qd.below V_x.out bb); replace V_y := Lib.hid (Qd.below V_y.out bb); replace V_z := Lib.hid (Qd.below V_z.out bb); replace V_s := Lib.hid (Qc.below V_s.out bb); replace V_m := Lib.hid (Qc.below V_m.out bb); replace V_c1 := Lib.hid (Qc.below V_c1.out bb); replace HB := Lib.hid (nextw HB.out bb); clear bb; replace rc2 := Lib.hid rc2; have V_c2 := rc2; clear rc2; clear c0x c1x c2x c3x c0y c1y c2y c3y c0z c1z c2z c3z c0s c1s c2s c3s c0m c1m c2m c3m; have c0x := B_x.out.c0; have c1x := B_x.out.c1; have c2x := B_x.out.c2; have c3x := B_x.out.c3; have c0y := B_y.out.c0; have c1y := B_y.out.c1; have c2y := B_y.out.c2; have c3y := B_y.out.c3; have c0z := B_z.out.c0; have c1z := B_z.out.c1; have c2z := B_z.out.c2; have c3z := B_z.out.c3; have c0s := B_s.out.c0; have c1s := B_s.out.c1; have c2s := B_s.out.c2; have c3s := B_s.out.c3; have c0m := B_m.out.c0; have c1m := B_m.out.c1; have c2m := B_m.out.c2; have c3m := B_m.out.c3; have tk3x6 : True := trivial)
      | (clear tk3x6; go_at_call 18; refine (Mul_q (Qd.below V_x.out (by exact ⟨rfl, rfl, rfl, Nat.le_refl _, fun _ _ => rfl⟩)) (Qc.qd (Qc.below V_c2.out (by exact ⟨rfl, rfl, rfl, Nat.le_refl _, fun _ _ => rfl⟩))) (by omega) (by omega)).mono ?_; rintro e w13 ⟨vc3, rfl, rc3, bb⟩; replace bb := nextw (w0 := w12) (by exact ⟨rfl, rfl, rfl, Nat.le_refl _, fun _ _ => rfl⟩) bb; clear V_c2; replace B_x := Lib.hid (Box4.below B_x.out bb B_x.out.lt); replace B_y := Lib.hid (Box4.below B_y.out bb B_y.out.lt); replace B_z := Lib.hid (Box4.below B_z.out bb B_z.out.lt); replace B_s := Lib.hid (Box4.below B_s.out bb B_s.out.lt); replace B_m := Lib.hid (Box4.below B_m.out bb B_m.out.lt); replace V_x := Lib.hid (Qd.below V_x.out bb); replace V_y := Lib.hid (Qd.below V_y.out bb); replace V_z := Lib.hid (Qd.below V_z.out bb); replace V_s := Lib.hid (Qc.below V_s.out bb); replace V_m := Lib.hid (Qc.below V_m.out bb); replace V_c1 := Lib.hid (Qc.below V_c1.out bb); replace HB := Lib.hid (nextw HB.out bb); clear bb; replace rc3 := Lib.hid rc3; have V_c3 := rc3; clear rc3; clear c0x c1x c2x c3x c0y c1y c2y c3y c0z c1z c2z c3z c0s c1s c2s c3s c0m c1m c2m c3m; have c0x := B_x.out.c0; have c1x := B_x.out.c1; have c2x := B_x.out.c2; have c3x := B_x.out.c3; have c0y := B_y.out.c0; have c1y := B_y.out.c1; have c2y := B_y.out.c2; have c3y := B_y.out.c3; have c0z := B_z.out.c0; have c1z := B_z.out.c1; have c2z := B_z.out.c2; have c3z := B_z.out.c3; have c0s := B_s.out.c0; have c1s := B_s.out.c1; have c2s := B_s.out.c2; have c3s := B_s.out.c3; have c0m := B_m.out.c0; have c1m := B_m.out.c1; have c2m := B_m.out.c2; have c3m := B_m.out.c3; have tk3x7 : True := trivial)
      | (clear tk3x7; go_at_call 19; refine (BRat_q (Qc.below V_c1.out (by exact ⟨rfl, rfl, rfl, Nat.le_refl _, fun _ _ => rfl⟩)) (Qc.below V_c3.out (by exact ⟨rfl, rfl, rfl, Nat.le_refl _, fun _ _ => rfl⟩)) (by omega) (by omega) (Rat.mul_assoc _ _ _)).mono ?_; rintro e w14 ⟨rfl, bb⟩; replace bb := nextw (w0 := w13) (by exact ⟨rfl, rfl, rfl, Nat.le_refl _, fun _ _ => rfl⟩) bb; clear V_c1 V_c3; replace B_x := Lib.hid (Box4.below B_x.out bb B_x.out.lt); replace B_y := Lib.hid (Box4.below B_y.out bb B_y.out.lt); replace B_z := Lib.hid (Box4.below B_z.out bb B_z.out.lt); replace B_s := Lib.hid (Box4.below B_s.out bb B_s.out.lt); replace B_m := Lib.hid (Box4.below B_m.out bb B_m.out.lt); replace V_x := Lib.hid (Qd.below V_x.out bb); replace V_y := Lib.hid (Qd.below V_y.out bb); replace V_z := Lib.hid (Qd.below V_z.out bb); replace V_s := Lib.hid (Qc.below V_s.out bb); replace V_m := Lib.hid (Qc.below V_m.out bb); replace HB := Lib.hid (nextw HB.out bb); clear bb; clear c0x c1x c2x c3x c0y c1y c2y c3y c0z c1z c2z c3z c0s c1s c2s c3s c0m c1m c2m c3m; have c0x := B_x.out.c0; have c1x := B_x.out.c1; have c2x := B_x.out.c2; have c3x := B_x.out.c3; have c0y := B_y.out.c0; have c1y := B_y.out.c1; have c2y := B_y.out.c2; have c3y := B_y.out.c3; have c0z := B_z.out.c0; have c1z := B_z.out.c1; have c2z := B_z.out.c2; have c3z := B_z.out.c3; have c0s := B_s.out.c0; have c1s := B_s.out.c1; have c2s := B_s.out.c2; have c3s := B_s.out.c3; have c0m := B_m.out.c0; have c1m := B_m.out.c1; have c2m := B_m.out.c2; have c3m := B_m.out.c3; have tk3x8 : True := trivial))) | fail
    clear c0x c1x c2x c3x c0y c1y c2y c3y c0z c1z c2z c3z c0s c1s c2s c3s c0m c1m c2m c3m
    have c0x := B_x.out.c0
    have c1x := B_x.out.c1
    have c2x := B_x.out.c2
    have c3x := B_x.out.c3
    have c0y := B_y.out.c0
    have c1y := B_y.out.c1
    have c2y := B_y.out.c2
    have c3y := B_y.out.c3
    have c0z := B_z.out.c0
    have c1z := B_z.out.c1
    have c2z := B_z.out.c2
    have c3z := B_z.out.c3
    have c0s := B_s.out.c0
    have c1s := B_s.out.c1
    have c2s := B_s.out.c2
    have c3s := B_s.out.c3
    have c0m := B_m.out.c0
    have c1m := B_m.out.c1
    have c2m := B_m.out.c2
    have c3m := B_m.out.c3
    go_wp2
    have c0x := B_x.out.c0
    have c1x := B_x.out.c1
    have c2x := B_x.out.c2
    have c3x := B_x.out.c3
    have c0y := B_y.out.c0
    have c1y := B_y.out.c1
    have c2y := B_y.out.c2
    have c3y := B_y.out.c3
    have c0z := B_z.out.c0
    have c1z := B_z.out.c1
    have c2z := B_z.out.c2
    have c3z := B_z.out.c3
    have c0s := B_s.out.c0
    have c1s := B_s.out.c1
    have c2s := B_s.out.c2
    have c3s := B_s.out.c3
    have c0m := B_m.out.c0
    have c1m := B_m.out.c1
    have c2m := B_m.out.c2
    have c3m := B_m.out.c3
    have tk4x0 : True := trivial
    first | (go_region_held3 (fun w' => w'.cell? ⟨w.heap.size, 0, none⟩ = some (.bool sx) ∧ w'.cell? ⟨w.heap.size, 1, none⟩ = some (.slice Ax kx cx) ∧ w'.cell? ⟨w.heap.size, 2, none⟩ = some (.bool tx) ∧ w'.cell? ⟨w.heap.size, 3, none⟩ = some (.slice Cx lx dx) ∧ w'.cell? ⟨w.heap.size + 1, 0, none⟩ = some (.bool sy) ∧ w'.cell? ⟨w.heap.size + 1, 1, none⟩ = some (.slice Ay ky cy) ∧ w'.cell? ⟨w.heap.size + 1, 2, none⟩ = some (.bool ty) ∧ w'.cell? ⟨w.heap.size + 1, 3, none⟩ = some (.slice Cy ly dy) ∧ w'.cell? ⟨w.heap.size + 1 + 1, 0, none⟩ = some (.bool sz) ∧ w'.cell? ⟨w.heap.size + 1 + 1, 1, none⟩ = some (.slice Az kz cz) ∧ w'.cell? ⟨w.heap.size + 1 + 1, 2, none⟩ = some (.bool tz) ∧ w'.cell? ⟨w.heap.size + 1 + 1, 3, none⟩ = some (.slice Cz lz dz) ∧ w'.cell? ⟨p, 0, none⟩ = some (.bool ss) ∧ w'.cell? ⟨p, 1, none⟩ = some (.slice As ks cs) ∧ w'.cell? ⟨p, 2, none⟩ = some (.bool ts) ∧ w'.cell? ⟨p, 3, none⟩ = some (.slice Cs ls ds) ∧ w'.cell? ⟨q, 0, none⟩ = some (.bool sm) ∧ w'.cell? ⟨q, 1, none⟩ = some (.slice Am km cm) ∧ w'.cell? ⟨q, 2, none⟩ = some (.bool tm) ∧ w'.cell? ⟨q, 3, none⟩ = some (.slice Cm lm dm)) (((try dsimp only); (repeat' apply And.intro) <;> (first | (with_reducible assumption) | ((repeat (first | (with_reducible refine Eq.trans (cell_drew1 _ _) ?_) | (with_reducible refine Eq.trans (cell_set4 (by omega) _ _ _ _) ?_))); with_reducible assumption) | assumption | go_keep)))
    (first
      | (clear tk4x0; go_at_call 18; refine (Mul_q (Qc.qd (Qc.below V_s.out (by exact ⟨rfl, rfl, rfl, Nat.le_refl _, fun _ _ => rfl⟩))) (Qd.below V_z.out (by exact ⟨rfl, rfl, rfl, Nat.le_refl _, fun _ _ => rfl⟩)) (by omega) (by omega)).mono ?_; rintro e w15 ⟨vd1, rfl, rd1, bb⟩; replace bb := nextw (w0 := w14) (by exact ⟨rfl, rfl, rfl, Nat.le_refl _, fun _ _ => rfl⟩) bb; replace B_x := Lib.hid (Box4.below B_x.out bb B_x.out.lt); replace B_y := Lib.hid (Box4.below B_y.out bb B_y.out.lt); replace B_z := Lib.hid (Box4.below B_z.out bb B_z.out.lt); replace B_s := Lib.hid (Box4.below B_s.out bb B_s.out.lt); replace B_m := Lib.hid (Box4.below B_m.out bb B_m.out.lt); replace V_x := Lib.hid (Qd.below V_x.out bb); replace V_y := Lib.hid (Qd.below V_y.out bb); replace V_z := Lib.hid (Qd.below V_z.out bb); replace V_s := Lib.hid (Qc.below V_s.out bb); replace V_m := Lib.hid (Qc.below V_m.out bb); replace HB := Lib.hid (nextw HB.out bb); clear bb; replace rd1 := Lib.hid rd1; have V_d1 := rd1; clear rd1; clear c0x c1x c2x c3x c0y c1y c2y c3y c0z c1z c2z c3z c0s c1s c2s c3s c0m c1m c2m c3m; have c0x := B_x.out.c0; have c1x := B_x.out.c1; have c2x := B_x.out.c2; have c3x := B_x.out.c3; have c0y := B_y.out.c0; have c1y := B_y.out.c1; have c2y := B_y.out.c2; have c3y := B_y.out.c3; have c0z := B_z.out.c0; have c1z := B_z.out.c1; have c2z := B_z.out.c2; have c3z := B_z.out.c3; have c0s := B_s.out.c0; have c1s := B_s.out.c1; have c2s := B_s.out.c2; have c3s := B_s.out.c3; have c0m := B_m.out.c0; have c1m := B_m.out.c1; have c2m := B_m.out.c2; have c3m := B_m.out.c3; have tk4x1 : True := trivial)
      | (clear tk4x1; go_at_call 18; refine (Mul_q (Qd.below V_x.out (by exact ⟨rfl, rfl, rfl, Nat.le_refl _, fun _ _ => rfl⟩)) (Qd.below V_z.out (by exact ⟨rfl, rfl, rfl, Nat.le_refl _, fun _ _ => rfl⟩)) (by omega) (by omega)).mono ?_; rintro e w16 ⟨vd2, rfl, rd2, bb⟩; replace bb := nextw (w0 := w15) (by exact ⟨rfl, rfl, rfl, Nat.le_refl _, fun _ _ => rfl⟩) bb; replace B_x := Lib.hid (Box4.below B_x.out bb B_x.out.lt); replace B_y := Lib.hid (Box4.below B_y.out bb B_y.out.lt); replace B_z := Lib.hid (Box4.below B_z.out bb B_z.out.lt); replace B_s := Lib.hid (Box4.below B_s.out bb B_s.out.lt); replace B_m := Lib.hid (Box4.below B_m.out bb B_m.out.lt); replace V_x := Lib.hid (Qd.below V_x.out bb); replace V_y := Lib.hid (Qd.below V_y.out bb); replace V_z := Lib.hid (Qd.below V_z.out bb); replace V_s := Lib.hid (Qc.below V_s.out bb); replace V_m := Lib.hid (Qc.below V_m.out bb); replace V_d1 := Lib.hid (Qc.below V_d1.out bb); replace HB := Lib.hid (nextw HB.out bb); clear bb; replace rd2 := Lib.hid rd2; have V_d2 := rd2; clear rd2; clear c0x c1x c2x c3x c0y c1y c2y c3y c0z c1z c2z c3z c0s c1s c2s c3s c0m c1m c2m c3m; have c0x := B_x.out.c0; have c1x := B_x.out.c1; have c2x := B_x.out.c2; have c3x := B_x.out.c3; have c0y := B_y.out.c0; have c1y := B_y.out.c1; have c2y := B_y.out.c2; have c3y := B_y.out.c3; have c0z := B_z.out.c0; have c1z := B_z.out.c1; have c2z := B_z.out.c2; have c3z := B_z.out.c3; have c0s := B_s.out.c0; have c1s := B_s.out.c1; have c2s := B_s.out.c2; have c3s := B_s.out.c3; have c0m := B_m.out.c0; have c1m := B_m.out.c1; have c2m := B_m.out.c2; have c3m := B_m.out.c3; have tk4x2 : True := trivial)
      | (clear tk4x2; go_at_call 18; refine (Mul_q (Qd.below V_y.out (by exact ⟨rfl, rfl, rfl, Nat.le_refl _, fun _ _ => rfl⟩)) (Qd.below V_z.out (by exact ⟨rfl, rfl, rfl, Nat.le_refl _, fun _ _ => rfl⟩)) (by omega) (by omega)).mono ?_; rintro e w17 ⟨vd3, rfl, rd3, bb⟩; replace bb := nextw (w0 := w16) (by exact ⟨rfl, rfl, rfl, Nat.le_refl _, fun _ _ => rfl⟩) bb; clear V_z; replace B_x := Lib.hid (Box4.below B_x.out bb B_x.out.lt); replace B_y := Lib.hid (Box4.below B_y.out bb B_y.out.lt); replace B_z := Lib.hid (Box4.below B_z.out bb B_z.out.lt); replace B_s := Lib.hid (Box4.below B_s.out bb B_s.out.lt); replace B_m := Lib.hid (Box4.below B_m.out bb B_m.out.lt); replace V_x := Lib.hid (Qd.below V_x.out bb); replace V_y := Lib.hid (Qd.below V_y.out bb); replace V_s := Lib.hid (Qc.below V_s.out bb); replace V_m := Lib.hid (Qc.below V_m.out bb); replace V_d1 := Lib.hid (Qc.below V_d1.out bb); replace V_d2 := Lib.hid (Qc.below V_d2.out bb); replace HB := Lib.hid (nextw HB.out bb); clear bb; replace rd3 := Lib.hid rd3; have V_d3 := rd3; clear rd3; clear c0x c1x c2x c3x c0y c1y c2y c3y c0z c1z c2z c3z c0s c1s c2s c3s c0m c1m c2m c3m; have c0x := B_x.out.c0; have c1x := B_x.out.c1; have c2x := B_x.out.c2; have c3x := B_x.out.c3; have c0y := B_y.out.c0; have c1y := B_y.out.c1; have c2y := B_y.out.c2; have c3y := B_y.out.c3; have c0z := B_z.out.c0; have c1z := B_z.out.c1; have c2z := B_z.out.c2; have c3z := B_z.out.c3; have c0s := B_s.out.c0; have c1s := B_s.out.c1; have c2s := B_s.out.c2; have c3s := B_s.out.c3; have c0m := B_m.out.c0; have c1m := B_m.out.c1; have c2m := B_m.out.c2; have c3m := B_m.out.c3; have tk4x3 : True := trivial)
      | (clear tk4x3; go_at_call 17; refine (Add_q (Qc.qd (Qc.below V_d2.out (by exact ⟨rfl, rfl, rfl, Nat.le_refl _, fun _ _ => rfl⟩))) (Qc.qd (Qc.below V_d3.out (by exact ⟨rfl, rfl, rfl, Nat.le_refl _, fun _ _ => rfl⟩))) (by omega) (by omega)).mono ?_; rintro e w18 ⟨vd4, rfl, rd4, bb⟩; replace bb := nextw (w0 := w17) (by exact ⟨rfl, rfl, rfl, Nat.le_refl _, fun _ _ => rfl⟩) bb; clear V_d2 V_d3; replace B_x := Lib.hid (Box4.below B_x.out bb B_x.out.lt); replace B_y := Lib.hid (Box4.below B_y.out bb B_y.out.lt); replace B_z := Lib.hid (Box4.below B_z.out bb B_z.out.lt); replace B_s := Lib.hid (Box4.below B_s.out bb B_s.out.lt); replace B_m := Lib.hid (Box4.below B_m.out bb B_m.out.lt); replace V_x := Lib.hid (Qd.below V_x.out bb); replace V_y := Lib.hid (Qd.below V_y.out bb); replace V_s := Lib.hid (Qc.below V_s.out bb); replace V_m := Lib.hid (Qc.below V_m.out bb); replace V_d1 := Lib.hid (Qc.below V_d1.out bb); replace HB := Lib.hid (nextw HB.out bb); clear bb; replace rd4 := Lib.hid rd4; have V_d4 := rd4; clear rd4; clear c0x c1x c2x c3x c0y c1y c2y c3y c0z c1z c2z c3z c0s c1s c2s c3s c0m c1m c2m c3m; have c0x := B_x.out.c0; have c1x := B_x.out.c1; have c2x := B_x.out.c2; have c3x := B_x.out.c3; have c0y := B_y.out.c0; have c1y := B_y.out.c1; have c2y := B_y.out.c2; have c3y := B_y.out.c3; have c0z := B_z.out.c0; have c1z := B_z.out.c1; have c2z := B_z.out.c2; have c3z := B_z.out.c3; have c0s := B_s.out.c0; have c1s := B_s.out.c1; have c2s := B_s.out.c2; have c3s := B_s.out.c3; have c0m := B_m.out.c0; have c1m := B_m.out.c1; have c2m := B_m.out.c2; have c3m := B_m.out.c3; have tk4x4 : True := trivial)
      | (clear tk4x4; go_at_call 19; refine (BRat_q (Qc.below V_d1.out (by exact ⟨rfl, rfl, rfl, Nat.le_refl _, fun _ _ => rfl⟩)) (Qc.below V_d4.out (by exact ⟨rfl, rfl, rfl, Nat.le_refl _, fun _ _ => rfl⟩)) (by omega) (by omega) (Rat.add_mul _ _ _)).mono ?_; rintro e w19 ⟨rfl, bb⟩; replace bb := nextw (w0 := w18) (by exact ⟨rfl, rfl, rfl, Nat.le_refl _, fun _ _ => rfl⟩) bb; clear V_d1 V_d4; replace B_x := Lib.hid (Box4.below B_x.out bb B_x.out.lt); replace B_y := Lib.hid (Box4.below B_y.out bb B_y.out.lt); replace B_z := Lib.hid (Box4.below B_z.out bb B_z.out.lt); replace B_s := Lib.hid (Box4.below B_s.out bb B_s.out.lt); replace B_m := Lib.hid (Box4.below B_m.out bb B_m.out.lt); replace V_x := Lib.hid (Qd.below V_x.out bb); replace V_y := Lib.hid (Qd.below V_y.out bb); replace V_s := Lib.hid (Qc.below V_s.out bb); replace V_m := Lib.hid (Qc.below V_m.out bb); replace HB := Lib.hid (nextw HB.out bb); clear bb; clear c0x c1x c2x c3x c0y c1y c2y c3y c0z c1z c2z c3z c0s c1s c2s c3s c0m c1m c2m c3m; have c0x := B_x.out.c0; have c1x := B_x.out.c1; have c2x := B_x.out.c2; have c3x := B_x.out.c3; have c0y := B_y.out.c0; have c1y := B_y.out.c1; have c2y := B_y.out.c2; have c3y := B_y.out.c3; have c0z := B_z.out.c0; have c1z := B_z.out.c1; have c2z := B_z.out.c2; have c3z := B_z.out.c3; have c0s := B_s.out.c0; have c1s := B_s.out.c1; have c2s := B_s.out.c2; have c3s := B_s.out.c3; have c0m := B_m.out.c0; have c1m := B_m.out.c1; have c2m := B_m.out.c2; have c3m := B_m.out.c3; have tk4x5 : True := trivial)
      | (clear tk4x5; go_at_call 20; refine (Sub_q (Qc.qd (Qc.below V_s.out (by exact ⟨rfl, rfl, rfl, Nat.le_refl _, fun _ _ => rfl⟩))) (Qd.below V_y.out (by exact ⟨rfl, rfl, rfl, Nat.le_refl _, fun _ _ => rfl⟩)) (by omega) (by omega)).mono ?_; rintro e w20 ⟨ve1, rfl, re1, bb⟩; replace bb := nextw (w0 := w19) (by exact ⟨rfl, rfl, rfl, Nat.le_refl _, fun _ _ => rfl⟩) bb; clear V_s; replace B_x := Lib.hid (Box4.below B_x.out bb B_x.out.lt); replace B_y := Lib.hid (Box4.below B_y.out bb B_y.out.lt); replace B_z := Lib.hid (Box4.below B_z.out bb B_z.out.lt); replace B_s := Lib.hid (Box4.below B_s.out bb B_s.out.lt); replace B_m := Lib.hid (Box4.below B_m.out bb B_m.out.lt); replace V_x := Lib.hid (Qd.below V_x.out bb); replace V_y := Lib.hid (Qd.below V_y.out bb); replace V_m := Lib.hid (Qc.below V_m.out bb); replace HB := Lib.hid (nextw HB.out bb); clear bb; replace re1 := Lib.hid re1; have V_e1 := re1; clear re1; clear c0x c1x c2x c3x c0y c1y c2y c3y c0z c1z c2z c3z c0s c1s c2s c3s c0m c1m c2m c3m; have c0x := B_x.out.c0; have c1x := B_x.out.c1; have c2x := B_x.out.c2; have c3x := B_x.out.c3; have c0y := B_y.out.c0; have c1y := B_y.out.c1; have c2y := B_y.out.c2; have c3y := B_y.out.c3; have c0z := B_z.out.c0; have c1z := B_z.out.c1; have c2z := B_z.out.c2; have c3z := B_z.out.c3; have c0s := B_s.out.c0; have c1s := B_s.out.c1; have c2s := B_s.out.c2; have c3s := B_s.out.c3; have c0m := B_m.out.c0; have c1m := B_m.out.c1; have c2m := B_m.out.c2; have c3m := B_m.out.c3; have tk4x6 : True := trivial)
      | (clear tk4x6; go_at_call 21; refine (Norm_q (Qd.below V_x.out (by exact ⟨rfl, rfl, rfl, Nat.le_refl _, fun _ _ => rfl⟩)) (by omega)).mono ?_; rintro e w21 ⟨ve2, rfl, re2, bb⟩; replace bb := nextw (w0 := w20) (by exact ⟨rfl, rfl, rfl, Nat.le_refl _, fun _ _ => rfl⟩) bb; replace B_x := Lib.hid (Box4.below B_x.out bb B_x.out.lt); replace B_y := Lib.hid (Box4.below B_y.out bb B_y.out.lt); replace B_z := Lib.hid (Box4.below B_z.out bb B_z.out.lt); replace B_s := Lib.hid (Box4.below B_s.out bb B_s.out.lt); replace B_m := Lib.hid (Box4.below B_m.out bb B_m.out.lt); replace V_x := Lib.hid (Qd.below V_x.out bb); replace V_y := Lib.hid (Qd.below V_y.out bb); replace V_m := Lib.hid (Qc.below V_m.out bb); replace V_e1 := Lib.hid (Qc.below V_e1.out bb); replace HB := Lib.hid (nextw HB.out bb); clear bb; replace re2 := Lib.hid re2; have V_e2 := re2; clear re2; clear c0x c1x c2x c3x c0y c1y c2y c3y c0z c1z c2z c3z c0s c1s c2s c3s c0m c1m c2m c3m; have c0x := B_x.out.c0; have c1x := B_x.out.c1; have c2x := B_x.out.c2; have c3x := B_x.out.c3; have c0y := B_y.out.c0; have c1y := B_y.out.c1; have c2y := B_y.out.c2; have c3y := B_y.out.c3; have c0z := B_z.out.c0; have c1z := B_z.out.c1; have c2z := B_z.out.c2; have c3z := B_z.out.c3; have c0s := B_s.out.c0; have c1s := B_s.out.c1; have c2s := B_s.out.c2; have c3s := B_s.out.c3; have c0m := B_m.out.c0; have c1m := B_m.out.c1; have c2m := B_m.out.c2; have c3m := B_m.out.c3; have tk4x7 : True := trivial)
      | (clear tk4x7; go_at_call 19; refine (BRat_q (Qc.below V_e1.out (by exact ⟨rfl, rfl, rfl, Nat.le_refl _, fun _ _ => rfl⟩)) (Qc.below V_e2.out (by exact ⟨rfl, rfl, rfl, Nat.le_refl _, fun _ _ => rfl⟩)) (by omega) (by omega) (add_sub_q _ _)).mono ?_; rintro e w22 ⟨rfl, bb⟩; replace bb := nextw (w0 := w21) (by exact ⟨rfl, rfl, rfl, Nat.le_refl _, fun _ _ => rfl⟩) bb; clear V_e1 V_e2; replace B_x := Lib.hid (Box4.below B_x.out bb B_x.out.lt); replace B_y := Lib.hid (Box4.below B_y.out bb B_y.out.lt); replace B_z := Lib.hid (Box4.below B_z.out bb B_z.out.lt); replace B_s := Lib.hid (Box4.below B_s.out bb B_s.out.lt); replace B_m := Lib.hid (Box4.below B_m.out bb B_m.out.lt); replace V_x := Lib.hid (Qd.below V_x.out bb); replace V_y := Lib.hid (Qd.below V_y.out bb); replace V_m := Lib.hid (Qc.below V_m.out bb); replace HB := Lib.hid (nextw HB.out bb); clear bb; clear c0x c1x c2x c3x c0y c1y c2y c3y c0z c1z c2z c3z c0s c1s c2s c3s c0m c1m c2m c3m; have c0x := B_x.out.c0; have c1x := B_x.out.c1; have c2x := B_x.out.c2; have c3x := B_x.out.c3; have c0y := B_y.out.c0; have c1y := B_y.out.c1; have c2y := B_y.out.c2; have c3y := B_y.out.c3; have c0z := B_z.out.c0; have c1z := B_z.out.c1; have c2z := B_z.out.c2; have c3z := B_z.out.c3; have c0s := B_s.out.c0; have c1s := B_s.out.c1; have c2s := B_s.out.c2; have c3s := B_s.out.c3; have c0m := B_m.out.c0; have c1m := B_m.out.c1; have c2m := B_m.out.c2; have c3m := B_m.out.c3; have tk4x8 : True := trivial))) | fail
    clear c0x c1x c2x c3x c0y c1y c2y c3y c0z c1z c2z c3z c0s c1s c2s c3s c0m c1m c2m c3m
    have c0x := B_x.out.c0
    have c1x := B_x.out.c1
    have c2x := B_x.out.c2
    have c3x := B_x.out.c3
    have c0y := B_y.out.c0
    have c1y := B_y.out.c1
    have c2y := B_y.out.c2
    have c3y := B_y.out.c3
    have c0m := B_m.out.c0
    have c1m := B_m.out.c1
    have c2m := B_m.out.c2
    have c3m := B_m.out.c3
    by_cases hz0 : ry = 0
    · have HZ := Lib.hid hz0
      go_wp2_with fail
      refine (Div_zero (Qc.qd (Qc.below V_m.out (by exact ⟨rfl, rfl, rfl, Nat.le_refl _, fun _ _ => rfl⟩))) (Qd.below V_y.out (by exact ⟨rfl, rfl, rfl, Nat.le_refl _, fun _ _ => rfl⟩)) (by omega) (by omega) HZ.out).mono ?_
      rintro e w23 ⟨vQ, rfl, rfl, bb⟩
      replace bb := nextw (w0 := w22) (by exact ⟨rfl, rfl, rfl, Nat.le_refl _, fun _ _ => rfl⟩) bb
      clear c0x c1x c2x c3x c0y c1y c2y c3y c0m c1m c2m c3m
      replace B_x := Lib.hid (Box4.below B_x.out bb B_x.out.lt)
      replace B_y := Lib.hid (Box4.below B_y.out bb B_y.out.lt)
      replace B_z := Lib.hid (Box4.below B_z.out bb B_z.out.lt)
      replace B_s := Lib.hid (Box4.below B_s.out bb B_s.out.lt)
      replace B_m := Lib.hid (Box4.below B_m.out bb B_m.out.lt)
      replace V_x := Lib.hid (Qd.below V_x.out bb)
      replace V_y := Lib.hid (Qd.below V_y.out bb)
      replace V_m := Lib.hid (Qc.below V_m.out bb)
      replace HB := Lib.hid (nextw HB.out bb)
      clear bb
      have hb0 : Below w23.heap.size w23 (w23.alloc (.cells #[.bool false, (.slice none 0 0), .bool false, (.slice none 0 0)] 38)) := (Below.alloc (Below.refl w23.heap.size w23) (by simp <;> omega) _)
      have B_Q : Box4 (w23.alloc (.cells #[.bool false, (.slice none 0 0), .bool false, (.slice none 0 0)] 38)) (w23.heap.size) false (.slice none 0 0) false (.slice none 0 0) := by have h := Box4.new w23 false (.slice none 0 0) false (.slice none 0 0); simpa using h
      replace B_Q := Lib.hid B_Q
      replace B_x := Lib.hid (Box4.below B_x.out hb0 B_x.out.lt)
      replace B_y := Lib.hid (Box4.below B_y.out hb0 B_y.out.lt)
      replace B_z := Lib.hid (Box4.below B_z.out hb0 B_z.out.lt)
      replace B_s := Lib.hid (Box4.below B_s.out hb0 B_s.out.lt)
      replace B_m := Lib.hid (Box4.below B_m.out hb0 B_m.out.lt)
      replace V_x := Lib.hid (Qd.below V_x.out hb0)
      replace V_y := Lib.hid (Qd.below V_y.out hb0)
      replace V_m := Lib.hid (Qc.below V_m.out hb0)
      replace HB := Lib.hid (nextw HB.out hb0)
      clear hb0
      have c0x := B_x.out.c0
      have c1x := B_x.out.c1
      have c2x := B_x.out.c2
      have c3x := B_x.out.c3
      have c0y := B_y.out.c0
      have c1y := B_y.out.c1
      have c2y := B_y.out.c2
      have c3y := B_y.out.c3
      have c0Q := B_Q.out.c0
      have c1Q := B_Q.out.c1
      have c2Q := B_Q.out.c2
      have c3Q := B_Q.out.c3
      go_wp2_with fail
      clear c0x c1x c2x c3x c0y c1y c2y c3y c0Q c1Q c2Q c3Q
      generalize w23.alloc (.cells #[.bool false, (.slice none 0 0), .bool false, (.slice none 0 0)] 38) = W5 at *
      refine (Sign_as (Qd.below V_y.out (by exact ⟨rfl, rfl, rfl, Nat.le_refl _, fun _ _ => rfl⟩)) (by omega) (sgn_ne.2 HZ.out)).mono ?_
      rintro e w24 ⟨rfl, bb⟩
      replace bb := nextw (w0 := W5) (by exact ⟨rfl, rfl, rfl, Nat.le_refl _, fun _ _ => rfl⟩) bb
      replace B_x := Lib.hid (Box4.below B_x.out bb B_x.out.lt)
      replace B_y := Lib.hid (Box4.below B_y.out bb B_y.out.lt)
      replace B_z := Lib.hid (Box4.below B_z.out bb B_z.out.lt)
      replace B_s := Lib.hid (Box4.below B_s.out bb B_s.out.lt)
      replace B_m := Lib.hid (Box4.below B_m.out bb B_m.out.lt)
      replace B_Q := Lib.hid (Box4.below B_Q.out bb B_Q.out.lt)
      replace V_x := Lib.hid (Qd.below V_x.out bb)
      replace V_y := Lib.hid (Qd.below V_y.out bb)
      replace V_m := Lib.hid (Qc.below V_m.out bb)
      replace HB := Lib.hid (nextw HB.out bb)
      clear bb
      have HBo := HB.out
      go_wp2
      go_ret
      exact ⟨rfl, nextw HBo (by exact ⟨rfl, rfl, rfl, Nat.le_refl _, fun _ _ => rfl⟩)⟩
    · have HZ := Lib.hid hz0
      go_wp2_with fail
      refine (Div_q (Qc.qd (Qc.below V_m.out (by exact ⟨rfl, rfl, rfl, Nat.le_refl _, fun _ _ => rfl⟩))) (Qd.below V_y.out (by exact ⟨rfl, rfl, rfl, Nat.le_refl _, fun _ _ => rfl⟩)) (by omega) (by omega) HZ.out).mono ?_
      rintro e w23 ⟨vQ, rfl, rQ, bb⟩
      replace bb := nextw (w0 := w22) (by exact ⟨rfl, rfl, rfl, Nat.le_refl _, fun _ _ => rfl⟩) bb
      clear c0x c1x c2x c3x c0y c1y c2y c3y c0m c1m c2m c3m
      replace B_x := Lib.hid (Box4.below B_x.out bb B_x.out.lt)
      replace B_y := Lib.hid (Box4.below B_y.out bb B_y.out.lt)
      replace B_z := Lib.hid (Box4.below B_z.out bb B_z.out.lt)
      replace B_s := Lib.hid (Box4.below B_s.out bb B_s.out.lt)
      replace B_m := Lib.hid (Box4.below B_m.out bb B_m.out.lt)
      replace V_x := Lib.hid (Qd.below V_x.out bb)
      replace V_y := Lib.hid (Qd.below V_y.out bb)
      replace V_m := Lib.hid (Qc.below V_m.out bb)
      replace HB := Lib.hid (nextw HB.out bb)
      clear bb
      obtain ⟨sQ, AQ, kQ, cQ, tQ, CQ, lQ, dQ, rfl⟩ := rQ.shape
      have V_Q := Lib.hid rQ
      clear rQ
      have hb0 : Below w23.heap.size w23 (w23.alloc (.cells #[.bool sQ, (.slice AQ kQ cQ), .bool tQ, (.slice CQ lQ dQ)] 38)) := (Below.alloc (Below.refl w23.heap.size w23) (by simp <;> omega) _)
      have B_Q : Box4 (w23.alloc (.cells #[.bool sQ, (.slice AQ kQ cQ), .bool tQ, (.slice CQ lQ dQ)] 38)) (w23.heap.size) sQ (.slice AQ kQ cQ) tQ (.slice CQ lQ dQ) := by have h := Box4.new w23 sQ (.slice AQ kQ cQ) tQ (.slice CQ lQ dQ); simpa using h
      replace B_Q := Lib.hid B_Q
      replace B_x := Lib.hid (Box4.below B_x.out hb0 B_x.out.lt)
      replace B_y := Lib.hid (Box4.below B_y.out hb0 B_y.out.lt)
      replace B_z := Lib.hid (Box4.below B_z.out hb0 B_z.out.lt)
      replace B_s := Lib.hid (Box4.below B_s.out hb0 B_s.out.lt)
      replace B_m := Lib.hid (Box4.below B_m.out hb0 B_m.out.lt)
      replace V_x := Lib.hid (Qd.below V_x.out hb0)
      replace V_y := Lib.hid (Qd.below V_y.out hb0)
      replace V_m := Lib.hid (Qc.below V_m.out hb0)
      replace V_Q := Lib.hid (Qc.below V_Q.out hb0)
      replace HB := Lib.hid (nextw HB.out hb0)
      clear hb0
      have c0x := B_x.out.c0
      have c1x := B_x.out.c1
      have c2x := B_x.out.c2
      have c3x := B_x.out.c3
      have c0y := B_y.out.c0
      have c1y := B_y.out.c1
      have c2y := B_y.out.c2
      have c3y := B_y.out.c3
      have c0Q := B_Q.out.c0
      have c1Q := B_Q.out.c1
      have c2Q := B_Q.out.c2
      have c3Q := B_Q.out.c3
      go_wp2_with fail
      clear c0x c1x c2x c3x c0y c1y c2y c3y c0Q c1Q c2Q c3Q
      generalize w23.alloc (.cells #[.bool sQ, (.slice AQ kQ cQ), .bool tQ, (.slice CQ lQ dQ)] 38) = W5 at *
      refine (Sign_nz (Qd.below V_y.out (by exact ⟨rfl, rfl, rfl, Nat.le_refl _, fun _ _ => rfl⟩)) (by omega) HZ.out).mono ?_
      rintro e w24 ⟨cs, hcs, rfl, bb⟩
      replace bb := nextw (w0 := W5) (by exact ⟨rfl, rfl, rfl, Nat.le_refl _, fun _ _ => rfl⟩) bb
      replace B_x := Lib.hid (Box4.below B_x.out bb B_x.out.lt)
      replace B_y := Lib.hid (Box4.below B_y.out bb B_y.out.lt)
      replace B_z := Lib.hid (Box4.below B_z.out bb B_z.out.lt)
      replace B_s := Lib.hid (Box4.below B_s.out bb B_s.out.lt)
      replace B_m := Lib.hid (Box4.below B_m.out bb B_m.out.lt)
      replace B_Q := Lib.hid (Box4.below B_Q.out bb B_Q.out.lt)
      replace V_x := Lib.hid (Qd.below V_x.out bb)
      replace V_y := Lib.hid (Qd.below V_y.out bb)
      replace V_m := Lib.hid (Qc.below V_m.out bb)
      replace V_Q := Lib.hid (Qc.below V_Q.out bb)
      replace HB := Lib.hid (nextw HB.out bb)
      clear bb
      have c0x := B_x.out.c0
      have c1x := B_x.out.c1
      have c2x := B_x.out.c2
      have c3x := B_x.out.c3
      have c0y := B_y.out.c0
      have c1y := B_y.out.c1
      have c2y := B_y.out.c2
      have c3y := B_y.out.c3
      have c0Q := B_Q.out.c0
      have c1Q := B_Q.out.c1
      have c2Q := B_Q.out.c2
      have c3Q := B_Q.out.c3
      go_wp2
      have c0x := B_x.out.c0
      have c1x := B_x.out.c1
      have c2x := B_x.out.c2
      have c3x := B_x.out.c3
      have c0Q := B_Q.out.c0
      have c1Q := B_Q.out.c1
      have c2Q := B_Q.out.c2
      have c3Q := B_Q.out.c3
      have tk5x0 : True := trivial
      first | (go_region_held3 (fun w' => w'.cell? ⟨w.heap.size, 0, none⟩ = some (.bool sx) ∧ w'.cell? ⟨w.heap.size, 1, none⟩ = some (.slice Ax kx cx) ∧ w'.cell? ⟨w.heap.size, 2, none⟩ = some (.bool tx) ∧ w'.cell? ⟨w.heap.size, 3, none⟩ = some (.slice Cx lx dx) ∧ w'.cell? ⟨w23.heap.size, 0, none⟩ = some (.bool sQ) ∧ w'.cell? ⟨w23.heap.size, 1, none⟩ = some (.slice AQ kQ cQ) ∧ w'.cell? ⟨w23.heap.size, 2, none⟩ = some (.bool tQ) ∧ w'.cell? ⟨w23.heap.size, 3, none⟩ = some (.slice CQ lQ dQ)) (((try dsimp only); (repeat' apply And.intro) <;> (first | (with_reducible assumption) | ((repeat (first | (with_reducible refine Eq.trans (cell_drew1 _ _) ?_) | (with_reducible refine Eq.trans (cell_set4 (by omega) _ _ _ _) ?_))); with_reducible assumption) | assumption | go_keep)))
    (first
      | (clear tk5x0; go_at_call 21; refine (Norm_q (Qd.below V_x.out (by exact ⟨rfl, rfl, rfl, Nat.le_refl _, fun _ _ => rfl⟩)) (by omega)).mono ?_; rintro e w25 ⟨vn2, rfl, rn2, bb⟩; replace bb := nextw (w0 := w24) (by exact ⟨rfl, rfl, rfl, Nat.le_refl _, fun _ _ => rfl⟩) bb; clear V_x V_y V_m; replace B_x := Lib.hid (Box4.below B_x.out bb B_x.out.lt); replace B_y := Lib.hid (Box4.below B_y.out bb B_y.out.lt); replace B_z := Lib.hid (Box4.below B_z.out bb B_z.out.lt); replace B_s := Lib.hid (Box4.below B_s.out bb B_s.out.lt); replace B_m := Lib.hid (Box4.below B_m.out bb B_m.out.lt); replace B_Q := Lib.hid (Box4.below B_Q.out bb B_Q.out.lt); replace V_Q := Lib.hid (Qc.below V_Q.out bb); replace HB := Lib.hid (nextw HB.out bb); clear bb; replace rn2 := Lib.hid rn2; have V_n2 := rn2; clear rn2; clear c0x c1x c2x c3x c0Q c1Q c2Q c3Q; have c0x := B_x.out.c0; have c1x := B_x.out.c1; have c2x := B_x.out.c2; have c3x := B_x.out.c3; have c0Q := B_Q.out.c0; have c1Q := B_Q.out.c1; have c2Q := B_Q.out.c2; have c3Q := B_Q.out.c3; have tk5x1 : True := trivial)
      | (clear tk5x1; go_at_call 19; refine (BRat_q (Qc.below V_Q.out (by exact ⟨rfl, rfl, rfl, Nat.le_refl _, fun _ _ => rfl⟩)) (Qc.below V_n2.out (by exact ⟨rfl, rfl, rfl, Nat.le_refl _, fun _ _ => rfl⟩)) (by omega) (by omega) (mul_div_cancel _ _ HZ.out)).mono ?_; rintro e w26 ⟨rfl, bb⟩; replace bb := nextw (w0 := w25) (by exact ⟨rfl, rfl, rfl, Nat.le_refl _, fun _ _ => rfl⟩) bb; clear V_Q V_n2; replace B_x := Lib.hid (Box4.below B_x.out bb B_x.out.lt); replace B_y := Lib.hid (Box4.below B_y.out bb B_y.out.lt); replace B_z := Lib.hid (Box4.below B_z.out bb B_z.out.lt); replace B_s := Lib.hid (Box4.below B_s.out bb B_s.out.lt); replace B_m := Lib.hid (Box4.below B_m.out bb B_m.out.lt); replace B_Q := Lib.hid (Box4.below B_Q.out bb B_Q.out.lt); replace HB := Lib.hid (nextw HB.out bb); clear bb; clear c0x c1x c2x c3x c0Q c1Q c2Q c3Q; have c0x := B_x.out.c0; have c1x := B_x.out.c1; have c2x := B_x.out.c2; have c3x := B_x.out.c3; have c0Q := B_Q.out.c0; have c1Q := B_Q.out.c1; have c2Q := B_Q.out.c2; have c3Q := B_Q.out.c3; have tk5x2 : True := trivial))) | fail
      have HBo := HB.out
      go_wp2
      go_ret
      exact ⟨rfl, nextw HBo (by exact ⟨rfl, rfl, rfl, Nat.le_refl _, fun _ _ => rfl⟩)⟩

theorem Field_any {sx : Bool} {Ax : Option Addr} {kx cx : Nat} {tx : Bool} {Cx : Option Addr} {lx dx : Nat} {rx : Rat} {qx : Nat} {sy : Bool} {Ay : Option Addr} {ky cy : Nat} {ty : Bool} {Cy : Option Addr} {ly dy : Nat} {ry : Rat} {qy : Nat} {sz : Bool} {Az : Option Addr} {kz cz : Nat} {tz : Bool} {Cz : Option Addr} {lz dz : Nat} {rz : Rat} {qz : Nat} {w : World} (hx : Qd w (.agg #[.bool sx, .slice Ax kx cx, .bool tx, .slice Cx lx dx]) rx qx) (hy : Qd w (.agg #[.bool sy, .slice Ay ky cy, .bool ty, .slice Cy ly dy]) ry qy) (hz : Qd w (.agg #[.bool sz, .slice Az kz cz, .bool tz, .slice Cz lz dz]) rz qz) (htab : Tab10 w) (hqx : qx = max kx lx) (hqy : qy = max ky ly) (hqz : qz = max kz lz)
    (hm : ∀ p ∈ [(kx, lx), (ky, ly), (kz, lz)], p.1 ≤ 9223372036854775807 ∧ p.2 ≤ 9223372036854775807) :
    Calls Tryd.prog 4 #[.agg #[.bool sx, .slice Ax kx cx, .bool tx, .slice Cx lx dx], .agg #[.bool sy, .slice Ay ky cy, .bool ty, .slice Cy ly dy], .agg #[.bool sz, .slice Az kz cz, .bool tz, .slice Cz lz dz]] w fun e w' => e = .returned (.bool true) ∧ Below w.heap.size w w' := by
  by_cases hf : fewSum [(kx, lx), (ky, ly), (kz, lz)] ≤ 60
  · have hs := fewSum_small hf
    have s0 := hs (kx, lx) (by simp)
    have s1 := hs (ky, ly) (by simp)
    have s2 := hs (kz, lz) (by simp)
    simp only at s0 s1 s2
    exact Field_main hx hy hz htab (by omega) (by omega) (by omega) hf
  · exact Field_long hx hy hz htab hm hf
end Go.Proofs.YtccndofafljaaaaDoor
