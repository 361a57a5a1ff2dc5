/- Package rational: Parse at a good text. -/
import Derived.Test.YtldfamjlnphokaaGreatDoorCutQ
import Derived.Deep.DeepCutAuto
import Derived.Test.YtldfamjlnphokaaGreatDoorQ5
import Derived.Test.YtldfamjlnphokaaGreatDoorGcd3
import Derived.Test.YtldfamjlnphokaaGreatDoorParse
import Derived.Test.YtldfamjlnphokaaGreatDoorShelf

set_option linter.unusedVariables false
set_option linter.unusedSimpArgs false

namespace Go.Proofs.YtldfamjlnphokaaGreatDoor
open Go Go.RowKit Num

theorem cell_keep {w : World} {x : Nat} {o : Obj} {v : Value} (h : w.cell? ⟨x, 0, none⟩ = some v) : (w.alloc o).cell? ⟨x, 0, none⟩ = some v := by
  rw [World.cell?_alloc_lt w o ⟨x, 0, none⟩ (World.block_lt_of_cell? w _ h)]; exact h

theorem cutC_miss (l : List UInt8) (h : 47 ∉ l) (hs : l.length ≤ 100000) {m : Int} {w : World} (hm : w.cell? ⟨0, 0, none⟩ = some (.int .i64 m)) :
    Calls Tryz.prog 72 #[.string ⟨l.toArray⟩, .string ⟨#[47]⟩] w fun e w' => e = .returned (.tuple #[.string ⟨l.toArray⟩, .string ⟨#[]⟩, .bool false]) ∧ Below w.heap.size w w' :=
  (Tryz.strings_Cut ⟨l.toArray⟩ ⟨#[47]⟩ m w (by show l.toArray.size < _; simp; omega) hm).mono fun e w' ⟨he, n, hw⟩ => by
    refine ⟨?_, by rw [hw]; exact ⟨rfl, rfl, rfl, Nat.le_refl _, fun _ _ => rfl⟩⟩
    rw [he, show Lib.cut (ByteArray.mk l.toArray).data.toList (ByteArray.mk #[47]).data.toList = (l, [], false) from cut_miss l h]
theorem cutC_hit (f b : List UInt8) (h : 47 ∉ f) (hs : (f ++ 47 :: b).length ≤ 100000) {m : Int} {w : World} (hm : w.cell? ⟨0, 0, none⟩ = some (.int .i64 m)) :
    Calls Tryz.prog 72 #[.string ⟨(f ++ 47 :: b).toArray⟩, .string ⟨#[47]⟩] w fun e w' => e = .returned (.tuple #[.string ⟨f.toArray⟩, .string ⟨b.toArray⟩, .bool true]) ∧ Below w.heap.size w w' :=
  (Tryz.strings_Cut ⟨(f ++ 47 :: b).toArray⟩ ⟨#[47]⟩ m w (by show (f ++ 47 :: b).toArray.size < _; simp at hs ⊢; omega) hm).mono fun e w' ⟨he, n, hw⟩ => by
    refine ⟨?_, by rw [hw]; exact ⟨rfl, rfl, rfl, Nat.le_refl _, fun _ _ => rfl⟩⟩
    rw [he, show Lib.cut (ByteArray.mk (f ++ 47 :: b).toArray).data.toList (ByteArray.mk #[47]).data.toList = (f, b, true) from (by rw [show (ByteArray.mk (f ++ 47 :: b).toArray).data.toList = f ++ 47 :: b from by simp]; exact cut_hit f b h)]
theorem canon_whole (z : Int) : (Rat.divInt z 1).num = z ∧ ((Rat.divInt z 1).den : Int) = 1 := by
  rw [divInt_cast]; simp

set_option maxRecDepth 100000 in
set_option maxHeartbeats 8000000 in
theorem PQ_whole (l : List UInt8) (h47 : 47 ∉ l) (hn : l.length ≤ 2000) (hg : goodD l) {m : Int} {w : World} (hm : w.cell? ⟨0, 0, none⟩ = some (.int .i64 m)) :
    Calls Tryz.prog 39 #[.string ⟨l.toArray⟩] w fun e w' => ∃ v, e = .returned (.tuple #[v, .int .i64 0]) ∧ Qc w' v (Rat.divInt (numD l) 1) 223 ∧ Below w.heap.size w w' := by
  have HM := Lib.hid hm
  have HG := Lib.hid hg
  have H47 := Lib.hid h47
  have HC := Lib.hid (canon_whole (numD l))
  clear hm hg h47
  have hb0 : Below w.heap.size w (w.alloc (.cells #[.bool false, (.slice none 0 0), .bool false, (.slice none 0 0)] 26)) := (Below.alloc (Below.refl w.heap.size w) (by simp <;> omega) _)
  have B_r : Box4 (w.alloc (.cells #[.bool false, (.slice none 0 0), .bool false, (.slice none 0 0)] 26)) (w.heap.size) false (.slice none 0 0) false (.slice none 0 0) := by have h := Box4.new w false (.slice none 0 0) false (.slice none 0 0); simpa using h
  replace B_r := Lib.hid B_r
  have HB := Lib.hid hb0
  clear hb0
  have c0r := B_r.out.c0
  have c1r := B_r.out.c1
  have c2r := B_r.out.c2
  have c3r := B_r.out.c3
  have f0r := B_r.out.f0
  have f1r := B_r.out.f1
  have f2r := B_r.out.f2
  have f3r := B_r.out.f3
  have hm0 : (w.alloc (.cells #[.bool false, (.slice none 0 0), .bool false, (.slice none 0 0)] 26)).cell? ⟨0, 0, none⟩ = some (.int .i64 m) := cell_keep HM.out
  replace HM := Lib.hid hm0
  clear hm0
  go_enter Tryz.func39, Tryz.ntmps39
  go_wp2_with fail
  clear c0r c1r c2r c3r f0r f1r f2r f3r
  generalize w.alloc (.cells #[.bool false, (.slice none 0 0), .bool false, (.slice none 0 0)] 26) = W0 at *
  refine (cutC_miss l H47.out (by omega) (m := m) HM.out).mono ?_
  rintro e w1 ⟨rfl, bb⟩
  replace bb := nextw (w0 := W0) (by exact ⟨rfl, rfl, rfl, Nat.le_refl _, fun _ _ => rfl⟩) bb
  replace B_r := Lib.hid (Box4.below B_r.out bb B_r.out.lt)
  replace HB := Lib.hid (nextw HB.out bb)
  clear bb
  go_wp2_with fail
  refine (Parse_good l _ hn HG.out).mono ?_
  rintro e w2 ⟨vn, rfl, rn, bb⟩
  replace bb := nextw (w0 := w1) (by exact ⟨rfl, rfl, rfl, Nat.le_refl _, fun _ _ => rfl⟩) bb
  replace B_r := Lib.hid (Box4.below B_r.out bb B_r.out.lt)
  replace HB := Lib.hid (nextw HB.out bb)
  clear bb
  obtain ⟨sn, An, kn, cn, rfl⟩ := rn.shape
  have V_n := Lib.hid rn
  clear rn
  have Z1r := Lib.hid B_r.out.lt
  have hb0 : Below w2.heap.size w2 (w2.alloc (.cells #[.bool sn, (.slice An kn cn)] 24)) := (Below.alloc (Below.refl w2.heap.size w2) (by simp <;> omega) _)
  have B_n : Box (w2.alloc (.cells #[.bool sn, (.slice An kn cn)] 24)) (w2.heap.size) sn (.slice An kn cn) := by have h := Box.new w2 sn (.slice An kn cn); simpa using h
  replace B_n := Lib.hid B_n
  replace B_r := Lib.hid (Box4.below B_r.out hb0 B_r.out.lt)
  replace V_n := Lib.hid (Rc.below V_n.out hb0)
  replace HB := Lib.hid (nextw HB.out hb0)
  clear hb0
  have c0n := B_n.out.c0
  have c1n := B_n.out.c1
  have f0n := B_n.out.f0
  have f1n := B_n.out.f1
  have c0r := B_r.out.c0
  have c1r := B_r.out.c1
  have c2r := B_r.out.c2
  have c3r := B_r.out.c3
  have f0r := B_r.out.f0
  have f1r := B_r.out.f1
  have f2r := B_r.out.f2
  have f3r := B_r.out.f3
  go_wp2_with fail
  clear c0n c1n f0n f1n c0r c1r c2r c3r f0r f1r f2r f3r
  generalize w2.alloc (.cells #[.bool sn, (.slice An kn cn)] 24) = W1 at *
  refine (Of_rc 1 (by omega) (by omega)).mono ?_
  rintro e w3 ⟨vo, rfl, ro, bb⟩
  replace bb := nextw (w0 := W1) (by exact ⟨rfl, rfl, rfl, Nat.le_refl _, fun _ _ => rfl⟩) bb
  replace B_r := Lib.hid (Box4.below B_r.out bb B_r.out.lt)
  replace B_n := Lib.hid (Box.below B_n.out bb B_n.out.lt)
  replace V_n := Lib.hid (Rc.below V_n.out bb)
  replace HB := Lib.hid (nextw HB.out bb)
  clear bb
  obtain ⟨so, Ao, ko, co, rfl⟩ := ro.shape
  have V_o := Lib.hid ro
  clear ro
  have Z2r := Lib.hid B_r.out.lt
  have Z3n := Lib.hid B_n.out.lt
  have hb0 : Below w3.heap.size w3 (w3.alloc (.cells #[.bool so, (.slice Ao ko co)] 24)) := (Below.alloc (Below.refl w3.heap.size w3) (by simp <;> omega) _)
  have B_o : Box (w3.alloc (.cells #[.bool so, (.slice Ao ko co)] 24)) (w3.heap.size) so (.slice Ao ko co) := by have h := Box.new w3 so (.slice Ao ko co); simpa using h
  replace B_o := Lib.hid B_o
  replace B_r := Lib.hid (Box4.below B_r.out hb0 B_r.out.lt)
  replace B_n := Lib.hid (Box.below B_n.out hb0 B_n.out.lt)
  replace V_n := Lib.hid (Rc.below V_n.out hb0)
  replace V_o := Lib.hid (Rc.below V_o.out hb0)
  replace HB := Lib.hid (nextw HB.out hb0)
  clear hb0
  have c0n := B_n.out.c0
  have c1n := B_n.out.c1
  have f0n := B_n.out.f0
  have f1n := B_n.out.f1
  have c0o := B_o.out.c0
  have c1o := B_o.out.c1
  have f0o := B_o.out.f0
  have f1o := B_o.out.f1
  have c0r := B_r.out.c0
  have c1r := B_r.out.c1
  have c2r := B_r.out.c2
  have c3r := B_r.out.c3
  have f0r := B_r.out.f0
  have f1r := B_r.out.f1
  have f2r := B_r.out.f2
  have f3r := B_r.out.f3
  skip
  skip
  have K_n := V_n
  have K_o := V_o
  replace K_n := Lib.hid (Box4.keepsRc B_r.out K_n.out (.bool sn) (.slice An kn cn) (.bool so) (.slice Ao ko co))
  replace K_o := Lib.hid (Box4.keepsRc B_r.out K_o.out (.bool sn) (.slice An kn cn) (.bool so) (.slice Ao ko co))
  have HB1 := Lib.hid (Below.store4 HB.out (y := w.heap.size) (by omega) (.bool sn) (.slice An kn cn) (.bool so) (.slice Ao ko co))
  have N0r := Lib.hid (Box4.store B_r.out sn (.slice An kn cn) so (.slice Ao ko co))
  have s0r := N0r.out.c0
  have s1r := N0r.out.c1
  have s2r := N0r.out.c2
  have s3r := N0r.out.c3
  simp only [st4] at s0r s1r s2r s3r
  have HBF := HB1
  have c0r := B_r.out.c0
  have c1r := B_r.out.c1
  have c2r := B_r.out.c2
  have c3r := B_r.out.c3
  have f0r := B_r.out.f0
  have f1r := B_r.out.f1
  have f2r := B_r.out.f2
  have f3r := B_r.out.f3
  go_wp2_with fail
  exact bodyPost_ret (v := .tuple #[.agg #[.bool sn, (.slice An kn cn), .bool so, (.slice Ao ko co)], .int .i64 0]) (by simp [results, Tryz.results39, go_sem, s0r, s1r, s2r, s3r]) rfl ⟨_, rfl, Qc.mk ((Rc.below K_n.out (by exact ⟨rfl, rfl, rfl, Nat.le_refl _, fun _ _ => rfl⟩)).of_eq HC.out.1.symm) (((Rc.below K_o.out (by exact ⟨rfl, rfl, rfl, Nat.le_refl _, fun _ _ => rfl⟩)).more (by omega)).of_eq HC.out.2.symm), (nextw HBF.out (by exact ⟨rfl, rfl, rfl, Nat.le_refl _, fun _ _ => rfl⟩))⟩

theorem Cmp_gt {v1 v2 : Value} {z1 z2 : Int} {n1 n2 : Nat} {w : World} (h1 : Rd w v1 z1 n1) (h2 : Rd w v2 z2 n2) (f1 : n1 ≤ 50000) (f2 : n2 ≤ 50000) (h : z2 < z1) :
    Calls Tryz.prog 68 #[v1, v2] w fun e w' => e = .returned (.int .i64 1) ∧ Below w.heap.size w w' :=
  (Cmp_rd h1 h2 f1 f2).mono fun e w' ⟨he, hb⟩ => ⟨by rw [he]; unfold cmpI; rw [if_neg (by omega), if_pos h], hb⟩
theorem canon_frac {n d : Int} (hd : 0 < d) (hg : Nat.gcd n.natAbs d.natAbs = 1) : (Rat.divInt n d).num = n ∧ ((Rat.divInt n d).den : Int) = d := by
  rw [new_num hd, new_den hd, gcd_nat, hg]
  simp

set_option maxRecDepth 100000 in
set_option maxHeartbeats 8000000 in
theorem canStand_yes {v1 v2 : Value} {z1 z2 : Int} {n1 n2 : Nat} {w : World} (h1 : Rd w v1 z1 n1) (h2 : Rd w v2 z2 n2) (f1 : n1 ≤ 20000) (f2 : n2 ≤ 20000) (hd : 1 < z2) (hg : Nat.gcd z1.natAbs z2.natAbs = 1) :
    Calls Tryz.prog 74 #[v1, v2] w fun e w' => e = .returned (.bool true) ∧ Below w.heap.size w w' := by
  have HD := Lib.hid hd
  have HG := Lib.hid (show ((Nat.gcd z1.natAbs z2.natAbs : Nat) : Int) = 1 by rw [hg]; rfl)
  clear hd hg
  obtain ⟨sx, Ax, kx, cx, rfl, -⟩ := h1.shape
  obtain ⟨sy, Ay, ky, cy, rfl, -⟩ := h2.shape
  have V_x := Lib.hid h1
  have V_y := Lib.hid h2
  clear h1 h2
  have hb0 : Below w.heap.size w ((w.alloc (.cells #[.bool sx, (.slice Ax kx cx)] 24)).alloc (.cells #[.bool sy, (.slice Ay ky cy)] 24)) := (Below.alloc (Below.alloc (Below.refl w.heap.size w) (by simp <;> omega) _) (by simp <;> omega) _)
  have B_x : Box ((w.alloc (.cells #[.bool sx, (.slice Ax kx cx)] 24)).alloc (.cells #[.bool sy, (.slice Ay ky cy)] 24)) (w.heap.size) sx (.slice Ax kx cx) := by have h := Box.alloc (Box.new w sx (.slice Ax kx cx)) (.cells #[.bool sy, (.slice Ay ky cy)] 24); simpa using h
  replace B_x := Lib.hid B_x
  have B_y : Box ((w.alloc (.cells #[.bool sx, (.slice Ax kx cx)] 24)).alloc (.cells #[.bool sy, (.slice Ay ky cy)] 24)) (w.heap.size + 1) sy (.slice Ay ky cy) := by have h := Box.new (w.alloc (.cells #[.bool sx, (.slice Ax kx cx)] 24)) sy (.slice Ay ky cy); simpa using h
  replace B_y := Lib.hid B_y
  replace V_x := Lib.hid (Rd.below V_x.out hb0)
  replace V_y := Lib.hid (Rd.below V_y.out hb0)
  have HB := Lib.hid hb0
  clear hb0
  have c0x := B_x.out.c0
  have c1x := B_x.out.c1
  have c0y := B_y.out.c0
  have c1y := B_y.out.c1
  go_enter Tryz.func74, Tryz.ntmps74
  go_wp2
  clear c0x c1x c0y c1y
  generalize (w.alloc (.cells #[.bool sx, (.slice Ax kx cx)] 24)).alloc (.cells #[.bool sy, (.slice Ay ky cy)] 24) = W0 at *
  have c0x := B_x.out.c0
  have c1x := B_x.out.c1
  have c0y := B_y.out.c0
  have c1y := B_y.out.c1
  have tk0 : True := trivial
  first | (go_region_held3 (fun w' => w'.cell? ⟨w.heap.size, 0, none⟩ = some (.bool sx) ∧ w'.cell? ⟨w.heap.size, 1, none⟩ = some (.slice Ax kx cx) ∧ w'.cell? ⟨w.heap.size + 1, 0, none⟩ = some (.bool sy) ∧ w'.cell? ⟨w.heap.size + 1, 1, none⟩ = some (.slice Ay ky cy)) (((try dsimp only); (repeat' apply And.intro) <;> (first | (with_reducible assumption) | ((repeat (first | (with_reducible refine Eq.trans (cell_drew1 _ _) ?_) | (with_reducible refine Eq.trans (cell_set4 (by omega) _ _ _ _) ?_))); with_reducible assumption) | assumption | go_keep)))
    (first
      | (have _t := tk0; clear _t tk0; go_at_call 51; refine (Of_rc 1 (by omega) (by omega)).mono ?_; rintro e w1 ⟨vo, rfl, ro, bb⟩; replace bb := nextw (w0 := W0) (by exact ⟨rfl, rfl, rfl, Nat.le_refl _, fun _ _ => rfl⟩) bb; replace B_x := Lib.hid (Box.below B_x.out bb B_x.out.lt); replace B_y := Lib.hid (Box.below B_y.out bb B_y.out.lt); replace V_x := Lib.hid (Rd.below V_x.out bb); replace V_y := Lib.hid (Rd.below V_y.out bb); replace HB := Lib.hid (nextw HB.out bb); clear bb; replace ro := Lib.hid ro; have V_o := ro; clear ro; have c0x := B_x.out.c0; have c1x := B_x.out.c1; have c0y := B_y.out.c0; have c1y := B_y.out.c1; have tk1 : True := trivial)
      | (have _t := tk1; clear _t tk1; go_at_call 68; refine (Cmp_gt (Rd.below V_y.out (by exact ⟨rfl, rfl, rfl, Nat.le_refl _, fun _ _ => rfl⟩)) (Rc.rd (Rc.below V_o.out (by exact ⟨rfl, rfl, rfl, Nat.le_refl _, fun _ _ => rfl⟩))) (by omega) (by omega) HD.out).mono ?_; rintro e w2 ⟨rfl, bb⟩; replace bb := nextw (w0 := w1) (by exact ⟨rfl, rfl, rfl, Nat.le_refl _, fun _ _ => rfl⟩) bb; clear V_o; replace B_x := Lib.hid (Box.below B_x.out bb B_x.out.lt); replace B_y := Lib.hid (Box.below B_y.out bb B_y.out.lt); replace V_x := Lib.hid (Rd.below V_x.out bb); replace V_y := Lib.hid (Rd.below V_y.out bb); replace HB := Lib.hid (nextw HB.out bb); clear bb; have c0x := B_x.out.c0; have c1x := B_x.out.c1; have c0y := B_y.out.c0; have c1y := B_y.out.c1; have tk2 : True := trivial)
      | (have _t := tk2; clear _t tk2; go_at_call 55; refine (Gcd_rd (Rd.below V_x.out (by exact ⟨rfl, rfl, rfl, Nat.le_refl _, fun _ _ => rfl⟩)) (Rd.below V_y.out (by exact ⟨rfl, rfl, rfl, Nat.le_refl _, fun _ _ => rfl⟩)) (by omega) (by omega)).mono ?_; rintro e w3 ⟨vg, rfl, rg, bb⟩; replace bb := nextw (w0 := w2) (by exact ⟨rfl, rfl, rfl, Nat.le_refl _, fun _ _ => rfl⟩) bb; replace B_x := Lib.hid (Box.below B_x.out bb B_x.out.lt); replace B_y := Lib.hid (Box.below B_y.out bb B_y.out.lt); replace V_x := Lib.hid (Rd.below V_x.out bb); replace V_y := Lib.hid (Rd.below V_y.out bb); replace HB := Lib.hid (nextw HB.out bb); clear bb; replace rg := Lib.hid rg; have V_g := rg; clear rg; have c0x := B_x.out.c0; have c1x := B_x.out.c1; have c0y := B_y.out.c0; have c1y := B_y.out.c1; have tk3 : True := trivial)
      | (have _t := tk3; clear _t tk3; go_at_call 70; refine (isOne_yes (Rc.rd (Rc.below V_g.out (by exact ⟨rfl, rfl, rfl, Nat.le_refl _, fun _ _ => rfl⟩))) (by omega) HG.out).mono ?_; rintro e w4 ⟨rfl, bb⟩; replace bb := nextw (w0 := w3) (by exact ⟨rfl, rfl, rfl, Nat.le_refl _, fun _ _ => rfl⟩) bb; clear V_g; replace B_x := Lib.hid (Box.below B_x.out bb B_x.out.lt); replace B_y := Lib.hid (Box.below B_y.out bb B_y.out.lt); replace V_x := Lib.hid (Rd.below V_x.out bb); replace V_y := Lib.hid (Rd.below V_y.out bb); replace HB := Lib.hid (nextw HB.out bb); clear bb; have c0x := B_x.out.c0; have c1x := B_x.out.c1; have c0y := B_y.out.c0; have c1y := B_y.out.c1; have tk4 : True := trivial))) | fail
  have HBo := HB.out
  go_wp2
  go_ret
  exact ⟨rfl, nextw HBo (by exact ⟨rfl, rfl, rfl, Nat.le_refl _, fun _ _ => rfl⟩)⟩

theorem cutS_hit {f b : List UInt8} {s : ByteArray} (hs : s = ⟨(f ++ 47 :: b).toArray⟩) (h : 47 ∉ f) (hl : s.size ≤ 100000) {m : Int} {w : World} (hm : w.cell? ⟨0, 0, none⟩ = some (.int .i64 m)) :
    Calls Tryz.prog 72 #[.string s, .string ⟨#[47]⟩] w fun e w' => e = .returned (.tuple #[.string ⟨f.toArray⟩, .string ⟨b.toArray⟩, .bool true]) ∧ Below w.heap.size w w' := by
  subst hs
  exact cutC_hit f b h (by have : (f ++ 47 :: b).toArray.size ≤ 100000 := hl; simpa using this) hm

set_option maxRecDepth 100000 in
set_option maxHeartbeats 8000000 in
theorem PQ_frac (f b : List UInt8) (h47 : 47 ∉ f) (hf : f.length ≤ 2000) (hb : b.length ≤ 2000) (hx : (f ++ 47 :: b).length ≤ 4000) (g1 : goodD f) (g2 : goodD b) (hd : 1 < numD b) (hg : Nat.gcd (numD f).natAbs (numD b).natAbs = 1) {m : Int} {w : World} (hm : w.cell? ⟨0, 0, none⟩ = some (.int .i64 m)) :
    Calls Tryz.prog 39 #[.string ⟨(f ++ 47 :: b).toArray⟩] w fun e w' => ∃ v, e = .returned (.tuple #[v, .int .i64 0]) ∧ Qc w' v (Rat.divInt (numD f) (numD b)) 223 ∧ Below w.heap.size w w' := by
  have HM := Lib.hid hm
  have HG1 := Lib.hid g1
  have HG2 := Lib.hid g2
  have H47 := Lib.hid h47
  have HC := Lib.hid (canon_frac (n := numD f) (d := numD b) (by omega) hg)
  have HD := Lib.hid hd
  have HG := Lib.hid hg
  have hlen := hx
  clear hm g1 g2 h47 hd hg
  obtain ⟨s, hs⟩ : ∃ s : ByteArray, s = ⟨(f ++ 47 :: b).toArray⟩ := ⟨_, rfl⟩
  have hsz : s.size = (f ++ 47 :: b).length := by rw [hs]; show (f ++ 47 :: b).toArray.size = _; simp
  have hs4 : (s.size : Int) ≤ 4000 := by omega
  have HS := Lib.hid hs
  rw [← hs]
  clear hs hsz hx hlen
  have hb0 : Below w.heap.size w (w.alloc (.cells #[.bool false, (.slice none 0 0), .bool false, (.slice none 0 0)] 26)) := (Below.alloc (Below.refl w.heap.size w) (by simp <;> omega) _)
  have B_r : Box4 (w.alloc (.cells #[.bool false, (.slice none 0 0), .bool false, (.slice none 0 0)] 26)) (w.heap.size) false (.slice none 0 0) false (.slice none 0 0) := by have h := Box4.new w false (.slice none 0 0) false (.slice none 0 0); simpa using h
  replace B_r := Lib.hid B_r
  have HB := Lib.hid hb0
  clear hb0
  have c0r := B_r.out.c0
  have c1r := B_r.out.c1
  have c2r := B_r.out.c2
  have c3r := B_r.out.c3
  have f0r := B_r.out.f0
  have f1r := B_r.out.f1
  have f2r := B_r.out.f2
  have f3r := B_r.out.f3
  have hm0 : (w.alloc (.cells #[.bool false, (.slice none 0 0), .bool false, (.slice none 0 0)] 26)).cell? ⟨0, 0, none⟩ = some (.int .i64 m) := cell_keep HM.out
  replace HM := Lib.hid hm0
  clear hm0
  go_enter Tryz.func39, Tryz.ntmps39
  go_wp2_with fail
  clear c0r c1r c2r c3r f0r f1r f2r f3r
  generalize w.alloc (.cells #[.bool false, (.slice none 0 0), .bool false, (.slice none 0 0)] 26) = W0 at *
  refine (cutS_hit HS.out H47.out (by omega) (m := m) HM.out).mono ?_
  rintro e w1 ⟨rfl, bb⟩
  replace bb := nextw (w0 := W0) (by exact ⟨rfl, rfl, rfl, Nat.le_refl _, fun _ _ => rfl⟩) bb
  replace B_r := Lib.hid (Box4.below B_r.out bb B_r.out.lt)
  replace HB := Lib.hid (nextw HB.out bb)
  clear bb
  go_wp2_with fail
  refine (Parse_good f _ hf HG1.out).mono ?_
  rintro e w2 ⟨vn, rfl, rn, bb⟩
  replace bb := nextw (w0 := w1) (by exact ⟨rfl, rfl, rfl, Nat.le_refl _, fun _ _ => rfl⟩) bb
  replace B_r := Lib.hid (Box4.below B_r.out bb B_r.out.lt)
  replace HB := Lib.hid (nextw HB.out bb)
  clear bb
  obtain ⟨sn, An, kn, cn, rfl⟩ := rn.shape
  have V_n := Lib.hid rn
  clear rn
  have Z1r := Lib.hid B_r.out.lt
  have hb0 : Below w2.heap.size w2 (w2.alloc (.cells #[.bool sn, (.slice An kn cn)] 24)) := (Below.alloc (Below.refl w2.heap.size w2) (by simp <;> omega) _)
  have B_n : Box (w2.alloc (.cells #[.bool sn, (.slice An kn cn)] 24)) (w2.heap.size) sn (.slice An kn cn) := by have h := Box.new w2 sn (.slice An kn cn); simpa using h
  replace B_n := Lib.hid B_n
  replace B_r := Lib.hid (Box4.below B_r.out hb0 B_r.out.lt)
  replace V_n := Lib.hid (Rc.below V_n.out hb0)
  replace HB := Lib.hid (nextw HB.out hb0)
  clear hb0
  have c0n := B_n.out.c0
  have c1n := B_n.out.c1
  have f0n := B_n.out.f0
  have f1n := B_n.out.f1
  have c0r := B_r.out.c0
  have c1r := B_r.out.c1
  have c2r := B_r.out.c2
  have c3r := B_r.out.c3
  have f0r := B_r.out.f0
  have f1r := B_r.out.f1
  have f2r := B_r.out.f2
  have f3r := B_r.out.f3
  go_wp2_with fail
  clear c0n c1n f0n f1n c0r c1r c2r c3r f0r f1r f2r f3r
  generalize w2.alloc (.cells #[.bool sn, (.slice An kn cn)] 24) = W1 at *
  refine (Of_rc 1 (by omega) (by omega)).mono ?_
  rintro e w3 ⟨vo, rfl, ro, bb⟩
  replace bb := nextw (w0 := W1) (by exact ⟨rfl, rfl, rfl, Nat.le_refl _, fun _ _ => rfl⟩) bb
  replace B_r := Lib.hid (Box4.below B_r.out bb B_r.out.lt)
  replace B_n := Lib.hid (Box.below B_n.out bb B_n.out.lt)
  replace V_n := Lib.hid (Rc.below V_n.out bb)
  replace HB := Lib.hid (nextw HB.out bb)
  clear bb
  obtain ⟨so, Ao, ko, co, rfl⟩ := ro.shape
  clear ro
  have Z2r := Lib.hid B_r.out.lt
  have Z3n := Lib.hid B_n.out.lt
  have hb0 : Below w3.heap.size w3 (w3.alloc (.cells #[.bool so, (.slice Ao ko co)] 24)) := (Below.alloc (Below.refl w3.heap.size w3) (by simp <;> omega) _)
  have B_o : Box (w3.alloc (.cells #[.bool so, (.slice Ao ko co)] 24)) (w3.heap.size) so (.slice Ao ko co) := by have h := Box.new w3 so (.slice Ao ko co); simpa using h
  replace B_o := Lib.hid B_o
  replace B_r := Lib.hid (Box4.below B_r.out hb0 B_r.out.lt)
  replace B_n := Lib.hid (Box.below B_n.out hb0 B_n.out.lt)
  replace V_n := Lib.hid (Rc.below V_n.out hb0)
  replace HB := Lib.hid (nextw HB.out hb0)
  clear hb0
  have c0n := B_n.out.c0
  have c1n := B_n.out.c1
  have f0n := B_n.out.f0
  have f1n := B_n.out.f1
  have c0o := B_o.out.c0
  have c1o := B_o.out.c1
  have f0o := B_o.out.f0
  have f1o := B_o.out.f1
  have c0r := B_r.out.c0
  have c1r := B_r.out.c1
  have c2r := B_r.out.c2
  have c3r := B_r.out.c3
  have f0r := B_r.out.f0
  have f1r := B_r.out.f1
  have f2r := B_r.out.f2
  have f3r := B_r.out.f3
  go_wp2_with fail
  clear c0n c1n f0n f1n c0o c1o f0o f1o c0r c1r c2r c3r f0r f1r f2r f3r
  generalize w3.alloc (.cells #[.bool so, (.slice Ao ko co)] 24) = W2 at *
  refine (Parse_good b _ hb HG2.out).mono ?_
  rintro e w4 ⟨vd, rfl, rd, bb⟩
  replace bb := nextw (w0 := W2) (by exact ⟨rfl, rfl, rfl, Nat.le_refl _, fun _ _ => rfl⟩) bb
  replace B_r := Lib.hid (Box4.below B_r.out bb B_r.out.lt)
  replace B_n := Lib.hid (Box.below B_n.out bb B_n.out.lt)
  replace B_o := Lib.hid (Box.below B_o.out bb B_o.out.lt)
  replace V_n := Lib.hid (Rc.below V_n.out bb)
  replace HB := Lib.hid (nextw HB.out bb)
  clear bb
  obtain ⟨sd, Ad, kd, cd, rfl⟩ := rd.shape
  have V_d := Lib.hid rd
  clear rd
  have c0n := B_n.out.c0
  have c1n := B_n.out.c1
  have f0n := B_n.out.f0
  have f1n := B_n.out.f1
  have c0o := B_o.out.c0
  have c1o := B_o.out.c1
  have f0o := B_o.out.f0
  have f1o := B_o.out.f1
  have c0r := B_r.out.c0
  have c1r := B_r.out.c1
  have c2r := B_r.out.c2
  have c3r := B_r.out.c3
  have f0r := B_r.out.f0
  have f1r := B_r.out.f1
  have f2r := B_r.out.f2
  have f3r := B_r.out.f3
  go_upto_region 10 with fail
  have z1r := Z1r.out
  have z2r := Z2r.out
  have z3n := Z3n.out
  clear c0n c1n f0n f1n c0o c1o f0o f1o c0r c1r c2r c3r f0r f1r f2r f3r
  replace V_n := Lib.hid (Box.keepsRc B_o.out V_n.out sd (.slice Ad kd cd))
  replace V_d := Lib.hid (Box.keepsRc B_o.out V_d.out sd (.slice Ad kd cd))
  replace B_r := Lib.hid (Box4.far (y := w3.heap.size) B_r.out (by omega) (.bool sd) (.slice Ad kd cd))
  replace B_n := Lib.hid (Box.far (y := w3.heap.size) B_n.out (by omega) (.bool sd) (.slice Ad kd cd))
  replace HB := Lib.hid (Below.store HB.out (x := w3.heap.size) (by omega) (.bool sd) (.slice Ad kd cd))
  replace B_o := Lib.hid (Box.store B_o.out sd (.slice Ad kd cd))
  generalize ((w4.setCell ⟨w3.heap.size, 0, none⟩ (.bool sd)).setCell ⟨w3.heap.size, 1, none⟩ (.slice Ad kd cd)) = W3 at *
  clear z1r z2r z3n
  have c0n := B_n.out.c0
  have c1n := B_n.out.c1
  have f0n := B_n.out.f0
  have f1n := B_n.out.f1
  have c0o := B_o.out.c0
  have c1o := B_o.out.c1
  have f0o := B_o.out.f0
  have f1o := B_o.out.f1
  have c0r := B_r.out.c0
  have c1r := B_r.out.c1
  have c2r := B_r.out.c2
  have c3r := B_r.out.c3
  have f0r := B_r.out.f0
  have f1r := B_r.out.f1
  have f2r := B_r.out.f2
  have f3r := B_r.out.f3
  go_wp2_with fail
  refine (canStand_yes (Rc.rd (Rc.below V_n.out (by exact ⟨rfl, rfl, rfl, Nat.le_refl _, fun _ _ => rfl⟩))) (Rc.rd (Rc.below V_d.out (by exact ⟨rfl, rfl, rfl, Nat.le_refl _, fun _ _ => rfl⟩))) (by omega) (by omega) HD.out HG.out).mono ?_
  rintro e w5 ⟨rfl, bb⟩
  replace bb := nextw (w0 := W3) (by exact ⟨rfl, rfl, rfl, Nat.le_refl _, fun _ _ => rfl⟩) bb
  clear c0n c1n f0n f1n c0o c1o f0o f1o c0r c1r c2r c3r f0r f1r f2r f3r
  replace B_r := Lib.hid (Box4.below B_r.out bb B_r.out.lt)
  replace B_n := Lib.hid (Box.below B_n.out bb B_n.out.lt)
  replace B_o := Lib.hid (Box.below B_o.out bb B_o.out.lt)
  replace V_n := Lib.hid (Rc.below V_n.out bb)
  replace V_d := Lib.hid (Rc.below V_d.out bb)
  replace HB := Lib.hid (nextw HB.out bb)
  clear bb
  have c0n := B_n.out.c0
  have c1n := B_n.out.c1
  have f0n := B_n.out.f0
  have f1n := B_n.out.f1
  have c0o := B_o.out.c0
  have c1o := B_o.out.c1
  have f0o := B_o.out.f0
  have f1o := B_o.out.f1
  have c0r := B_r.out.c0
  have c1r := B_r.out.c1
  have c2r := B_r.out.c2
  have c3r := B_r.out.c3
  have f0r := B_r.out.f0
  have f1r := B_r.out.f1
  have f2r := B_r.out.f2
  have f3r := B_r.out.f3
  skip
  have K_n := V_n
  have K_d := V_d
  replace K_n := Lib.hid (Box4.keepsRc B_r.out K_n.out (.bool sn) (.slice An kn cn) (.bool sd) (.slice Ad kd cd))
  replace K_d := Lib.hid (Box4.keepsRc B_r.out K_d.out (.bool sn) (.slice An kn cn) (.bool sd) (.slice Ad kd cd))
  have HB1 := Lib.hid (Below.store4 HB.out (y := w.heap.size) (by omega) (.bool sn) (.slice An kn cn) (.bool sd) (.slice Ad kd cd))
  have N0r := Lib.hid (Box4.store B_r.out sn (.slice An kn cn) sd (.slice Ad kd cd))
  have s0r := N0r.out.c0
  have s1r := N0r.out.c1
  have s2r := N0r.out.c2
  have s3r := N0r.out.c3
  simp only [st4] at s0r s1r s2r s3r
  have HBF := HB1
  have c0r := B_r.out.c0
  have c1r := B_r.out.c1
  have c2r := B_r.out.c2
  have c3r := B_r.out.c3
  have f0r := B_r.out.f0
  have f1r := B_r.out.f1
  have f2r := B_r.out.f2
  have f3r := B_r.out.f3
  go_wp2_with fail
  exact bodyPost_ret (v := .tuple #[.agg #[.bool sn, (.slice An kn cn), .bool sd, (.slice Ad kd cd)], .int .i64 0]) (by simp [results, Tryz.results39, go_sem, s0r, s1r, s2r, s3r]) rfl ⟨_, rfl, Qc.mk ((Rc.below K_n.out (by exact ⟨rfl, rfl, rfl, Nat.le_refl _, fun _ _ => rfl⟩)).of_eq HC.out.1.symm) ((Rc.below K_d.out (by exact ⟨rfl, rfl, rfl, Nat.le_refl _, fun _ _ => rfl⟩)).of_eq HC.out.2.symm), (nextw HBF.out (by exact ⟨rfl, rfl, rfl, Nat.le_refl _, fun _ _ => rfl⟩))⟩
theorem text_len62 (z : Int) (h : z.natAbs < 4294967296 ^ 62) : (zText z).length ≤ 1000 := by
  have h2 : z.natAbs < 10 ^ (699 + 1) := Nat.lt_of_lt_of_le h (by decide +kernel)
  have h3 := digits_len 699 z.natAbs h2
  unfold zText
  rw [List.length_append]
  have h1 := signText_len (decide (z < 0))
  omega
theorem gcd_num_den (r : Rat) : Nat.gcd r.num.natAbs ((r.den : Int)).natAbs = 1 := by rw [Int.natAbs_natCast]; exact r.reduced
theorem den_gt {r : Rat} (h : ¬ (r.den : Int) = 1) : 1 < (r.den : Int) := by have := r.den_pos; omega
/-- Parse leads the text of a number back to it. -/
theorem PQ_text {r : Rat} (h1 : r.num.natAbs < 4294967296 ^ 62) (h2 : r.den < 4294967296 ^ 62) {s : ByteArray} (hs : s = ⟨(qText r).toArray⟩) {m : Int} {w : World} (hm : w.cell? ⟨0, 0, none⟩ = some (.int .i64 m)) :
    Calls Tryz.prog 39 #[.string s] w fun e w' => ∃ v, e = .returned (.tuple #[v, .int .i64 0]) ∧ Qc w' v r 223 ∧ Below w.heap.size w w' := by
  subst hs
  have l1 := text_len62 r.num h1
  have l2 := text_len62 (r.den : Int) (by rw [Int.natAbs_natCast]; exact h2)
  unfold qText
  by_cases h0 : (r.den : Int) = 1
  · rw [if_pos h0]
    have c := PQ_whole (zText r.num) (text_no_slash _) (by omega) (goodD_text _) hm
    rw [numD_text] at c
    have e : Rat.divInt r.num 1 = r := by rw [← h0]; exact Rat.num_divInt_den r
    rwa [e] at c
  · rw [if_neg h0]
    have c := PQ_frac (zText r.num) (zText (r.den : Int)) (text_no_slash _) (by omega) (by omega) (by rw [List.length_append, List.length_cons]; omega) (goodD_text _) (goodD_text _) (by rw [numD_text]; exact den_gt h0) (by rw [numD_text, numD_text]; exact gcd_num_den r) hm
    rw [numD_text, numD_text, Rat.num_divInt_den] at c
    exact c
end Go.Proofs.YtldfamjlnphokaaGreatDoor
