/- The law IntegerParses: the walk. -/
import Derived.Test.YthfkahccnpkgjaaDoorFew
import Derived.Test.YthfkahccnpkgjaaDoorTxt3
import Derived.Test.YthfkahccnpkgjaaDoorRParse

set_option linter.unusedVariables false
set_option linter.unusedSimpArgs false

namespace Go.Proofs.YthfkahccnpkgjaaDoor
open Go Go.RowKit Num Go.Lib

theorem RParse_good (l : List UInt8) (w : World) (hn : l.length ≤ 2000) (h : goodD l) :
    Calls Tryd.prog 34 #[.string ⟨l.toArray⟩] w fun e w' => ∃ v, e = .returned (.tuple #[v, .int .i64 0]) ∧ Rc w' v (numD l) 223 ∧ Below w.heap.size w w' :=
  (RParse_any l w hn).mono fun e w' hp => by
    rcases hp with ⟨-, v, he, hc, hb⟩ | ⟨hb, -⟩
    · exact ⟨v, he, hc, hb⟩
    · exact absurd h hb
theorem RParse_bad (l : List UInt8) (w : World) (hn : l.length ≤ 2000) (h : ¬ goodD l) :
    Calls Tryd.prog 34 #[.string ⟨l.toArray⟩] w fun e w' => e = .returned (.tuple #[.agg #[.bool false, .slice none 0 0], .int .i64 3]) ∧ Below w.heap.size w w' :=
  (RParse_any l w hn).mono fun e w' hp => by
    rcases hp with ⟨hg, -⟩ | ⟨-, he, hb⟩
    · exact absurd hg h
    · exact ⟨he, hb⟩
theorem Rc_zero (w : World) : Rc w (.agg #[.bool false, .slice none 0 0]) 0 1 := ⟨⟨_, rfl, by rw [Int.natAbs_zero, digs_zero]; exact U32.nil none (Nat.zero_le _)⟩, by decide⟩

set_option maxRecDepth 100000 in
set_option maxHeartbeats 8000000 in
theorem Parses_long (l : List UInt8) (w : World) (htab : Tab10 w) (h : 2100 < l.length) :
    Calls Tryd.prog 10 #[.string ⟨l.toArray⟩] w fun e w' => e = .returned (.bool true) ∧ Below w.heap.size w w' := by
  have V_tab := Lib.hid htab
  clear htab
  have HB := Lib.hid (Below.refl w.heap.size w)
  go_enter Tryd.func10, Tryd.ntmps10
  go_wp2_with fail
  refine (awake_any _ (tab_below V_tab.out (by exact ⟨rfl, rfl, rfl, Nat.le_refl _, fun _ _ => rfl⟩))).mono ?_
  rintro e w1 ⟨rfl, bb⟩
  replace bb := nextw (w0 := w) (by exact ⟨rfl, rfl, rfl, Nat.le_refl _, fun _ _ => rfl⟩) bb
  replace V_tab := Lib.hid (tab_below V_tab.out bb)
  replace HB := Lib.hid (nextw HB.out bb)
  clear bb
  go_wp2_with fail
  refine (awake_any _ (tab_below V_tab.out (by exact ⟨rfl, rfl, rfl, Nat.le_refl _, fun _ _ => rfl⟩))).mono ?_
  rintro e w2 ⟨rfl, bb⟩
  replace bb := nextw (w0 := w1) (by exact ⟨rfl, rfl, rfl, Nat.le_refl _, fun _ _ => rfl⟩) bb
  replace V_tab := Lib.hid (tab_below V_tab.out bb)
  replace HB := Lib.hid (nextw HB.out bb)
  clear bb
  have HBo := HB.out
  go_wp2
  go_ret
  exact ⟨rfl, nextw HBo (by exact ⟨rfl, rfl, rfl, Nat.le_refl _, fun _ _ => rfl⟩)⟩

set_option maxRecDepth 100000 in
set_option maxHeartbeats 8000000 in
theorem Parses_full (l : List UInt8) (w : World) (htab : Tab10 w) (h : 2000 < l.length) (h2 : l.length ≤ 2100) :
    Calls Tryd.prog 10 #[.string ⟨l.toArray⟩] w fun e w' => e = .returned (.bool true) ∧ Below w.heap.size w w' := by
  have V_tab := Lib.hid htab
  clear htab
  have HB := Lib.hid (Below.refl w.heap.size w)
  go_enter Tryd.func10, Tryd.ntmps10
  go_wp2_with fail
  refine (awake_any _ (tab_below V_tab.out (by exact ⟨rfl, rfl, rfl, Nat.le_refl _, fun _ _ => rfl⟩))).mono ?_
  rintro e w1 ⟨rfl, bb⟩
  replace bb := nextw (w0 := w) (by exact ⟨rfl, rfl, rfl, Nat.le_refl _, fun _ _ => rfl⟩) bb
  replace V_tab := Lib.hid (tab_below V_tab.out bb)
  replace HB := Lib.hid (nextw HB.out bb)
  clear bb
  clear V_tab
  go_wp2_with fail
  refine (Parse_full l _ h).mono ?_
  rintro e w2 ⟨rfl, bb⟩
  replace bb := nextw (w0 := w1) (by exact ⟨rfl, rfl, rfl, Nat.le_refl _, fun _ _ => rfl⟩) bb
  replace HB := Lib.hid (nextw HB.out bb)
  clear bb
  have hb0 : Below w2.heap.size w2 (w2.alloc (.cells #[.bool false, (.slice none 0 0)] 24)) := (Below.alloc (Below.refl w2.heap.size w2) (by simp <;> omega) _)
  have B_x : Box (w2.alloc (.cells #[.bool false, (.slice none 0 0)] 24)) (w2.heap.size) false (.slice none 0 0) := by have h := Box.new w2 false (.slice none 0 0); simpa using h
  replace B_x := Lib.hid B_x
  replace HB := Lib.hid (nextw HB.out hb0)
  clear hb0
  have c0x := B_x.out.c0
  have c1x := B_x.out.c1
  go_wp2_with fail
  clear c0x c1x
  generalize (w2.alloc (.cells #[.bool false, (.slice none 0 0)] 24)) = W1 at *
  have c0x := B_x.out.c0
  have c1x := B_x.out.c1
  have HBo := HB.out
  go_wp2
  go_ret
  exact ⟨rfl, nextw HBo (by exact ⟨rfl, rfl, rfl, Nat.le_refl _, fun _ _ => rfl⟩)⟩

set_option maxRecDepth 100000 in
set_option maxHeartbeats 8000000 in
theorem Parses_bad (l : List UInt8) (w : World) (htab : Tab10 w) (hn : l.length ≤ 2000) (h : ¬ goodD l) :
    Calls Tryd.prog 10 #[.string ⟨l.toArray⟩] w fun e w' => e = .returned (.bool true) ∧ Below w.heap.size w w' := by
  have HG := Lib.hid h
  clear h
  have V_tab := Lib.hid htab
  clear htab
  have HB := Lib.hid (Below.refl w.heap.size w)
  go_enter Tryd.func10, Tryd.ntmps10
  go_wp2_with fail
  refine (awake_any _ (tab_below V_tab.out (by exact ⟨rfl, rfl, rfl, Nat.le_refl _, fun _ _ => rfl⟩))).mono ?_
  rintro e w1 ⟨rfl, bb⟩
  replace bb := nextw (w0 := w) (by exact ⟨rfl, rfl, rfl, Nat.le_refl _, fun _ _ => rfl⟩) bb
  replace V_tab := Lib.hid (tab_below V_tab.out bb)
  replace HB := Lib.hid (nextw HB.out bb)
  clear bb
  clear V_tab
  go_wp2_with fail
  refine (Parse_bad l _ hn HG.out).mono ?_
  rintro e w2 ⟨rfl, bb⟩
  replace bb := nextw (w0 := w1) (by exact ⟨rfl, rfl, rfl, Nat.le_refl _, fun _ _ => rfl⟩) bb
  replace HB := Lib.hid (nextw HB.out bb)
  clear bb
  have hb0 : Below w2.heap.size w2 (w2.alloc (.cells #[.bool false, (.slice none 0 0)] 24)) := (Below.alloc (Below.refl w2.heap.size w2) (by simp <;> omega) _)
  have B_x : Box (w2.alloc (.cells #[.bool false, (.slice none 0 0)] 24)) (w2.heap.size) false (.slice none 0 0) := by have h := Box.new w2 false (.slice none 0 0); simpa using h
  replace B_x := Lib.hid B_x
  replace HB := Lib.hid (nextw HB.out hb0)
  clear hb0
  have c0x := B_x.out.c0
  have c1x := B_x.out.c1
  go_wp2_with fail
  clear c0x c1x
  generalize (w2.alloc (.cells #[.bool false, (.slice none 0 0)] 24)) = W1 at *
  refine (RParse_bad l _ hn HG.out).mono ?_
  rintro e w3 ⟨rfl, bb⟩
  replace bb := nextw (w0 := W1) (by exact ⟨rfl, rfl, rfl, Nat.le_refl _, fun _ _ => rfl⟩) bb
  replace B_x := Lib.hid (Box.below B_x.out bb B_x.out.lt)
  replace HB := Lib.hid (nextw HB.out bb)
  clear bb
  have hb0 : Below w3.heap.size w3 (w3.alloc (.cells #[.bool false, (.slice none 0 0)] 24)) := (Below.alloc (Below.refl w3.heap.size w3) (by simp <;> omega) _)
  have B_r : Box (w3.alloc (.cells #[.bool false, (.slice none 0 0)] 24)) (w3.heap.size) false (.slice none 0 0) := by have h := Box.new w3 false (.slice none 0 0); simpa using h
  replace B_r := Lib.hid B_r
  replace B_x := Lib.hid (Box.below B_x.out hb0 B_x.out.lt)
  replace HB := Lib.hid (nextw HB.out hb0)
  clear hb0
  have c0x := B_x.out.c0
  have c1x := B_x.out.c1
  have c0r := B_r.out.c0
  have c1r := B_r.out.c1
  go_wp2_with fail
  clear c0x c1x c0r c1r
  generalize (w3.alloc (.cells #[.bool false, (.slice none 0 0)] 24)) = W2 at *
  have hz := Rc_zero W2
  have V_x := Lib.hid hz
  have V_r := Lib.hid hz
  clear hz
  have c0x := B_x.out.c0
  have c1x := B_x.out.c1
  have c0r := B_r.out.c0
  have c1r := B_r.out.c1
  go_wp2
  have c0x := B_x.out.c0
  have c1x := B_x.out.c1
  have c0r := B_r.out.c0
  have c1r := B_r.out.c1
  have tk0 : True := trivial
  first | (go_region_with (first
      | (have _t := tk0; clear _t tk0; go_at_call 21; refine (RNorm_rd (Rc.rd (Rc.below V_r.out (by exact ⟨rfl, rfl, rfl, Nat.le_refl _, fun _ _ => rfl⟩))) (by omega)).mono ?_; rintro e w4 ⟨vn, rfl, rn, bb⟩; replace bb := nextw (w0 := W2) (by exact ⟨rfl, rfl, rfl, Nat.le_refl _, fun _ _ => rfl⟩) bb; replace B_x := Lib.hid (Box.below B_x.out bb B_x.out.lt); replace B_r := Lib.hid (Box.below B_r.out bb B_r.out.lt); replace V_x := Lib.hid (Rc.below V_x.out bb); replace V_r := Lib.hid (Rc.below V_r.out bb); replace HB := Lib.hid (nextw HB.out bb); clear bb; replace rn := Lib.hid rn; have V_n := rn; clear rn; have c0x := B_x.out.c0; have c1x := B_x.out.c1; have c0r := B_r.out.c0; have c1r := B_r.out.c1; have tk1 : True := trivial)
      | (have _t := tk1; clear _t tk1; go_at_call 20; refine (Same_rc (Rc.below V_x.out (by exact ⟨rfl, rfl, rfl, Nat.le_refl _, fun _ _ => rfl⟩)) (Rc.below V_n.out (by exact ⟨rfl, rfl, rfl, Nat.le_refl _, fun _ _ => rfl⟩)) (by omega) (by omega) (rfl)).mono ?_; rintro e w5 ⟨rfl, bb⟩; replace bb := nextw (w0 := w4) (by exact ⟨rfl, rfl, rfl, Nat.le_refl _, fun _ _ => rfl⟩) bb; clear V_n; replace B_x := Lib.hid (Box.below B_x.out bb B_x.out.lt); replace B_r := Lib.hid (Box.below B_r.out bb B_r.out.lt); replace V_x := Lib.hid (Rc.below V_x.out bb); replace V_r := Lib.hid (Rc.below V_r.out bb); replace HB := Lib.hid (nextw HB.out bb); clear bb; have c0x := B_x.out.c0; have c1x := B_x.out.c1; have c0r := B_r.out.c0; have c1r := B_r.out.c1; have tk2 : True := trivial))) | fail
  all_goals
    have HBo := HB.out
    go_wp2
    go_ret
    exact ⟨rfl, nextw HBo (by exact ⟨rfl, rfl, rfl, Nat.le_refl _, fun _ _ => rfl⟩)⟩

set_option maxRecDepth 100000 in
set_option maxHeartbeats 8000000 in
theorem Parses_good (l : List UInt8) (w : World) (htab : Tab10 w) (hn : l.length ≤ 2000) (h : goodD l) :
    Calls Tryd.prog 10 #[.string ⟨l.toArray⟩] w fun e w' => e = .returned (.bool true) ∧ Below w.heap.size w w' := by
  have HG := Lib.hid h
  clear h
  have V_tab := Lib.hid htab
  clear htab
  have HB := Lib.hid (Below.refl w.heap.size w)
  go_enter Tryd.func10, Tryd.ntmps10
  go_wp2_with fail
  refine (awake_any _ (tab_below V_tab.out (by exact ⟨rfl, rfl, rfl, Nat.le_refl _, fun _ _ => rfl⟩))).mono ?_
  rintro e w1 ⟨rfl, bb⟩
  replace bb := nextw (w0 := w) (by exact ⟨rfl, rfl, rfl, Nat.le_refl _, fun _ _ => rfl⟩) bb
  replace V_tab := Lib.hid (tab_below V_tab.out bb)
  replace HB := Lib.hid (nextw HB.out bb)
  clear bb
  go_wp2_with fail
  refine (Parse_good l _ hn HG.out).mono ?_
  rintro e w2 ⟨vx, rfl, rx, bb⟩
  replace bb := nextw (w0 := w1) (by exact ⟨rfl, rfl, rfl, Nat.le_refl _, fun _ _ => rfl⟩) bb
  replace V_tab := Lib.hid (tab_below V_tab.out bb)
  replace HB := Lib.hid (nextw HB.out bb)
  clear bb
  obtain ⟨sx, Ax, kx, cx, rfl⟩ := rx.shape
  have V_x := Lib.hid rx
  clear rx
  have hb0 : Below w2.heap.size w2 (w2.alloc (.cells #[.bool sx, (.slice Ax kx cx)] 24)) := (Below.alloc (Below.refl w2.heap.size w2) (by simp <;> omega) _)
  have B_x : Box (w2.alloc (.cells #[.bool sx, (.slice Ax kx cx)] 24)) (w2.heap.size) sx (.slice Ax kx cx) := by have h := Box.new w2 sx (.slice Ax kx cx); simpa using h
  replace B_x := Lib.hid B_x
  replace V_tab := Lib.hid (tab_below V_tab.out hb0)
  replace V_x := Lib.hid (Rc.below V_x.out hb0)
  replace HB := Lib.hid (nextw HB.out hb0)
  clear hb0
  have c0x := B_x.out.c0
  have c1x := B_x.out.c1
  go_wp2_with fail
  clear c0x c1x
  generalize (w2.alloc (.cells #[.bool sx, (.slice Ax kx cx)] 24)) = W1 at *
  refine (RParse_good l _ hn HG.out).mono ?_
  rintro e w3 ⟨vr, rfl, rr, bb⟩
  replace bb := nextw (w0 := W1) (by exact ⟨rfl, rfl, rfl, Nat.le_refl _, fun _ _ => rfl⟩) bb
  replace B_x := Lib.hid (Box.below B_x.out bb B_x.out.lt)
  replace V_tab := Lib.hid (tab_below V_tab.out bb)
  replace V_x := Lib.hid (Rc.below V_x.out bb)
  replace HB := Lib.hid (nextw HB.out bb)
  clear bb
  obtain ⟨sr, Ar, kr, cr, rfl⟩ := rr.shape
  have V_r := Lib.hid rr
  clear rr
  have hb0 : Below w3.heap.size w3 (w3.alloc (.cells #[.bool sr, (.slice Ar kr cr)] 24)) := (Below.alloc (Below.refl w3.heap.size w3) (by simp <;> omega) _)
  have B_r : Box (w3.alloc (.cells #[.bool sr, (.slice Ar kr cr)] 24)) (w3.heap.size) sr (.slice Ar kr cr) := by have h := Box.new w3 sr (.slice Ar kr cr); simpa using h
  replace B_r := Lib.hid B_r
  replace B_x := Lib.hid (Box.below B_x.out hb0 B_x.out.lt)
  replace V_tab := Lib.hid (tab_below V_tab.out hb0)
  replace V_x := Lib.hid (Rc.below V_x.out hb0)
  replace V_r := Lib.hid (Rc.below V_r.out hb0)
  replace HB := Lib.hid (nextw HB.out hb0)
  clear hb0
  have c0x := B_x.out.c0
  have c1x := B_x.out.c1
  have c0r := B_r.out.c0
  have c1r := B_r.out.c1
  go_wp2_with fail
  clear c0x c1x c0r c1r
  generalize (w3.alloc (.cells #[.bool sr, (.slice Ar kr cr)] 24)) = W2 at *
  have ht := congrArg (fun t : List UInt8 => (⟨t.toArray⟩ : ByteArray)) (text_numD l HG.out).symm
  have HT := Lib.hid ht
  clear ht
  have c0x := B_x.out.c0
  have c1x := B_x.out.c1
  have c0r := B_r.out.c0
  have c1r := B_r.out.c1
  go_wp2
  have c0x := B_x.out.c0
  have c1x := B_x.out.c1
  have c0r := B_r.out.c0
  have c1r := B_r.out.c1
  have tk0 : True := trivial
  first | (go_region_held3 (fun w' => w'.cell? ⟨w2.heap.size, 0, none⟩ = some (.bool sx) ∧ w'.cell? ⟨w2.heap.size, 1, none⟩ = some (.slice Ax kx cx) ∧ w'.cell? ⟨w3.heap.size, 0, none⟩ = some (.bool sr) ∧ w'.cell? ⟨w3.heap.size, 1, none⟩ = some (.slice Ar kr cr)) (((try dsimp only); (repeat' apply And.intro) <;> (first | assumption | (refine Eq.trans (far2 (by omega) _ _) ?_; assumption) | go_keep)))
    (first
      | (have _t := tk0; clear _t tk0; go_at_call 21; refine (RNorm_rd (Rc.rd (Rc.below V_r.out (by exact ⟨rfl, rfl, rfl, Nat.le_refl _, fun _ _ => rfl⟩))) (by omega)).mono ?_; rintro e w4 ⟨vn, rfl, rn, bb⟩; replace bb := nextw (w0 := W2) (by exact ⟨rfl, rfl, rfl, Nat.le_refl _, fun _ _ => rfl⟩) bb; replace B_x := Lib.hid (Box.below B_x.out bb B_x.out.lt); replace B_r := Lib.hid (Box.below B_r.out bb B_r.out.lt); replace V_tab := Lib.hid (tab_below V_tab.out bb); replace V_x := Lib.hid (Rc.below V_x.out bb); replace V_r := Lib.hid (Rc.below V_r.out bb); replace HB := Lib.hid (nextw HB.out bb); clear bb; replace rn := Lib.hid rn; have V_n := rn; clear rn; have c0x := B_x.out.c0; have c1x := B_x.out.c1; have c0r := B_r.out.c0; have c1r := B_r.out.c1; have tk1 : True := trivial)
      | (have _t := tk1; clear _t tk1; go_at_call 20; refine (Same_rc (Rc.below V_x.out (by exact ⟨rfl, rfl, rfl, Nat.le_refl _, fun _ _ => rfl⟩)) (Rc.below V_n.out (by exact ⟨rfl, rfl, rfl, Nat.le_refl _, fun _ _ => rfl⟩)) (by omega) (by omega) (rfl)).mono ?_; rintro e w5 ⟨rfl, bb⟩; replace bb := nextw (w0 := w4) (by exact ⟨rfl, rfl, rfl, Nat.le_refl _, fun _ _ => rfl⟩) bb; clear V_n; replace B_x := Lib.hid (Box.below B_x.out bb B_x.out.lt); replace B_r := Lib.hid (Box.below B_r.out bb B_r.out.lt); replace V_tab := Lib.hid (tab_below V_tab.out bb); replace V_x := Lib.hid (Rc.below V_x.out bb); replace V_r := Lib.hid (Rc.below V_r.out bb); replace HB := Lib.hid (nextw HB.out bb); clear bb; have c0x := B_x.out.c0; have c1x := B_x.out.c1; have c0r := B_r.out.c0; have c1r := B_r.out.c1; have tk2 : True := trivial)
      | (have _t := tk2; clear _t tk2; go_at_call 31; refine (Text_text (Rc.rd (Rc.below V_x.out (by exact ⟨rfl, rfl, rfl, Nat.le_refl _, fun _ _ => rfl⟩))) (by omega) (tab_below V_tab.out (by exact ⟨rfl, rfl, rfl, Nat.le_refl _, fun _ _ => rfl⟩)) HT.out).mono ?_; rintro e w6 ⟨rfl, bb⟩; replace bb := nextw (w0 := w5) (by exact ⟨rfl, rfl, rfl, Nat.le_refl _, fun _ _ => rfl⟩) bb; replace B_x := Lib.hid (Box.below B_x.out bb B_x.out.lt); replace B_r := Lib.hid (Box.below B_r.out bb B_r.out.lt); replace V_tab := Lib.hid (tab_below V_tab.out bb); replace V_x := Lib.hid (Rc.below V_x.out bb); replace V_r := Lib.hid (Rc.below V_r.out bb); replace HB := Lib.hid (nextw HB.out bb); clear bb; have c0x := B_x.out.c0; have c1x := B_x.out.c1; have c0r := B_r.out.c0; have c1r := B_r.out.c1; have tk3 : True := trivial))) | fail
  have c0x := B_x.out.c0
  have c1x := B_x.out.c1
  have c0r := B_r.out.c0
  have c1r := B_r.out.c1
  have HBo := HB.out
  go_wp2
  go_ret
  exact ⟨rfl, nextw HBo (by exact ⟨rfl, rfl, rfl, Nat.le_refl _, fun _ _ => rfl⟩)⟩

theorem Parses_any (l : List UInt8) {w : World} (htab : Tab10 w) :
    Calls Tryd.prog 10 #[.string ⟨l.toArray⟩] w fun e w' => e = .returned (.bool true) ∧ Below w.heap.size w w' := by
  rcases Nat.lt_or_ge 2100 l.length with h | h
  · exact Parses_long l w htab h
  rcases Nat.lt_or_ge 2000 l.length with h2 | h2
  · exact Parses_full l w htab h2 h
  by_cases hg : goodD l
  · exact Parses_good l w htab h2 hg
  · exact Parses_bad l w htab h2 hg
theorem Parses_str (s : ByteArray) {w : World} (htab : Tab10 w) :
    Calls Tryd.prog 10 #[.string s] w fun e w' => e = .returned (.bool true) ∧ Below w.heap.size w w' := by
  obtain ⟨⟨l⟩⟩ := s
  exact Parses_any l htab
end Go.Proofs.YthfkahccnpkgjaaDoor
