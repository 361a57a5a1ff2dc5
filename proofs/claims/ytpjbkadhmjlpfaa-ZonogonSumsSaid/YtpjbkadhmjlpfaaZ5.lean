/- zonogon.reaches. -/
import Derived.Test.YtpjbkadhmjlpfaaZ4
set_option linter.unusedVariables false
set_option linter.unusedSimpArgs false
namespace Go.Proofs.Ytpjbkadhmjlpfaa
open Go Go.RowKit Hd

/-- At most 2^22. -/
def Sd (p : P2) : Prop := Wi p.1 4194304 ∧ Wi p.2 4194304
abbrev S2 := { p : P2 // Sd p }
instance : Inhabited S2 := ⟨⟨(0, 0), ⟨by decide, by decide⟩, by decide, by decide⟩⟩
/-- The list with its bounds. -/
def bnd (l : List P2) (h : ∀ p ∈ l, Sd p) : List S2 := l.pmap (fun p hp => ⟨p, hp⟩) h
theorem bnd_map (l : List P2) (h : ∀ p ∈ l, Sd p) : (bnd l h).map Subtype.val = l := by simp [bnd, List.map_pmap]
theorem bnd_any (l : List P2) (h : ∀ p ∈ l, Sd p) (q : P2 → Bool) : (bnd l h).any (fun x => q x.1) = l.any q := by
  conv => rhs; rw [← bnd_map l h]
  rw [List.any_map]; rfl
/-- Whether p is beyond the edge along g. -/
def beyB (l : List P2) (px py : Int) (g : P2) : Bool := decide (spr l (-g.2) g.1 < mg (dt (-g.2) g.1 px py))
/-- The point is reached. -/
def Rc (l : List P2) (px py : Int) : Prop := mg px ≤ spr l 1 0 ∧ mg py ≤ spr l 0 1 ∧ (l.any (beyB l px py)) = false
instance (l : List P2) (px py : Int) : Decidable (Rc l px py) := inferInstanceAs (Decidable (_ ∧ _ ∧ _))
theorem mg_le {a M : Int} (h : Wi a M) : mg a ≤ M := by unfold mg; obtain ⟨h1, h2⟩ := h; split <;> omega

set_option maxRecDepth 100000 in
set_option maxHeartbeats 4000000 in
theorem reachF (gx gy px py : Int) (P Q : Nat) (A : Option Addr) (n c : Nat) (l : List P2) (hn : n ≤ 1000) (hg : Sd (gx, gy)) (hp : Wi px 33554432 ∧ Wi py 33554432) (hl : ∀ p ∈ l, Sd p) (w : World) (B_p : Bx w (P) 39 #[.int .i64 px, .int .i64 py]) (B_q : Bx w (Q) 22 #[.slice A n c]) {lo_L hi_L : Nat} (L : PL w lo_L hi_L A n c l) :
    Calls Try.prog 78 #[.agg #[.int .i64 gx, .int .i64 gy], .pointer (some ⟨P, 0, none⟩), .pointer (some ⟨Q, 0, none⟩)] w fun e w' => e = .returned (.bool (beyB l px py (gx, gy))) ∧ Below w.heap.size w w' := by
  have g11 := hg.1.1
  have g12 := hg.1.2
  have g21 := hg.2.1
  have g22 := hg.2.2
  have hg1 : Wi gx 4194304 := hg.1
  have hn1 : Wi (-gy) 4194304 := ⟨by omega, by omega⟩
  have HM := Lib.hid (pm_of (M := 4194304) hn1 hg1 hl (by decide))
  have p1 := wi_mul hn1 hp.1
  have p2 := wi_mul hg1 hp.2
  have p11 := p1.1
  have p12 := p1.2
  have p21 := p2.1
  have p22 := p2.2
  have HD := Lib.hid (fun w => dot_is (-gy) gx px py ⟨by omega, by omega⟩ ⟨by omega, by omega⟩ w)
  have HG := Lib.hid (fun w => magnitude_is (dt (-gy) gx px py) ⟨by unfold dt; omega, by unfold dt; omega⟩ w)
  unfold beyB
  dsimp only
  clear p11 p12 p21 p22 p1 p2 hn1 hp hl hg hg1
  generalize dt (-gy) gx px py = d at *
  generalize mg d = m at *
  replace B_p := Lib.hid B_p
  replace B_q := Lib.hid B_q
  replace L := Lib.hid L
  obtain ⟨HB, B_z0⟩ := box1 w 39 #[.int .i64 gx, .int .i64 gy]
  replace L := plm L HB.out
  replace B_p := mv B_p HB.out
  replace B_q := mv B_q HB.out
  go_enter Try.func78, Try.ntmps78
  go_upto_region 1 with (fail)
  generalize w.alloc (.cells #[.int .i64 gx, .int .i64 gy] 39) = W0 at *
  obtain ⟨c0z0, c1z0⟩ := cells2 B_z0
  have ew : IntKind.i64.wrap (-gy) = -gy := by rw [IntKind.wrap_i64]; omega
  have lt_nmz0 := B_z0.out.lt
  have lt_nmp := B_p.out.lt
  have lt_nmq := B_q.out.lt
  obtain ⟨bb, B_nm⟩ := box1 W0 39 #[.int .i64 (-gy), .int .i64 gx]
  replace bb := bb.out
  replace B_z0 := mv B_z0 bb
  replace B_p := mv B_p bb
  replace B_q := mv B_q bb
  replace L := Lib.hid (PL.below L.out bb)
  replace HB := nx HB bb
  clear bb
  go_upto_region 2 with (fail)
  clear c0z0 c1z0
  generalize W0.alloc (.cells #[.int .i64 (-gy), .int .i64 gx] 39) = WN at *
  go_wp2_with fail
  obtain ⟨c0nm, c1nm⟩ := cells2 B_nm
  obtain ⟨c0p, c1p⟩ := cells2 B_p
  obtain c0q := cells1 B_q
  have tk1x0 : True := trivial
  go_region_held3 (fun w' => w'.cell? ⟨W0.heap.size, 0, none⟩ = some (.int .i64 (-gy)) ∧ w'.cell? ⟨W0.heap.size, 1, none⟩ = some (.int .i64 gx) ∧ w'.cell? ⟨P, 0, none⟩ = some (.int .i64 px) ∧ w'.cell? ⟨P, 1, none⟩ = some (.int .i64 py) ∧ w'.cell? ⟨Q, 0, none⟩ = some (.slice A n c)) (((try dsimp only); (repeat' apply And.intro) <;> (first | (with_reducible assumption) | ((repeat (first | (with_reducible refine Eq.trans (cell_drew1 _ _) ?_) | (with_reducible refine Eq.trans (cell_far (by omega) _ _ _) ?_) | (with_reducible refine Eq.trans (World.cell?_alloc_lt _ _ _ (by first | (dsimp only; omega) | (simp only [World.size_alloc, World.size_setCell]; omega))) ?_))); with_reducible assumption) | assumption | go_keep)))
    (first
      | (clear tk1x0; go_at_call 64; refine (HD.out _).mono ?_; rintro e w1 ⟨rfl, bb⟩; replace bb := nextw (w0 := WN) (by exact sm) bb; replace B_z0 := mv B_z0 bb; replace B_p := mv B_p bb; replace B_q := mv B_q bb; replace B_nm := mv B_nm bb; replace L := Lib.hid (PL.below L.out bb); replace HB := nx HB bb; clear bb c0nm c1nm c0p c1p c0q; have c0nm : w1.cell? ⟨W0.heap.size, 0, none⟩ = some (.int .i64 (-gy)) := B_nm.out.cell 0 rfl; have c1nm : w1.cell? ⟨W0.heap.size, 1, none⟩ = some (.int .i64 gx) := B_nm.out.cell 1 rfl; have c0p : w1.cell? ⟨P, 0, none⟩ = some (.int .i64 px) := B_p.out.cell 0 rfl; have c1p : w1.cell? ⟨P, 1, none⟩ = some (.int .i64 py) := B_p.out.cell 1 rfl; have c0q : w1.cell? ⟨Q, 0, none⟩ = some (.slice A n c) := B_q.out.cell 0 rfl; have tk1x1 : True := trivial)
      | (clear tk1x1; go_at_call 52; refine (HG.out _).mono ?_; rintro e w2 ⟨rfl, bb⟩; replace bb := nextw (w0 := w1) (by exact sm) bb; replace B_z0 := mv B_z0 bb; replace B_p := mv B_p bb; replace B_q := mv B_q bb; replace B_nm := mv B_nm bb; replace L := Lib.hid (PL.below L.out bb); replace HB := nx HB bb; clear bb c0nm c1nm c0p c1p c0q; have c0nm : w2.cell? ⟨W0.heap.size, 0, none⟩ = some (.int .i64 (-gy)) := B_nm.out.cell 0 rfl; have c1nm : w2.cell? ⟨W0.heap.size, 1, none⟩ = some (.int .i64 gx) := B_nm.out.cell 1 rfl; have c0p : w2.cell? ⟨P, 0, none⟩ = some (.int .i64 px) := B_p.out.cell 0 rfl; have c1p : w2.cell? ⟨P, 1, none⟩ = some (.int .i64 py) := B_p.out.cell 1 rfl; have c0q : w2.cell? ⟨Q, 0, none⟩ = some (.slice A n c) := B_q.out.cell 0 rfl; have tk1x2 : True := trivial)
      | (clear tk1x2; go_at_call 46; refine (spread_is _ _ _ l (-gy) gx hn HM.out _ (PL.below L.out (by exact sm))).mono ?_; rintro e w3 ⟨rfl, bb⟩; replace bb := nextw (w0 := w2) (by exact sm) bb; replace B_z0 := mv B_z0 bb; replace B_p := mv B_p bb; replace B_q := mv B_q bb; replace B_nm := mv B_nm bb; replace L := Lib.hid (PL.below L.out bb); replace HB := nx HB bb; clear bb c0nm c1nm c0p c1p c0q; have c0nm : w3.cell? ⟨W0.heap.size, 0, none⟩ = some (.int .i64 (-gy)) := B_nm.out.cell 0 rfl; have c1nm : w3.cell? ⟨W0.heap.size, 1, none⟩ = some (.int .i64 gx) := B_nm.out.cell 1 rfl; have c0p : w3.cell? ⟨P, 0, none⟩ = some (.int .i64 px) := B_p.out.cell 0 rfl; have c1p : w3.cell? ⟨P, 1, none⟩ = some (.int .i64 py) := B_p.out.cell 1 rfl; have c0q : w3.cell? ⟨Q, 0, none⟩ = some (.slice A n c) := B_q.out.cell 0 rfl; have tk1x3 : True := trivial))
  clear c0nm c1nm c0p c1p c0q
  go_wp2
  go_ret
  exact ⟨rfl, nextw HB.out (by exact sm)⟩

theorem reachF_eg : ∀ args w, (callFunc 78 args).run Try.prog w = .ok (.enter 78 args) w := enters_of Try.func78 (by kernel_rfl) rfl
theorem reachC (px py : Int) (P Q : Nat) (A : Option Addr) (n c : Nat) (l : List P2) (hn : n ≤ 1000) (hp : Wi px 33554432 ∧ Wi py 33554432) (hl : ∀ p ∈ l, Sd p) (w : World) (B_p : Bx w (P) 39 #[.int .i64 px, .int .i64 py]) (B_q : Bx w (Q) 22 #[.slice A n c]) {lo_L hi_L : Nat} (L : PL w lo_L hi_L A n c l) :
    Calls Try.prog 48 #[.slice A n c, .func (.func 78) #[] #[.pointer (some ⟨P, 0, none⟩), .pointer (some ⟨Q, 0, none⟩)]] w fun e w' => e = .returned (.bool (l.any (beyB l px py))) ∧ Below w.heap.size w w' := by
  have h := ContainsF_any (fun x : S2 => x.1) (fun x => beyB l px py x.1) _ #[.pointer (some ⟨P, 0, none⟩), .pointer (some ⟨Q, 0, none⟩)] reachF_eg (bnd l hl) w (by rw [bnd_map]; exact L) (by omega) (fun W x hb => (reachF x.1.1 x.1.2 px py P Q A n c l hn x.2 hp hl W (B_p.below hb B_p.lt) (B_q.below hb B_q.lt) (L.below hb)).mono fun e w' ⟨he, hb'⟩ => ⟨he, hb.trans (hb'.mono hb.size)⟩)
  rw [bnd_any] at h
  exact h

set_option maxRecDepth 100000 in
set_option maxHeartbeats 4000000 in
theorem reaches_w0 (px py : Int) (A : Option Addr) (n c : Nat) (l : List P2)  (hn : n ≤ 1000) (hp : Wi px 33554432 ∧ Wi py 33554432) (hl : ∀ p ∈ l, Sd p) (dd0 : (spr l 1 0) < (mg px)) (w : World) {lo_L hi_L : Nat} (L : PL w lo_L hi_L A n c l) :
    Calls Try.prog 63 #[.slice A n c, .agg #[.int .i64 px, .int .i64 py]] w fun e w' => e = .returned (.bool false) ∧ Below w.heap.size w w' := by
  have p11 := hp.1.1
  have p12 := hp.1.2
  have p21 := hp.2.1
  have p22 := hp.2.2
  have H10 := Lib.hid (pm_of (nx := 1) (ny := 0) (N := 1) (M := 4194304) (by decide) (by decide) hl (by decide))
  have H01 := Lib.hid (pm_of (nx := 0) (ny := 1) (N := 1) (M := 4194304) (by decide) (by decide) hl (by decide))
  replace hl := Lib.hid hl
  replace L := Lib.hid L
  have H0 := Lib.hid (fun w => magnitude_is px (by first | assumption | (exact ⟨by omega, by omega⟩)) w)
  obtain ⟨HB, B_z0, B_z1⟩ := box2 w 22 #[.slice A n c] 39 #[.int .i64 px, .int .i64 py]
  replace L := Lib.hid (PL.below L.out HB.out)
  go_enter Try.func63, Try.ntmps63
  go_upto_region 1 with (fail)
  generalize (w.alloc (.cells #[.slice A n c] 22)).alloc (.cells #[.int .i64 px, .int .i64 py] 39) = W0 at *
  have od0 : decide ((spr l 1 0) < (mg px)) = true := decide_eq_true (by omega)
  obtain ⟨c0z1, -⟩ := cells2 B_z1
  obtain c0z0 := cells1 B_z0
  refine wp_region_held_drew (S := fun w' => w'.cell? ⟨w.heap.size + 1, 0, none⟩ = some (.int .i64 px) ∧ w'.cell? ⟨w.heap.size, 0, none⟩ = some (.slice A n c)) (by kernel_rfl) ?_ (fun hH1x0 => ?_)
  · ((try dsimp only); (repeat' apply And.intro) <;> (first | (with_reducible assumption) | ((repeat (first | (with_reducible refine Eq.trans (cell_drew1 _ _) ?_) | (with_reducible refine Eq.trans (cell_far (by omega) _ _ _) ?_) | (with_reducible refine Eq.trans (World.cell?_alloc_lt _ _ _ (by first | (dsimp only; omega) | (simp only [World.size_alloc, World.size_setCell]; omega))) ?_))); with_reducible assumption) | assumption | go_keep))
  refine wpAnyH_take (i := 0) (v := ?hv1x0) rfl (by kernel_rfl) (by kernel_rfl) (by kernel_rfl) (fun _ _ _ h => h) (Or.inl ⟨by kernel_rfl, ?hy1x0⟩) (by assumption) ?hr1x0
  case hy1x0 => (intro w hSw; (try dsimp only at hSw); go_simp <;> with_reducible rfl)
  simp only [Act.put, List.setIfInBounds_toArray, List.set_cons_zero, List.set_cons_succ, List.getElem_toArray, List.getElem_cons_zero, List.getElem_cons_succ]
  refine wpAnyH_take (i := 1) (v := ?hv1x1) rfl (by kernel_rfl) (by kernel_rfl) (by kernel_rfl) (fun _ _ _ h => h) (Or.inl ⟨by kernel_rfl, ?hy1x1⟩) (by assumption) ?hr1x1
  case hy1x1 => (intro w hSw; (try dsimp only at hSw); go_simp <;> with_reducible rfl)
  simp only [Act.put, List.setIfInBounds_toArray, List.set_cons_zero, List.set_cons_succ, List.getElem_toArray, List.getElem_cons_zero, List.getElem_cons_succ]
  refine wpAnyH_take (i := 3) (v := ?hv1x3) rfl (by kernel_rfl) (by kernel_rfl) (by kernel_rfl) (fun _ _ _ h => h) (Or.inl ⟨by kernel_rfl, ?hy1x3⟩) (by assumption) ?hr1x3
  case hy1x3 => (intro w hSw; (try dsimp only at hSw); go_simp <;> with_reducible rfl)
  simp only [Act.put, List.setIfInBounds_toArray, List.set_cons_zero, List.set_cons_succ, List.getElem_toArray, List.getElem_cons_zero, List.getElem_cons_succ]
  refine wpAnyH_take (i := 4) (v := ?hv1x4) rfl (by kernel_rfl) (by kernel_rfl) (by kernel_rfl) (fun _ _ _ h => h) (Or.inl ⟨by kernel_rfl, ?hy1x4⟩) (by assumption) ?hr1x4
  case hy1x4 => (intro w hSw; (try dsimp only at hSw); go_simp <;> with_reducible rfl)
  simp only [Act.put, List.setIfInBounds_toArray, List.set_cons_zero, List.set_cons_succ, List.getElem_toArray, List.getElem_cons_zero, List.getElem_cons_succ]
  refine wpAnyH_ready (rs := [2]) (by kernel_rfl) (by simp) ?_
  refine AllReadyH.cons rfl (fun K hK => ?_) AllReadyH.nil
  go_simp
  go_at_call 52
  refine (H0.out _).mono ?_
  rintro e w1 ⟨rfl, bb⟩
  replace bb := nextw (w0 := W0) (by exact sm) bb
  replace B_z0 := mv B_z0 bb
  replace B_z1 := mv B_z1 bb
  replace L := Lib.hid (PL.below L.out bb)
  replace HB := nx HB bb
  clear bb c0z1 c0z0
  have c0z1 : w1.cell? ⟨w.heap.size + 1, 0, none⟩ = some (.int .i64 px) := B_z1.out.cell 0 rfl
  have c0z0 : w1.cell? ⟨w.heap.size, 0, none⟩ = some (.slice A n c) := B_z0.out.cell 0 rfl
  go_wp2_with fail
  refine hK.out _ _ ?_ (fun hH1x1 => ?_)
  · ((try dsimp only); (repeat' apply And.intro) <;> (first | (with_reducible assumption) | ((repeat (first | (with_reducible refine Eq.trans (cell_drew1 _ _) ?_) | (with_reducible refine Eq.trans (cell_far (by omega) _ _ _) ?_) | (with_reducible refine Eq.trans (World.cell?_alloc_lt _ _ _ (by first | (dsimp only; omega) | (simp only [World.size_alloc, World.size_setCell]; omega))) ?_))); with_reducible assumption) | assumption | go_keep))
  clear hK K hH1x0
  try simp only [Act.put, List.setIfInBounds_toArray, List.set_cons_zero, List.set_cons_succ, List.getElem_toArray, List.getElem_cons_zero, List.getElem_cons_succ]
  refine wpAnyH_ready (rs := [5]) (by kernel_rfl) (by simp) ?_
  refine AllReadyH.cons rfl (fun K hK => ?_) AllReadyH.nil
  go_simp
  go_at_call 46
  refine (spread_is _ _ _ l 1 0 (by omega) H10.out _ (PL.below L.out (by exact sm))).mono ?_
  rintro e w2 ⟨rfl, bb⟩
  replace bb := nextw (w0 := w1) (by exact sm) bb
  replace B_z0 := mv B_z0 bb
  replace B_z1 := mv B_z1 bb
  replace L := Lib.hid (PL.below L.out bb)
  replace HB := nx HB bb
  clear bb c0z1 c0z0
  have c0z1 : w2.cell? ⟨w.heap.size + 1, 0, none⟩ = some (.int .i64 px) := B_z1.out.cell 0 rfl
  have c0z0 : w2.cell? ⟨w.heap.size, 0, none⟩ = some (.slice A n c) := B_z0.out.cell 0 rfl
  go_wp2_with fail
  refine hK.out _ _ ?_ (fun hH1x2 => ?_)
  · ((try dsimp only); (repeat' apply And.intro) <;> (first | (with_reducible assumption) | ((repeat (first | (with_reducible refine Eq.trans (cell_drew1 _ _) ?_) | (with_reducible refine Eq.trans (cell_far (by omega) _ _ _) ?_) | (with_reducible refine Eq.trans (World.cell?_alloc_lt _ _ _ (by first | (dsimp only; omega) | (simp only [World.size_alloc, World.size_setCell]; omega))) ?_))); with_reducible assumption) | assumption | go_keep))
  clear hK K hH1x1
  try simp only [Act.put, List.setIfInBounds_toArray, List.set_cons_zero, List.set_cons_succ, List.getElem_toArray, List.getElem_cons_zero, List.getElem_cons_succ]
  refine wpAnyH_take (i := 6) (v := ?hv1x6) rfl (by kernel_rfl) (by kernel_rfl) (by kernel_rfl) (fun _ _ _ h => h) (Or.inl ⟨by kernel_rfl, ?hy1x6⟩) (by assumption) ?hr1x6
  case hy1x6 => (intro w hSw; (try dsimp only at hSw); go_simp <;> with_reducible rfl)
  simp only [Act.put, List.setIfInBounds_toArray, List.set_cons_zero, List.set_cons_succ, List.getElem_toArray, List.getElem_cons_zero, List.getElem_cons_succ]
  refine wpAnyH_take (i := 7) (v := ?hv1x7) rfl (by kernel_rfl) (by kernel_rfl) (by kernel_rfl) (fun _ _ _ h => h) (Or.inl ⟨by kernel_rfl, ?hy1x7⟩) (by assumption) ?hr1x7
  case hy1x7 => (intro w hSw; (try dsimp only at hSw); go_simp <;> with_reducible rfl)
  simp only [Act.put, List.setIfInBounds_toArray, List.set_cons_zero, List.set_cons_succ, List.getElem_toArray, List.getElem_cons_zero, List.getElem_cons_succ]
  refine wpAnyH_take (i := 8) (v := undef) rfl (by kernel_rfl) (by kernel_rfl) (by kernel_rfl) (fun _ _ _ h => h) (Or.inr ⟨by kernel_rfl, rfl⟩) (by assumption) ?_
  simp only [Act.put, List.setIfInBounds_toArray, List.set_cons_zero, List.set_cons_succ, List.getElem_toArray, List.getElem_cons_zero, List.getElem_cons_succ]
  refine wpAnyH_take (i := 9) (v := undef) rfl (by kernel_rfl) (by kernel_rfl) (by kernel_rfl) (fun _ _ _ h => h) (Or.inr ⟨by kernel_rfl, rfl⟩) (by assumption) ?_
  simp only [Act.put, List.setIfInBounds_toArray, List.set_cons_zero, List.set_cons_succ, List.getElem_toArray, List.getElem_cons_zero, List.getElem_cons_succ]
  refine wpAnyH_take (i := 10) (v := undef) rfl (by kernel_rfl) (by kernel_rfl) (by kernel_rfl) (fun _ _ _ h => h) (Or.inr ⟨by kernel_rfl, rfl⟩) (by assumption) ?_
  simp only [Act.put, List.setIfInBounds_toArray, List.set_cons_zero, List.set_cons_succ, List.getElem_toArray, List.getElem_cons_zero, List.getElem_cons_succ]
  refine wpAnyH_take (i := 11) (v := undef) rfl (by kernel_rfl) (by kernel_rfl) (by kernel_rfl) (fun _ _ _ h => h) (Or.inr ⟨by kernel_rfl, rfl⟩) (by assumption) ?_
  simp only [Act.put, List.setIfInBounds_toArray, List.set_cons_zero, List.set_cons_succ, List.getElem_toArray, List.getElem_cons_zero, List.getElem_cons_succ]
  refine wpAnyH_take (i := 12) (v := undef) rfl (by kernel_rfl) (by kernel_rfl) (by kernel_rfl) (fun _ _ _ h => h) (Or.inr ⟨by kernel_rfl, rfl⟩) (by assumption) ?_
  simp only [Act.put, List.setIfInBounds_toArray, List.set_cons_zero, List.set_cons_succ, List.getElem_toArray, List.getElem_cons_zero, List.getElem_cons_succ]
  refine wpAnyH_take (i := 13) (v := undef) rfl (by kernel_rfl) (by kernel_rfl) (by kernel_rfl) (fun _ _ _ h => h) (Or.inr ⟨by kernel_rfl, rfl⟩) (by assumption) ?_
  simp only [Act.put, List.setIfInBounds_toArray, List.set_cons_zero, List.set_cons_succ, List.getElem_toArray, List.getElem_cons_zero, List.getElem_cons_succ]
  refine wpAnyH_take (i := 14) (v := undef) rfl (by kernel_rfl) (by kernel_rfl) (by kernel_rfl) (fun _ _ _ h => h) (Or.inr ⟨by kernel_rfl, rfl⟩) (by assumption) ?_
  simp only [Act.put, List.setIfInBounds_toArray, List.set_cons_zero, List.set_cons_succ, List.getElem_toArray, List.getElem_cons_zero, List.getElem_cons_succ]
  refine wpAnyH_take (i := 15) (v := ?hv1x15) rfl (by kernel_rfl) (by kernel_rfl) (by kernel_rfl) (fun _ _ _ h => h) (Or.inl ⟨by kernel_rfl, ?hy1x15⟩) (by assumption) ?hr1x15
  case hy1x15 => (intro w hSw; (try dsimp only at hSw); go_simp <;> with_reducible rfl)
  simp only [Act.put, List.setIfInBounds_toArray, List.set_cons_zero, List.set_cons_succ, List.getElem_toArray, List.getElem_cons_zero, List.getElem_cons_succ]
  refine wpAnyH_done (by kernel_rfl) ?_ _
  clear hH1x2
  clear c0z1 c0z0
  go_wp2
  go_ret
  exact ⟨(by first | rfl | exact rbt (by omega) | exact rbf (by omega)), nextw HB.out (by exact sm)⟩

set_option maxRecDepth 100000 in
set_option maxHeartbeats 4000000 in
theorem reaches_w1 (px py : Int) (A : Option Addr) (n c : Nat) (l : List P2)  (hn : n ≤ 1000) (hp : Wi px 33554432 ∧ Wi py 33554432) (hl : ∀ p ∈ l, Sd p) (dd0 : (mg px) ≤ (spr l 1 0)) (dd1 : (spr l 0 1) < (mg py)) (w : World) {lo_L hi_L : Nat} (L : PL w lo_L hi_L A n c l) :
    Calls Try.prog 63 #[.slice A n c, .agg #[.int .i64 px, .int .i64 py]] w fun e w' => e = .returned (.bool false) ∧ Below w.heap.size w w' := by
  have p11 := hp.1.1
  have p12 := hp.1.2
  have p21 := hp.2.1
  have p22 := hp.2.2
  have H10 := Lib.hid (pm_of (nx := 1) (ny := 0) (N := 1) (M := 4194304) (by decide) (by decide) hl (by decide))
  have H01 := Lib.hid (pm_of (nx := 0) (ny := 1) (N := 1) (M := 4194304) (by decide) (by decide) hl (by decide))
  replace hl := Lib.hid hl
  replace L := Lib.hid L
  have H0 := Lib.hid (fun w => magnitude_is px (by first | assumption | (exact ⟨by omega, by omega⟩)) w)
  have H2 := Lib.hid (fun w => magnitude_is py (by first | assumption | (exact ⟨by omega, by omega⟩)) w)
  obtain ⟨HB, B_z0, B_z1⟩ := box2 w 22 #[.slice A n c] 39 #[.int .i64 px, .int .i64 py]
  replace L := Lib.hid (PL.below L.out HB.out)
  go_enter Try.func63, Try.ntmps63
  go_upto_region 1 with (fail)
  generalize (w.alloc (.cells #[.slice A n c] 22)).alloc (.cells #[.int .i64 px, .int .i64 py] 39) = W0 at *
  have od0 : decide ((spr l 1 0) < (mg px)) = false := decide_eq_false (by omega)
  obtain ⟨c0z1, c1z1⟩ := cells2 B_z1
  obtain c0z0 := cells1 B_z0
  have tk1x0 : True := trivial
  go_region_held3 (fun w' => w'.cell? ⟨w.heap.size + 1, 0, none⟩ = some (.int .i64 px) ∧ w'.cell? ⟨w.heap.size + 1, 1, none⟩ = some (.int .i64 py) ∧ w'.cell? ⟨w.heap.size, 0, none⟩ = some (.slice A n c)) (((try dsimp only); (repeat' apply And.intro) <;> (first | (with_reducible assumption) | ((repeat (first | (with_reducible refine Eq.trans (cell_drew1 _ _) ?_) | (with_reducible refine Eq.trans (cell_far (by omega) _ _ _) ?_) | (with_reducible refine Eq.trans (World.cell?_alloc_lt _ _ _ (by first | (dsimp only; omega) | (simp only [World.size_alloc, World.size_setCell]; omega))) ?_))); with_reducible assumption) | assumption | go_keep)))
    (first
      | (clear tk1x0; go_at_call 52; refine (H0.out _).mono ?_; rintro e w1 ⟨rfl, bb⟩; replace bb := nextw (w0 := W0) (by exact sm) bb; replace B_z0 := mv B_z0 bb; replace B_z1 := mv B_z1 bb; replace L := Lib.hid (PL.below L.out bb); replace HB := nx HB bb; clear bb c0z1 c1z1 c0z0; have c0z1 : w1.cell? ⟨w.heap.size + 1, 0, none⟩ = some (.int .i64 px) := B_z1.out.cell 0 rfl; have c1z1 : w1.cell? ⟨w.heap.size + 1, 1, none⟩ = some (.int .i64 py) := B_z1.out.cell 1 rfl; have c0z0 : w1.cell? ⟨w.heap.size, 0, none⟩ = some (.slice A n c) := B_z0.out.cell 0 rfl; have tk1x1 : True := trivial)
      | (clear tk1x1; go_at_call 46; refine (spread_is _ _ _ l 1 0 (by omega) H10.out _ (PL.below L.out (by exact sm))).mono ?_; rintro e w2 ⟨rfl, bb⟩; replace bb := nextw (w0 := w1) (by exact sm) bb; replace B_z0 := mv B_z0 bb; replace B_z1 := mv B_z1 bb; replace L := Lib.hid (PL.below L.out bb); replace HB := nx HB bb; clear bb c0z1 c1z1 c0z0; have c0z1 : w2.cell? ⟨w.heap.size + 1, 0, none⟩ = some (.int .i64 px) := B_z1.out.cell 0 rfl; have c1z1 : w2.cell? ⟨w.heap.size + 1, 1, none⟩ = some (.int .i64 py) := B_z1.out.cell 1 rfl; have c0z0 : w2.cell? ⟨w.heap.size, 0, none⟩ = some (.slice A n c) := B_z0.out.cell 0 rfl; have tk1x2 : True := trivial)
      | (clear tk1x2; go_at_call 52; refine (H2.out _).mono ?_; rintro e w3 ⟨rfl, bb⟩; replace bb := nextw (w0 := w2) (by exact sm) bb; replace B_z0 := mv B_z0 bb; replace B_z1 := mv B_z1 bb; replace L := Lib.hid (PL.below L.out bb); replace HB := nx HB bb; clear bb c0z1 c1z1 c0z0; have c0z1 : w3.cell? ⟨w.heap.size + 1, 0, none⟩ = some (.int .i64 px) := B_z1.out.cell 0 rfl; have c1z1 : w3.cell? ⟨w.heap.size + 1, 1, none⟩ = some (.int .i64 py) := B_z1.out.cell 1 rfl; have c0z0 : w3.cell? ⟨w.heap.size, 0, none⟩ = some (.slice A n c) := B_z0.out.cell 0 rfl; have tk1x3 : True := trivial)
      | (clear tk1x3; go_at_call 46; refine (spread_is _ _ _ l 0 1 (by omega) H01.out _ (PL.below L.out (by exact sm))).mono ?_; rintro e w4 ⟨rfl, bb⟩; replace bb := nextw (w0 := w3) (by exact sm) bb; replace B_z0 := mv B_z0 bb; replace B_z1 := mv B_z1 bb; replace L := Lib.hid (PL.below L.out bb); replace HB := nx HB bb; clear bb c0z1 c1z1 c0z0; have c0z1 : w4.cell? ⟨w.heap.size + 1, 0, none⟩ = some (.int .i64 px) := B_z1.out.cell 0 rfl; have c1z1 : w4.cell? ⟨w.heap.size + 1, 1, none⟩ = some (.int .i64 py) := B_z1.out.cell 1 rfl; have c0z0 : w4.cell? ⟨w.heap.size, 0, none⟩ = some (.slice A n c) := B_z0.out.cell 0 rfl; have tk1x4 : True := trivial))
  clear c0z1 c1z1 c0z0
  go_wp2
  go_ret
  exact ⟨(by first | rfl | exact rbt (by omega) | exact rbf (by omega)), nextw HB.out (by exact sm)⟩

set_option maxRecDepth 100000 in
set_option maxHeartbeats 4000000 in
theorem reaches_w2 (px py : Int) (A : Option Addr) (n c : Nat) (l : List P2)  (hn : n ≤ 1000) (hp : Wi px 33554432 ∧ Wi py 33554432) (hl : ∀ p ∈ l, Sd p) (dd0 : (mg px) ≤ (spr l 1 0)) (dd1 : (mg py) ≤ (spr l 0 1)) (w : World) {lo_L hi_L : Nat} (L : PL w lo_L hi_L A n c l) :
    Calls Try.prog 63 #[.slice A n c, .agg #[.int .i64 px, .int .i64 py]] w fun e w' => e = .returned (.bool (!(l.any (beyB l px py)))) ∧ Below w.heap.size w w' := by
  have p11 := hp.1.1
  have p12 := hp.1.2
  have p21 := hp.2.1
  have p22 := hp.2.2
  have H10 := Lib.hid (pm_of (nx := 1) (ny := 0) (N := 1) (M := 4194304) (by decide) (by decide) hl (by decide))
  have H01 := Lib.hid (pm_of (nx := 0) (ny := 1) (N := 1) (M := 4194304) (by decide) (by decide) hl (by decide))
  replace hl := Lib.hid hl
  replace L := Lib.hid L
  have H0 := Lib.hid (fun w => magnitude_is px (by first | assumption | (exact ⟨by omega, by omega⟩)) w)
  have H2 := Lib.hid (fun w => magnitude_is py (by first | assumption | (exact ⟨by omega, by omega⟩)) w)
  obtain ⟨HB, B_z0, B_z1⟩ := box2 w 22 #[.slice A n c] 39 #[.int .i64 px, .int .i64 py]
  replace L := Lib.hid (PL.below L.out HB.out)
  go_enter Try.func63, Try.ntmps63
  go_upto_region 1 with (fail)
  generalize (w.alloc (.cells #[.slice A n c] 22)).alloc (.cells #[.int .i64 px, .int .i64 py] 39) = W0 at *
  have od0 : decide ((spr l 1 0) < (mg px)) = false := decide_eq_false (by omega)
  obtain ⟨c0z1, c1z1⟩ := cells2 B_z1
  obtain c0z0 := cells1 B_z0
  have tk1x0 : True := trivial
  go_region_held3 (fun w' => w'.cell? ⟨w.heap.size + 1, 0, none⟩ = some (.int .i64 px) ∧ w'.cell? ⟨w.heap.size + 1, 1, none⟩ = some (.int .i64 py) ∧ w'.cell? ⟨w.heap.size, 0, none⟩ = some (.slice A n c)) (((try dsimp only); (repeat' apply And.intro) <;> (first | (with_reducible assumption) | ((repeat (first | (with_reducible refine Eq.trans (cell_drew1 _ _) ?_) | (with_reducible refine Eq.trans (cell_far (by omega) _ _ _) ?_) | (with_reducible refine Eq.trans (World.cell?_alloc_lt _ _ _ (by first | (dsimp only; omega) | (simp only [World.size_alloc, World.size_setCell]; omega))) ?_))); with_reducible assumption) | assumption | go_keep)))
    (first
      | (clear tk1x0; go_at_call 52; refine (H0.out _).mono ?_; rintro e w1 ⟨rfl, bb⟩; replace bb := nextw (w0 := W0) (by exact sm) bb; replace B_z0 := mv B_z0 bb; replace B_z1 := mv B_z1 bb; replace L := Lib.hid (PL.below L.out bb); replace HB := nx HB bb; clear bb c0z1 c1z1 c0z0; have c0z1 : w1.cell? ⟨w.heap.size + 1, 0, none⟩ = some (.int .i64 px) := B_z1.out.cell 0 rfl; have c1z1 : w1.cell? ⟨w.heap.size + 1, 1, none⟩ = some (.int .i64 py) := B_z1.out.cell 1 rfl; have c0z0 : w1.cell? ⟨w.heap.size, 0, none⟩ = some (.slice A n c) := B_z0.out.cell 0 rfl; have tk1x1 : True := trivial)
      | (clear tk1x1; go_at_call 46; refine (spread_is _ _ _ l 1 0 (by omega) H10.out _ (PL.below L.out (by exact sm))).mono ?_; rintro e w2 ⟨rfl, bb⟩; replace bb := nextw (w0 := w1) (by exact sm) bb; replace B_z0 := mv B_z0 bb; replace B_z1 := mv B_z1 bb; replace L := Lib.hid (PL.below L.out bb); replace HB := nx HB bb; clear bb c0z1 c1z1 c0z0; have c0z1 : w2.cell? ⟨w.heap.size + 1, 0, none⟩ = some (.int .i64 px) := B_z1.out.cell 0 rfl; have c1z1 : w2.cell? ⟨w.heap.size + 1, 1, none⟩ = some (.int .i64 py) := B_z1.out.cell 1 rfl; have c0z0 : w2.cell? ⟨w.heap.size, 0, none⟩ = some (.slice A n c) := B_z0.out.cell 0 rfl; have tk1x2 : True := trivial)
      | (clear tk1x2; go_at_call 52; refine (H2.out _).mono ?_; rintro e w3 ⟨rfl, bb⟩; replace bb := nextw (w0 := w2) (by exact sm) bb; replace B_z0 := mv B_z0 bb; replace B_z1 := mv B_z1 bb; replace L := Lib.hid (PL.below L.out bb); replace HB := nx HB bb; clear bb c0z1 c1z1 c0z0; have c0z1 : w3.cell? ⟨w.heap.size + 1, 0, none⟩ = some (.int .i64 px) := B_z1.out.cell 0 rfl; have c1z1 : w3.cell? ⟨w.heap.size + 1, 1, none⟩ = some (.int .i64 py) := B_z1.out.cell 1 rfl; have c0z0 : w3.cell? ⟨w.heap.size, 0, none⟩ = some (.slice A n c) := B_z0.out.cell 0 rfl; have tk1x3 : True := trivial)
      | (clear tk1x3; go_at_call 46; refine (spread_is _ _ _ l 0 1 (by omega) H01.out _ (PL.below L.out (by exact sm))).mono ?_; rintro e w4 ⟨rfl, bb⟩; replace bb := nextw (w0 := w3) (by exact sm) bb; replace B_z0 := mv B_z0 bb; replace B_z1 := mv B_z1 bb; replace L := Lib.hid (PL.below L.out bb); replace HB := nx HB bb; clear bb c0z1 c1z1 c0z0; have c0z1 : w4.cell? ⟨w.heap.size + 1, 0, none⟩ = some (.int .i64 px) := B_z1.out.cell 0 rfl; have c1z1 : w4.cell? ⟨w.heap.size + 1, 1, none⟩ = some (.int .i64 py) := B_z1.out.cell 1 rfl; have c0z0 : w4.cell? ⟨w.heap.size, 0, none⟩ = some (.slice A n c) := B_z0.out.cell 0 rfl; have tk1x4 : True := trivial))
  clear c0z1 c1z1 c0z0
  obtain c0z0 := cells1 B_z0
  go_wp2_with fail
  refine (reachC px py _ _ _ _ _ l hn hp hl.out _ B_z1.out B_z0.out (PL.below L.out (by exact sm))).mono ?_
  clear c0z0
  rintro e w5 ⟨rfl, bb⟩
  replace bb := nextw (w0 := w4) (by exact sm) bb
  replace B_z0 := mv B_z0 bb
  replace B_z1 := mv B_z1 bb
  replace L := Lib.hid (PL.below L.out bb)
  replace HB := nx HB bb
  clear bb
  go_wp2
  go_ret
  exact ⟨(by first | rfl | exact rbt (by omega) | exact rbf (by omega)), nextw HB.out (by exact sm)⟩

def reachesV (px py : Int) (A : Option Addr) (n c : Nat) (l : List P2) : Value := if (spr l 1 0) < (mg px) then .bool false else if (spr l 0 1) < (mg py) then .bool false else .bool (!(l.any (beyB l px py)))
theorem reaches_any (px py : Int) (A : Option Addr) (n c : Nat) (l : List P2) (hn : n ≤ 1000) (hp : Wi px 33554432 ∧ Wi py 33554432) (hl : ∀ p ∈ l, Sd p) (w : World) {lo_L hi_L : Nat} (L : PL w lo_L hi_L A n c l) :
    Calls Try.prog 63 #[.slice A n c, .agg #[.int .i64 px, .int .i64 py]] w fun e w' => e = .returned (reachesV px py A n c l) ∧ Below w.heap.size w w' := by
  unfold reachesV
  by_cases dd0 : (spr l 1 0) < (mg px)
  · rw [if_pos dd0]
    exact reaches_w0 px py A n c l   hn hp hl dd0 w L
  · rw [if_neg dd0]
    by_cases dd1 : (spr l 0 1) < (mg py)
    · rw [if_pos dd1]
      exact reaches_w1 px py A n c l   hn hp hl (by omega) dd1 w L
    · rw [if_neg dd1]
      exact reaches_w2 px py A n c l   hn hp hl (by omega) (by omega) w L

theorem reaches_is (px py : Int) (A : Option Addr) (n c : Nat) (l : List P2) (hn : n ≤ 1000) (hp : Wi px 33554432 ∧ Wi py 33554432) (hl : ∀ p ∈ l, Sd p) (w : World) {lo hi : Nat} (L : PL w lo hi A n c l) :
    Calls Try.prog 63 #[.slice A n c, .agg #[.int .i64 px, .int .i64 py]] w fun e w' => e = .returned (.bool (decide (Rc l px py))) ∧ Below w.heap.size w w' := by
  have h := reaches_any px py A n c l hn hp hl w L
  rw [show reachesV px py A n c l = .bool (decide (Rc l px py)) from ?_] at h
  · exact h
  · unfold reachesV
    (repeat' split) <;> (refine congrArg Value.bool ?_; rw [Bool.eq_iff_iff, decide_eq_true_iff (p := Rc l px py)]; unfold Rc; (try simp only [decide_eq_true_iff, Bool.false_eq_true, false_iff]); (simp_all <;> omega))
theorem okz_sd {x y : Int} {l : List P2} (h : OkZ x y l) : ∀ p ∈ l, Sd p := fun p hp => by
  obtain ⟨⟨a, b⟩, c, d⟩ := h.2.2.2 p hp
  exact ⟨⟨by omega, by omega⟩, by omega, by omega⟩
end Go.Proofs.Ytpjbkadhmjlpfaa
