/- integer.divideLong -/
import Derived.Test.YtgfoplokplnpgaaDoorTake
namespace Go.Proofs.YtgfoplokplnpgaaDoor
open Go Go.RowKit Num

/-- WHAT HOLDS AT THE HEAD OF divideLong's LOOP, the words of the quotient from k on done. -/
structure DivAt (w wr : World) (gq g : Nat) (ex : List Value) (vd : Value) (ld : List Nat) (nq A k : Nat) (X Q : List Nat) : Prop where
  oq : Own wr gq (List.replicate k 0 ++ Q)
  ox : OwnX wr g X ex
  ud : U32 wr vd ld
  xlen : X.length = nq + ld.length
  qlen : k + Q.length = nq
  xlt : ∀ x ∈ X, x < 4294967296
  qlt : ∀ x ∈ Q, x < 4294967296
  small : val (X.drop k) < val ld
  eq : A = val X + 4294967296 ^ k * (val ld * val Q)
  below : Below w.heap.size w wr

theorem drop_high {X : List Nat} (h : ∀ x ∈ X, x < 4294967296) {k m : Nat} (hs : val (X.drop k) < 4294967296 ^ m) : val (X.drop (k + m)) = 0 := by
  have h1 := val_drop_div (l := X.drop k) (fun x hx => h x (List.mem_of_mem_drop hx)) m
  rw [List.drop_drop, Nat.div_eq_of_lt hs] at h1
  exact h1

theorem val_split (X : List Nat) (i : Nat) (hi : i ≤ X.length) : val X = val (X.take i) + 4294967296 ^ i * val (X.drop i) := by
  have h := val_append (X.take i) (X.drop i)
  rw [List.take_append_drop, List.length_take, Nat.min_eq_left hi] at h
  exact h

theorem DivAt.part {w wr : World} {gq g : Nat} {ex : List Value} {vd : Value} {ld : List Nat} {nq A i : Nat} {X Q : List Nat} (h : DivAt w wr gq g ex vd ld nq A (i + 1) X Q) :
    val ((X.drop i).take (ld.length + 1)) = val (X.drop i) ∧ val (X.drop i) < val ld * 4294967296 ∧ val ((X.drop i).drop (ld.length + 1)) = 0 := by
  have hx := h.xlen
  have hq := h.qlen
  have hs := h.small
  have hld := val_lt h.ud.lt
  have hz : val ((X.drop i).drop (ld.length + 1)) = 0 := by
    have := drop_high h.xlt (k := i + 1) (m := ld.length) (Nat.lt_trans hs hld)
    rw [List.drop_drop, show i + (ld.length + 1) = i + 1 + ld.length from by omega]
    exact this
  refine ⟨?_, ?_, hz⟩
  · have := val_split (X.drop i) (ld.length + 1) (by rw [List.length_drop]; omega)
    rw [hz, Nat.mul_zero, Nat.add_zero] at this
    exact this.symm
  · rw [val_drop (by omega)]
    have := getD_lt h.xlt i
    omega

theorem DivAt.step {w wr w' : World} {gq g : Nat} {ex : List Value} {vd : Value} {ld : List Nat} {nq A i : Nat} {X Q : List Nat} (h : DivAt w wr gq g ex vd ld nq A (i + 1) X Q) (hgq : gq ≠ g) (hb : w.heap.size ≤ g) (hbq : w.heap.size ≤ gq)
    (hne : ∀ b off n c, vd = .slice (some ⟨b, off, none⟩) n c → b ≠ g ∧ b ≠ gq)
    (ht : Taken wr w' g (X.take i) (X.drop i) ex ld.length (val ((X.drop i).take (ld.length + 1)) % val ld)) :
    w'.cell? ⟨gq, i, none⟩ = some (.int .u32 0) ∧ w'.frozen? ⟨gq, i, none⟩ = false ∧
    ∃ X', DivAt w (w'.setCell ⟨gq, i, none⟩ (.int .u32 ((val ((X.drop i).take (ld.length + 1)) / val ld : Nat) : Int))) gq g ex vd ld nq A i X' (val ((X.drop i).take (ld.length + 1)) / val ld :: Q) := by
  obtain ⟨p1, p2, p3⟩ := h.part
  obtain ⟨R, hRl, hRlt, ho, hgr, hRv⟩ := ht
  have hx := h.xlen
  have hq := h.qlen
  have hs := h.small
  have hoq := h.oq.grown hgr (by intro he; injection he with he; exact hgq he)
  rw [p1] at hRv ⊢
  have hDpos : 0 < val ld := by omega
  have hil : (X.take i).length = i := by rw [List.length_take]; omega
  have hc0 := hoq.cell (i := i) (by rw [List.length_append, List.length_replicate]; omega)
  have hc0' : (List.replicate (i + 1) 0 ++ Q).getD i 0 = 0 := by
    simp only [List.getD_eq_getElem?_getD]
    rw [List.getElem?_append_left (by rw [List.length_replicate]; omega), List.getElem?_replicate]
    simp
  rw [hc0'] at hc0
  refine ⟨hc0, hoq.frozen i, X.take i ++ (R ++ (X.drop i).drop (ld.length + 1)), ?_, ?_, ?_, ?_, ?_, ?_, ?_, ?_, ?_, ?_⟩
  · have e := hoq.set i (val (X.drop i) / val ld)
    rw [show List.replicate (i + 1) 0 ++ Q = List.replicate i 0 ++ 0 :: Q from by rw [List.replicate_succ', List.append_assoc]; rfl] at e
    have hsd := set_done (List.replicate i 0) 0 (val (X.drop i) / val ld) Q
    rw [List.length_replicate] at hsd
    rw [hsd] at e
    exact e
  · exact ho.other (by intro e; exact hgq e.symm) _
  · have hu := h.ud
    refine ⟨hu.lt, ?_⟩
    obtain ⟨A', c2, rfl, e1, e2, e3⟩ := hu.form
    refine ⟨A', c2, rfl, e1, e2, fun hne' => ?_⟩
    obtain ⟨b, off, rfl, hbb, hcell⟩ := e3 hne'
    obtain ⟨n1, n2⟩ := hne b off _ _ rfl
    refine ⟨b, off, rfl, by rw [World.size_setCell]; exact Nat.lt_of_lt_of_le hbb hgr.size, fun j hj => ?_⟩
    rw [World.cell?_of_block (a := ⟨b, off + j, none⟩) (heap_setCell_other w' ⟨gq, i, none⟩ b _ n2)]
    exact hgr.cell (hcell j hj) (by intro he; injection he with he; exact n1 he)
  · rw [List.length_append, List.length_append, hil, hRl, List.length_drop, List.length_drop]; omega
  · rw [List.length_cons]; omega
  · intro x hx'
    rcases List.mem_append.1 hx' with h1 | h1
    · exact h.xlt x (List.mem_of_mem_take h1)
    · rcases List.mem_append.1 h1 with h1 | h1
      · exact hRlt x h1
      · exact h.xlt x (List.mem_of_mem_drop (List.mem_of_mem_drop h1))
  · intro x hx'
    rcases List.mem_cons.1 hx' with h1 | h1
    · rw [h1]; exact Nat.div_lt_of_lt_mul p2
    · exact h.qlt x h1
  · have hd : (X.take i ++ (R ++ (X.drop i).drop (ld.length + 1))).drop i = R ++ (X.drop i).drop (ld.length + 1) := by
      have := List.drop_left (l₁ := X.take i) (l₂ := R ++ (X.drop i).drop (ld.length + 1))
      rw [hil] at this
      exact this
    rw [hd, val_append, p3, Nat.mul_zero, Nat.add_zero, hRv]
    exact Nat.mod_lt _ hDpos
  · have he := h.eq
    have h1 := val_split X i (by omega)
    have h2 := Nat.div_add_mod (val (X.drop i)) (val ld)
    rw [he, val_append, val_append, hil, p3, Nat.mul_zero, Nat.add_zero, hRv, val, Nat.pow_succ]
    generalize 4294967296 ^ i = P at *
    generalize val (X.drop i) / val ld = a at *
    generalize val (X.drop i) % val ld = b at *
    rw [h1, ← h2]
    simp only [Nat.mul_add]
    have e1 : P * 4294967296 * (val ld * val Q) = P * (val ld * (4294967296 * val Q)) := by rw [Nat.mul_assoc, Nat.mul_left_comm 4294967296]
    rw [e1]
    omega
  · exact (h.below.grown hgr h.below.size (fun k hk => by injection hk with hk; omega)).setCell hbq _

theorem U32.drewN {w : World} {v : Value} {l : List Nat} (h : U32 w v l) (n : Nat) : U32 (w.drewN n) v l := h.below ⟨rfl, rfl, rfl, Nat.le_refl _, fun _ _ => rfl⟩

theorem row_form {w : World} {base : Nat} {v : Value} {l : List Nat} (h : w.ownsRow base 46 1 v l.length (ws l)) (hne : 0 < l.length) :
    ∃ g cap ex, v = .slice (some ⟨g, 0, none⟩) l.length cap ∧ base ≤ g ∧ g < w.heap.size ∧ OwnX w g l ex ∧ l.length ≤ cap ∧ cap ≤ maxLen := by
  have hv : v ≠ .slice none 0 0 := by
    rintro rfl
    rcases h.2 with ⟨_, h0⟩ | ⟨g, cap, cur, e, _⟩
    · omega
    · cases e
  obtain ⟨g, cap, ex, e, hb, ho, h1, h2⟩ := OwnX.of_row h hv
  exact ⟨g, cap, ex, e, hb, ho.lt, ho, h1, h2⟩

theorem digs_top {b m : Nat} (h : (digs b).length = m + 1) : 0 < (digs b).getD m 0 := by
  have h1 := take_last (l := digs b) (k := m) (by omega)
  rw [List.take_of_length_le (by omega)] at h1
  exact Nat.pos_of_ne_zero (digs_getLast h1)

/-- How divideLong's loop begins. -/
theorem DivAt.start {w wr : World} {g : Nat} {ex : List Value} {vd : Value} {A D nq : Nat} (ox : OwnX wr g (digs A ++ [0]) ex) (ud : U32 wr vd (digs D)) (hD : 0 < D) (hl : (digs A).length + 1 = nq + (digs D).length)
    (hb : Below w.heap.size w wr) (hd2 : 1 ≤ (digs D).length) :
    DivAt w (wr.alloc (.cells (ws (List.replicate nq 0)).toArray 46)) wr.heap.size g ex vd (digs D) nq A nq (digs A ++ [0]) [] := by
  refine ⟨by rw [List.append_nil]; exact Own.new wr _, ox.alloc _, ud.below ((Below.refl _ _).alloc (Nat.le_refl _) _), by rw [List.length_append]; exact hl, by simp, ?_, by simp, ?_, ?_, hb.alloc hb.size _⟩
  · intro x hx
    rcases List.mem_append.1 hx with h1 | h1
    · exact digs_lt A x h1
    · rw [List.mem_singleton] at h1; omega
  · rw [val_digs]
    have hle : nq ≤ (digs A).length := by omega
    have h1 : (digs A ++ [0]).drop nq = (digs A).drop nq ++ [0] := List.drop_append_of_le_length hle
    rw [h1, val_snoc_zero]
    have h2 := val_lt (l := (digs A).drop nq) (fun x hx => digs_lt A x (List.mem_of_mem_drop hx))
    obtain ⟨j, hj⟩ : ∃ j, (digs D).length = j + 1 := ⟨(digs D).length - 1, by omega⟩
    have h3 := pow_le_of_length (n := D) (k := j) (by omega)
    rw [List.length_drop, show (digs A).length - nq = j from by omega] at h2
    omega
  · rw [val_snoc_zero, val_digs]; simp [val]

theorem rest_row {w : World} {base : Nat} {v : Value} {l : List Nat} (h : w.ownsRow base 46 1 v (l.length + 1) (ws l ++ [.int .u32 0])) :
    ∃ g cap ex, v = .slice (some ⟨g, 0, none⟩) (l.length + 1) cap ∧ base ≤ g ∧ g < w.heap.size ∧ OwnX w g (l ++ [0]) ex ∧ l.length + 1 ≤ cap ∧ cap ≤ maxLen := by
  have e : (l ++ [0]).length = l.length + 1 := by simp
  have h' : w.ownsRow base 46 1 v (l ++ [0]).length (ws (l ++ [0])) := by rw [ws_append, e]; exact h
  have := row_form h' (by rw [e]; omega)
  rw [e] at this
  exact this

set_option maxRecDepth 100000 in
set_option maxHeartbeats 2000000 in
theorem divideLong_any (v1 v2 : Value) (a b : Nat) (w : World) (h1 : Mag w v1 a) (h2 : Mag w v2 b) (hb2 : 2 ≤ (digs b).length) (hab : b ≤ a) (hn : (digs a).length ≤ 100000) :
    Calls Tryd.prog 66 #[v1, v2] w fun e w' => ∃ q r, e = .returned (.tuple #[q, r]) ∧ Mag w' q (a / b) ∧ Mag w' r (a % b) ∧ Below w.heap.size w w' := by
  have hnb : (digs b).length ≤ 100000 := Nat.le_trans (length_mono hab) hn
  obtain ⟨m, hm⟩ : ∃ m, (digs b).length = m + 2 := ⟨(digs b).length - 2, by omega⟩
  have htop := digs_top (b := b) (m := m + 1) (by omega)
  have htl := getD_lt (digs_lt b) (m + 1)
  have hble := Lib.bitLen_le ((digs b).getD (m + 1) 0) 32 (by omega) htl
  obtain ⟨sh, hsh⟩ : ∃ sh, sh = 32 - Lib.bitLen ((digs b).getD (m + 1) 0) := ⟨_, rfl⟩
  have c0 : Calls Tryd.prog 83 #[.int .u32 ((digs b).getD (m + 1) 0 : Nat)] w fun e w' => e = .returned (.int .i64 (sh : Int)) ∧ w = w' :=
    (Tryd.bits_LeadingZeros32 _ w (by omega) (by omega)).mono fun _ _ h => ⟨by rw [h.1, Int.toNat_natCast]; exact ret_int (by omega), h.2.symm⟩
  have c1 := raise_any v2 (digs b) sh w h2 (by omega) (by omega)
  rw [val_digs] at c1
  obtain ⟨A2, cap2, rfl, _, _, hf⟩ := id h2.form
  obtain ⟨b2, o2, rfl, hb2lt, hcell2⟩ := hf (by intro h; rw [h] at hb2; simp at hb2)
  have hcx := hcell2 (m + 1) (by omega)
  have hix : m + 1 = (digs b).length - 1 := by omega
  rw [hix] at hcx c0
  have HS := Lib.hid hsh
  have HM := Lib.hid hm
  have HC0 := Lib.hid c0
  have HC1 := Lib.hid c1
  have HH1 := Lib.hid h1
  have HH2 := Lib.hid h2
  clear hsh hm c0 c1 hf hcell2 hix htop htl hble h1 h2
  generalize (digs b).getD ((digs b).length - 1) 0 = top at *
  have hb1 : 1 ≤ (digs b).length := by omega
  go_enter Tryd.func66, Tryd.ntmps66
  go_wp2_with fail
  refine HC0.out.mono ?_
  rintro e w' ⟨rfl, rfl⟩
  go_wp2_with fail
  refine HC1.out.mono ?_
  rintro e w1 ⟨vd, rfl, hmd, hrd, hbd⟩
  have hv1 : Mag w1 v1 a := HH1.out.below hbd
  have c2 := raise_any v1 (digs a) sh w1 hv1 (by omega) (by have := HS.out; omega)
  rw [val_digs] at c2
  have HC2 := Lib.hid c2
  clear c2
  go_wp2_with fail
  refine HC2.out.mono ?_
  rintro e w2 ⟨va, rfl, hma, hra, hba⟩
  have hbpos : 0 < b := by
    rcases Nat.eq_zero_or_pos b with h0 | h0
    · rw [h0, digs_zero] at hb1; simp at hb1
    · exact h0
  have h2p : 0 < 2 ^ sh := Nat.pow_pos (by omega)
  have hDb : b ≤ b * 2 ^ sh := Nat.le_mul_of_pos_right _ h2p
  have hDA : b * 2 ^ sh ≤ a * 2 ^ sh := Nat.mul_le_mul_right _ hab
  have hfin1 : a * 2 ^ sh / (b * 2 ^ sh) = a / b := Nat.mul_div_mul_right _ _ h2p
  have hfin2 : a * 2 ^ sh % (b * 2 ^ sh) / 2 ^ sh = a % b := by rw [Nat.mul_mod_mul_right, Nat.mul_div_cancel _ h2p]
  have hAl : a * 2 ^ sh < 4294967296 ^ ((digs a).length + 1) := by
    have e1 := lt_pow_length a
    have e3 : 2 ^ sh ≤ 4294967296 := Nat.pow_le_pow_right (j := 32) (by omega) (by have := HS.out; omega)
    rw [Nat.pow_succ]
    exact Nat.lt_of_lt_of_le (Nat.mul_lt_mul_of_pos_right e1 h2p) (Nat.mul_le_mul_left _ e3)
  have hnA := digs_length_le hAl
  have hnDA := length_mono hDA
  have hnbD := length_mono hDb
  have hD0 : 0 < b * 2 ^ sh := by omega
  clear hAl hDb h2p
  generalize a * 2 ^ sh = A at *
  generalize b * 2 ^ sh = D at *
  have hsh32 : sh ≤ 32 := by have := HS.out; omega
  obtain ⟨gd, capd, exd, rfl, hgd1, hgd2, _, hcd1, hcd2⟩ := row_form hrd (by omega)
  obtain ⟨ga, capa, exa, rfl, hga1, hga2, _, hca1, hca2⟩ := row_form hra (by omega)
  have hudD : U32 w2 (.slice (some ⟨gd, 0, none⟩) (digs D).length capd) (digs D) := Mag.below hmd hba
  have HF1 := Lib.hid hfin1
  have HF2 := Lib.hid hfin2
  have HRA := Lib.hid hra
  have HUD := Lib.hid hudD
  have hb02 : Below w.heap.size w w2 := hbd.trans (hba.mono hbd.size)
  obtain ⟨i0, hi, hz0, hz1, hz2⟩ := info_parts info32
  have hmk := make_u32 (x := ((digs A).length : Int) + 1 - ((digs D).length : Int)) ((digs A).length + 1 - (digs D).length) (by omega) (by omega)
  clear hfin1 hfin2 hra hrd hmd hma hudD hcd1 hcd2 hga2 HH1 HH2 HC0 HC1 HC2 hv1 HM
  have hcell0 : ∀ j u, [Value.int .u32 0][j]? = some u → (w2.alloc (.cells #[.int .u32 0] 46)).cell? ((⟨w2.heap.size, 0, none⟩ : Addr).add j) = some u := by
    intro j u hj
    match j, hj with
    | 0, hj => simp at hj; subst hj; simp [Addr.add]
  have HCELL := Lib.hid hcell0
  have hone : ∀ u ∈ [Value.int .u32 0], u.oneCell' = true := by intro u hu; simp at hu; subst hu; rfl
  have HONE := Lib.hid hone
  clear hcell0 hone
  have hsz : w1.heap.size ≤ w2.heap.size + 1 := by have := hba.size; omega
  go_wp2_with ((at_builtin; go_loud (refine wpList_append_own _ rfl _ _ 22 rfl w1.heap.size 46 i0 (.int .u32 0) 1 4 Tryd.underlying22 hi hz0 hz1 hz2 rfl (by decide) (.slice (some ⟨ga, 0, none⟩) (digs A).length capa) (digs A).length (ws (digs A)) rfl (HRA.out.alloc _) ⟨w2.heap.size, 0, none⟩ 1 1 [.int .u32 0] rfl rfl HCELL.out HONE.out (by simp only [maxLen]; omega) (by omega) (by simp; omega) ?_; intro v3 w3 hown3 hgrow3 hnil3; obtain ⟨g, c3, ex, rfl, hg1, hg2, hox, hc3, hm3⟩ := rest_row hown3)))
  have hb03 : Below w.heap.size w w3 := (hb02.alloc hb02.size _).grown hgrow3 (by have := hb02.size; simp; omega) (fun k hk => by simp only [Value.ownBlock, Option.some.injEq] at hk; have := hbd.size; omega)
  have hb23 : Below w1.heap.size w2 w3 := ((Below.refl _ _).alloc hba.size _).grown hgrow3 (by have := hba.size; simp; omega) (fun k hk => by simp only [Value.ownBlock, Option.some.injEq] at hk; omega)
  have hud3 : U32 w3 (.slice (some ⟨gd, 0, none⟩) (digs D).length capd) (digs D) := by
    refine ⟨HUD.out.lt, some ⟨gd, 0, none⟩, capd, rfl, ?_, ?_, fun _ => ⟨gd, 0, rfl, ?_, ?_⟩⟩
    · obtain ⟨A', c', e, e1, _⟩ := HUD.out.form; injection e with e2 e3 e4; rw [e4]; exact e1
    · obtain ⟨A', c', e, _, e1, _⟩ := HUD.out.form; injection e with e2 e3 e4; rw [e4]; exact e1
    · have := hb23.size; have := hba.size; omega
    · intro i hi
      obtain ⟨A', c', e, _, _, e1⟩ := HUD.out.form
      obtain ⟨b', o', e5, _, e6⟩ := e1 (by intro h; rw [h] at hi; simp at hi)
      injection e with e2 e3 e4
      subst e2
      injection e5 with e5
      injection e5 with e7 e8
      subst e7 e8
      exact (hb23.cell (p := ⟨gd, 0 + i, none⟩) hgd2).trans (e6 i hi)
  have hstart := DivAt.start (nq := (digs A).length + 1 - (digs D).length) hox hud3 hD0 (by omega) hb03 (by omega)
  have hgw : w.heap.size ≤ g := by have := hbd.size; omega
  have hgdg : gd < g := by omega
  have hg2' : g < w3.heap.size := hg2
  have hwq : w.heap.size ≤ w3.heap.size := hb03.size
  have HST := Lib.hid hstart
  clear hstart hox hb02 hb03 hb23 hud3 hown3 hgrow3 hnil3 hcx hmk hba hbd HRA HUD HCELL HONE hi hz0 hz1 hz2
  go_loopw [9] (fun i wr => ∃ (k : Nat) (X Q : List Nat), k ≤ (digs A).length + 1 - (digs D).length ∧ i = .int .i64 ((k : Int) - 1) ∧
      DivAt w wr w3.heap.size g ex (.slice (some ⟨gd, 0, none⟩) (digs D).length capd) (digs D) ((digs A).length + 1 - (digs D).length) A k X Q) (fun i _ => (intOf i + 1).toNat)
  case atStart => exact ⟨_, _, _, Nat.le_refl _, rfl, HST.out⟩
  case round =>
    obtain ⟨k, X, Q, hk, rfl, hs⟩ := hrel
    rcases k with _ | k
    · have hql := hs.qlen
      have hxl := hs.xlen
      have hUq : U32 wr (.slice (some ⟨w3.heap.size, 0, none⟩) ((digs A).length + 1 - (digs D).length) ((digs A).length + 1 - (digs D).length)) Q := by
        have ho := hs.oq
        rw [List.replicate_zero, List.nil_append] at ho
        have := ho.u32 hs.qlt (by simp only [maxLen]; omega)
        rwa [show Q.length = (digs A).length + 1 - (digs D).length from by omega] at this
      have hUx : U32 wr (.slice (some ⟨g, 0, none⟩) ((digs A).length + 1) c3) X := by
        have := hs.ox.u32 hs.xlt (cap := c3) (by omega) hm3
        rwa [show X.length = (digs A).length + 1 from by omega] at this
      have he := hs.eq
      have hsm := hs.small
      rw [List.drop_zero, val_digs] at hsm
      rw [Nat.pow_zero, Nat.one_mul, val_digs] at he
      have hdiv : val Q = A / D := by rw [he, Nat.add_mul_div_left _ _ hD0, Nat.div_eq_of_lt hsm, Nat.zero_add]
      have hmod : val X = A % D := by rw [he, Nat.add_mul_mod_self_left, Nat.mod_eq_of_lt hsm]
      have HQ := Lib.hid hdiv
      have HX := Lib.hid hmod
      have hbw := hs.below
      clear hdiv hmod he hsm hs hql hxl HST
      go_wp2_with fail
      refine (trim_any _ _ _ hUq).mono ?_
      rintro e w' ⟨vq, rfl, rfl, hmq, -⟩
      have hmq1 := hmq _ hUq
      rw [HQ.out, HF1.out] at hmq1
      clear hmq
      go_wp2_with fail
      refine (trim_any _ _ _ hUx).mono ?_
      rintro e w' ⟨vx, rfl, rfl, hmx, -⟩
      have hmx1 := hmx _ hUx
      rw [HX.out] at hmx1
      have hlx : (digs (A % D)).length ≤ 500000 := by
        have := length_mono (Nat.mod_le A D); omega
      have cl := lower_any vx (digs (A % D)) sh wr hmx1 hlx (by omega)
      rw [val_digs, HF2.out] at cl
      have HCL := Lib.hid cl
      clear hmx cl
      go_wp2_with fail
      refine HCL.out.mono ?_
      rintro e w' ⟨vr, rfl, hmr, hbr⟩
      have hq' := hmq1.below hbr
      have hb' := hbw.trans (hbr.mono hbw.size)
      clear hmx1 hmq1 HCL
      go_wp2
      go_returns
      exact ⟨_, _, rfl, hq', hmr, hb'⟩
    · have e1 : (((k + 1 : Nat) : Int) - 1) = (k : Int) := by omega
      rw [e1]
      clear e1 HST
      have hxl := hs.xlen
      have hpart := hs.part
      have hkl : (X.take k).length = k := by rw [List.length_take]; omega
      have ct := takeOff_any g (c3 - k) (.slice (some ⟨gd, 0, none⟩) (digs D).length capd) (X.take k) (X.drop k) (digs D) ex ((digs D).length - 2) wr (by rw [List.take_append_drop]; exact hs.ox) (fun x hx => hs.xlt x (List.mem_of_mem_drop hx)) hs.ud
        (fun b off n c e => by injection e with e; injection e with e; injection e with e; omega) (by omega) (by rw [List.length_drop]; omega) (by omega) (by rw [List.length_drop]; omega) (by omega) (by omega)
        (digs_top (by omega)) (by rw [hpart.1]; exact hpart.2.1)
      rw [hkl] at ct
      have HCT := Lib.hid ct
      have HDA := Lib.hid hs
      have hlen1 : k + (digs D).length + 1 - k = (digs D).length + 1 := by omega
      have HL1 := Lib.hid hlen1
      clear hs hpart ct hxl hkl hlen1
      go_wp2_with fail
      rw [HL1.out]
      refine HCT.out.mono ?_
      rintro e w' ⟨rfl, ht⟩
      obtain ⟨hc0, hfz, hnext⟩ := HDA.out.step (Nat.ne_of_gt hg2') hgw hwq (fun b off n c e => by injection e with e; injection e with e; injection e with e; omega) ht
      have HN := Lib.hid hnext
      clear hnext ht HCT
      go_wp2
      go_roundw
      case rel =>
        obtain ⟨X', hX'⟩ := HN.out
        exact ⟨k, X', _, by omega, rfl, hX'⟩
      case measure => simp only [intOf]; omega
end Go.Proofs.YtgfoplokplnpgaaDoor
