/- slices.Clone, integer.shorten -/
import Derived.Test.YtgfoplokplnpgaaDoorArr
import Derived.WalkSpells
namespace Go.Proofs.YtgfoplokplnpgaaDoor
open Go Go.RowKit Num

/-- Block g begins with the words l; behind them lies ex. -/
def OwnX (w : World) (g : Nat) (l : List Nat) (ex : List Value) : Prop := w.heap[g]? = some (.cells (ws l ++ ex).toArray 46 (0, 0))

section
variable {w w' : World} {g : Nat} {l : List Nat} {ex : List Value}
theorem OwnX.lt (h : OwnX w g l ex) : g < w.heap.size := by
  rcases Nat.lt_or_ge g w.heap.size with hlt | hge
  · exact hlt
  · unfold OwnX at h; rw [Array.getElem?_eq_none hge] at h; cases h
theorem OwnX.cell (h : OwnX w g l ex) {i : Nat} (hi : i < l.length) : w.cell? ⟨g, i, none⟩ = some (.int .u32 (l.getD i 0 : Nat)) := by
  rw [cell_of_row w g i _ _ (0, 0) h]
  rw [List.getElem?_toArray, List.getElem?_append_left (by rw [ws_length]; exact hi), ws_getElem?]
  simp [hi]
theorem OwnX.frozen (h : OwnX w g l ex) (i : Nat) : w.frozen? ⟨g, i, none⟩ = false := frozen_of_row w g i _ _ h
theorem OwnX.below {B : Nat} (h : OwnX w g l ex) (hb : Below B w w') (hg : g < B) : OwnX w' g l ex := (hb.block g hg).trans h
theorem OwnX.grown {row : Option Nat} (h : OwnX w g l ex) (hg : w.grownBy w' row) (hne : some g ≠ row) : OwnX w' g l ex := (hg.block g h.lt hne).trans h
theorem OwnX.other (h : OwnX w g l ex) {a : Addr} (hne : g ≠ a.block) (v : Value) : OwnX (w.setCell a v) g l ex := (heap_setCell_other w a g v hne).trans h
theorem OwnX.drewN (h : OwnX w g l ex) (n : Nat) : OwnX (w.drewN n) g l ex := h
theorem OwnX.alloc (h : OwnX w g l ex) (o : Obj) : OwnX (w.alloc o) g l ex := (Below.heap_alloc w o g h.lt).trans h
theorem OwnX.set (h : OwnX w g l ex) {i : Nat} (hi : i < l.length) (x : Nat) : OwnX (w.setCell ⟨g, i, none⟩ (.int .u32 (x : Int))) g (l.set i x) ex := by
  unfold OwnX
  rw [heap_setCell_same w g i _ _ _ h]
  congr 2
  rw [List.setIfInBounds_toArray, List.set_append_left _ _ (by rw [ws_length]; exact hi)]
  simp [ws, List.map_set]
theorem OwnX.front (h : OwnX w g l ex) {k : Nat} : OwnX w g (l.take k) (ws (l.drop k) ++ ex) := by
  unfold OwnX
  rw [← List.append_assoc, ← ws_append, List.take_append_drop]
  exact h
theorem OwnX.u32 (h : OwnX w g l ex) (hlt : ∀ x ∈ l, x < 4294967296) {cap : Nat} (hc : l.length ≤ cap) (hm : cap ≤ maxLen) : U32 w (.slice (some ⟨g, 0, none⟩) l.length cap) l :=
  ⟨hlt, _, _, rfl, hc, hm, fun _ => ⟨g, 0, rfl, h.lt, fun i hi => by rw [Nat.zero_add]; exact h.cell hi⟩⟩
theorem Own.x (h : Own w g l) : OwnX w g l [] := by unfold OwnX; rw [List.append_nil]; exact h
theorem grown_set (w : World) (g i : Nat) (v : Value) : w.grownBy (w.setCell ⟨g, i, none⟩ v) (some g) :=
  ⟨rfl, rfl, rfl, by simp, fun k _ hk => heap_setCell_other w ⟨g, i, none⟩ k v (fun e => hk (by simp [e]))⟩
theorem grown_trans {a b c : World} {r : Option Nat} (h : a.grownBy b r) (k : b.grownBy c r) : a.grownBy c r :=
  ⟨k.os.trans h.os, k.tape.trans h.tape, k.output.trans h.output, Nat.le_trans h.size k.size, fun i hi hne => (k.block i (Nat.lt_of_lt_of_le hi h.size) hne).trans (h.block i hi hne)⟩
theorem grown_refl (w : World) (r : Option Nat) : w.grownBy w r := ⟨rfl, rfl, rfl, Nat.le_refl _, fun _ _ _ => rfl⟩
theorem grown_drewN (w : World) (r : Option Nat) (n : Nat) : w.grownBy (w.drewN n) r := ⟨rfl, rfl, rfl, Nat.le_refl _, fun _ _ _ => rfl⟩
theorem grown_below {a b : World} (h : Below a.heap.size a b) (r : Option Nat) : a.grownBy b r := ⟨h.os, h.tape, h.output, h.size, fun i hi _ => h.block i hi⟩
theorem OwnX.of_row {base : Nat} {v : Value} {n : Nat} (h : w.ownsRow base 46 1 v n (ws l)) (hv : v ≠ .slice none 0 0) :
    ∃ g cap ex, v = .slice (some ⟨g, 0, none⟩) n cap ∧ base ≤ g ∧ OwnX w g l ex ∧ n ≤ cap ∧ cap ≤ maxLen := by
  rcases h.2 with ⟨rfl, _⟩ | ⟨g, cap, cur, rfl, hg, hh, hnc, hcm, hcs, htake⟩
  · exact absurd rfl hv
  · refine ⟨g, cap, cur.toList.drop (n * 1), rfl, hg, ?_, hnc, hcm⟩
    unfold OwnX
    rw [← htake, List.take_append_drop]
    simpa using hh
end

/-- What a clone is: nil, or new cells with the same words. -/
def Cloned (w w' : World) (l : List Nat) (v' : Value) : Prop :=
  (l = [] ∧ v' = .slice none 0 0) ∨ ∃ g cap ex, v' = .slice (some ⟨g, 0, none⟩) l.length cap ∧ w.heap.size ≤ g ∧ OwnX w' g l ex ∧ l.length ≤ cap ∧ cap ≤ maxLen

theorem Cloned.u32 {w w' : World} {l : List Nat} {v' : Value} (h : Cloned w w' l v') (hlt : ∀ x ∈ l, x < 4294967296) : U32 w' v' l := by
  rcases h with ⟨rfl, rfl⟩ | ⟨g, cap, ex, rfl, _, ho, hc, hm⟩
  · exact U32.nil none (Nat.zero_le _)
  · exact ho.u32 hlt hc hm

set_option maxHeartbeats 400000 in
set_option maxRecDepth 100000 in
theorem clone_any (v : Value) (l : List Nat) (w : World) (h : U32 w v l) (hn : l.length ≤ 1000000) :
    Calls Tryd.prog 44 #[v] w fun e w' => ∃ v', e = .returned v' ∧ Cloned w w' l v' ∧ Below w.heap.size w w' := by
  obtain ⟨A, cap, rfl, hc1, hm1, hf⟩ := id h.form
  have heq := Lib.run_eql_slice_nil (P := Tryd.prog) w 22 46 A l.length cap 0 0 Tryd.underlying22
  obtain ⟨i0, hi, hz0, hz1, hz2⟩ := info_parts info32
  rcases A with _ | a
  · have hl : l = [] := by
      rcases l with _ | ⟨x, xs⟩
      · rfl
      · obtain ⟨b, off, e, -⟩ := hf (by simp); cases e
    subst hl
    clear hf
    simp only [Option.isNone_none, List.length_nil] at heq
    go_enter Tryd.func44, Tryd.ntmps44
    go_wp2
    go_ret
    exact ⟨_, rfl, .inl ⟨rfl, rfl⟩, Below.refl _ _⟩
  · have hcell : ∀ j u, (ws l)[j]? = some u → (w.alloc (.cells #[] 46)).cell? (a.add j) = some u := by
      intro j u hu
      have hj : j < l.length := by
        rcases Nat.lt_or_ge j l.length with h1 | h1
        · exact h1
        · rw [ws_getElem?, List.getElem?_eq_none h1] at hu; cases hu
      obtain ⟨b, off, e, hb, hcc⟩ := hf (by intro h; rw [h] at hj; simp at hj)
      injection e with e
      subst e
      have h1 := hcc j hj
      rw [ws_getElem?] at hu
      have h2 : (⟨b, off, none⟩ : Addr).add j = ⟨b, off + j, none⟩ := by
        unfold Addr.add
        by_cases h0 : j = 0
        · simp [h0]
        · simp [h0]
      rw [h2, World.cell?_alloc_lt w _ ⟨b, off + j, none⟩ hb, h1]
      rw [List.getElem?_eq_getElem hj] at hu
      simp [List.getD, hj] at hu ⊢
      exact hu
    have HC := Lib.hid hcell
    clear hcell hf
    simp only [Option.isNone_some] at heq
    go_enter Tryd.func44, Tryd.ntmps44
    go_wp2_with ((at_builtin; refine wpList_append_own _ rfl _ _ 22 rfl w.heap.size 46 i0 (.int .u32 0) 1 4 Tryd.underlying22 hi hz0 hz1 hz2 rfl (by decide) (.slice (some ⟨w.heap.size, 0, none⟩) 0 0) 0 [] rfl (World.ownsRow_lit w #[] 0 (Nat.le_refl _) (Nat.zero_le _) rfl) a l.length cap (ws l) rfl (by rw [ws_length, Nat.mul_one]) HC.out (ws_oneCell l) (by simp only [maxLen]; omega) (by omega) (by simp) ?_; intro v1 w1 hown1 hgrow1 hnil1))
    go_ret
    rw [Nat.zero_add, List.nil_append] at hown1
    have hb : Below w.heap.size w w1 := ((Below.refl _ _).alloc (Nat.le_refl _) _).grown hgrow1 (by simp) (fun k hk => by simp [Value.ownBlock] at hk; omega)
    refine ⟨_, rfl, .inr ?_, hb⟩
    obtain ⟨g, c, ex, e1, e2, e3, e4, e5⟩ := OwnX.of_row hown1 (fun hv => by have := hnil1.1 hv; simp at this)
    exact ⟨g, c, ex, e1, e2, e3, e4, e5⟩

theorem or_join64' (r x : Nat) (hr : r < 4294967296) (hx : x < 4294967296) : bits .or .u64 ((r : Int) * 4294967296) (x : Int) = ((r * 4294967296 + x : Nat) : Int) := by
  have e := u64_or_nat (r * 4294967296) x (by omega) (by omega)
  rw [nat_join 32 (r * 4294967296) x (by omega) (by omega)] at e
  rw [← e]
  congr 1
theorem val_drop {l : List Nat} {k : Nat} (hk : k < l.length) : val (l.drop k) = l.getD k 0 + 4294967296 * val (l.drop (k + 1)) := by
  rw [List.drop_eq_getElem_cons hk, val]
  simp [List.getD, hk]

/-- WHAT HOLDS AT THE HEAD OF shorten's LOOP, the words from k on done. -/
structure ShortAt (w wr : World) (g : Nat) (l : List Nat) (ex : List Value) (d k r : Nat) (q : List Nat) : Prop where
  own : OwnX wr g (l.take k ++ q) ex
  len : k + q.length = l.length
  lt : ∀ x ∈ q, x < 4294967296
  rest : r < d
  eq : val (l.drop k) = d * val q + r
  grown : w.grownBy wr (some g)

theorem ShortAt.step {w wr : World} {g : Nat} {l : List Nat} {ex : List Value} {d k r : Nat} {q : List Nat} (h : ShortAt w wr g l ex d (k + 1) r q) (hd : d < 4294967296) (hl : ∀ x ∈ l, x < 4294967296) :
    ShortAt w (wr.setCell ⟨g, k, none⟩ (.int .u32 (((r * 4294967296 + l.getD k 0) / d : Nat) : Int))) g l ex d k ((r * 4294967296 + l.getD k 0) % d) ((r * 4294967296 + l.getD k 0) / d :: q) := by
  have hr := h.rest
  have hlen := h.len
  have hx := getD_lt hl k
  refine ⟨?_, by simp only [List.length_cons]; omega, ?_, Nat.mod_lt _ (by omega), ?_, grown_trans h.grown (grown_set _ _ _ _)⟩
  · have e := h.own.set (i := k) (by simp; omega) ((r * 4294967296 + l.getD k 0) / d)
    have hk : k < l.length := by omega
    rw [List.take_succ_eq_append_getElem hk, List.append_assoc, List.singleton_append] at e
    have hs := set_done (l.take k) l[k] ((r * 4294967296 + l.getD k 0) / d) q
    have hk' : (l.take k).length = k := by simp; omega
    rw [hk'] at hs
    rw [hs] at e
    exact e
  · intro x hx'
    rcases List.mem_cons.1 hx' with rfl | hx'
    · rw [Nat.div_lt_iff_lt_mul (by omega)]
      have : (r + 1) * 4294967296 ≤ d * 4294967296 := Nat.mul_le_mul_right _ h.rest
      rw [Nat.mul_comm]; omega
    · exact h.lt x hx'
  · rw [val_drop (by omega), h.eq, val]
    have e := Nat.div_add_mod (r * 4294967296 + l.getD k 0) d
    generalize (r * 4294967296 + l.getD k 0) / d = s at *
    generalize (r * 4294967296 + l.getD k 0) % d = m at *
    have e2 : 4294967296 * (d * val q) = d * (4294967296 * val q) := Nat.mul_left_comm _ _ _
    rw [Nat.mul_add, Nat.mul_add, e2]
    omega

set_option maxHeartbeats 1000000 in
theorem shorten_any (g cap d : Nat) (l : List Nat) (ex : List Value) (w : World) (h : OwnX w g l ex) (hl : ∀ x ∈ l, x < 4294967296) (hd0 : 0 < d) (hd : d < 4294967296) (hn : l.length ≤ 1000000) (hc : l.length ≤ cap) :
    Calls Tryd.prog 65 #[.slice (some ⟨g, 0, none⟩) l.length cap, .int .u32 d] w fun e w' =>
      e = .returned (.int .u32 (val l % d : Nat)) ∧ ∃ l', l'.length = l.length ∧ (∀ x ∈ l', x < 4294967296) ∧ val l' = val l / d ∧ OwnX w' g l' ex ∧ w.grownBy w' (some g) := by
  have hs0 : ShortAt w w g l ex d l.length 0 [] := ⟨by rw [List.take_length, List.append_nil]; exact h, rfl, by simp, hd0, by simp [val], grown_refl _ _⟩
  go_enter Tryd.func65, Tryd.ntmps65
  go_wp2
  go_loopw [5, 6] (fun rv i wr => ∃ (k r : Nat) (q : List Nat), k ≤ l.length ∧ i = .int .i64 ((k : Int) - 1) ∧ rv = .int .u64 r ∧ ShortAt w wr g l ex d k r q) (fun _ i _ => (intOf i + 1).toNat)
  case atStart => exact ⟨l.length, 0, [], Nat.le_refl _, rfl, rfl, hs0⟩
  case round =>
    obtain ⟨k, r, q, hk, rfl, rfl, hs⟩ := hrel
    have hr := hs.rest
    rcases k with _ | k
    · have HS := Lib.hid hs
      clear hs hs0
      go_wp2
      go_ret
      have hs := HS.out
      have e := hs.eq
      rw [List.drop_zero] at e
      have ho := hs.own
      rw [List.take_zero, List.nil_append] at ho
      have hlen := hs.len
      refine ⟨ret_int (by rw [e, Nat.mul_add_mod_self_left, Nat.mod_eq_of_lt hr]), q, by omega, hs.lt, ?_, ho, hs.grown⟩
      rw [e, Nat.mul_add_div hd0, Nat.div_eq_of_lt hr, Nat.add_zero]
    · have hx := getD_lt hl k
      have hc0 := hs.own.cell (i := k) (by simp; omega)
      have hg : (List.take (k + 1) l ++ q).getD k 0 = l.getD k 0 := by
        simp only [List.getD_eq_getElem?_getD]
        rw [List.getElem?_append_left (by simp; omega), List.getElem?_take, if_pos (by omega)]
      rw [hg] at hc0
      have hfz := hs.own.frozen k
      have hor := or_join64' r (l.getD k 0) (by omega) hx
      have HS := Lib.hid (hs.step hd hl)
      have hsd : (r * 4294967296 + l.getD k 0) / d < 4294967296 := by
        rw [Nat.div_lt_iff_lt_mul hd0]
        have : (r + 1) * 4294967296 ≤ d * 4294967296 := Nat.mul_le_mul_right _ hr
        rw [Nat.mul_comm 4294967296]; omega
      have hsb : r * 4294967296 + l.getD k 0 < 18446744073709551616 := by omega
      have hsd' : ((r * 4294967296 + l.getD k 0 : Nat) : Int) / (d : Int) < 4294967296 := by
        rw [← Int.natCast_ediv]; omega
      have hsd0 : 0 ≤ ((r * 4294967296 + l.getD k 0 : Nat) : Int) / (d : Int) := by
        rw [← Int.natCast_ediv]; exact Int.natCast_nonneg _
      have e1 : (((k + 1 : Nat) : Int) - 1) = (k : Int) := by omega
      rw [e1]
      clear hs hs0 hg hsd e1
      generalize l.getD k 0 = x at *
      generalize r * 4294967296 + x = s at *
      go_wp2
      go_roundw
      case rel => exact ⟨k, s % d, _, by omega, rfl, by rw [Int.natCast_emod], by have := HS.out; rwa [Int.natCast_ediv] at this⟩
      case measure => simp only [intOf]; omega
end Go.Proofs.YtgfoplokplnpgaaDoor
