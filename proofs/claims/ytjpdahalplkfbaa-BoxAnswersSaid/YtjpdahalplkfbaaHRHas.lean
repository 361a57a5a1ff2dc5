/- wayfinderbase.Mod; the reference's Has; wayfinderbase.Ints. -/
import Derived.Test.YtjpdahalplkfbaaHRArc
namespace Go.Proofs.Ytjpdahalplkfbaa
open Go Go.RowKit Hd

theorem ret_i64 {a b : Int} (h : a = b) : Ending.returned (.int .i64 a) = .returned (.int .i64 b) := by rw [h]
theorem tmod_pos' {a b : Int} (hb : 0 < b) (h : 0 ≤ a.tmod b) : a.tmod b = a % b := by
  have h1 := Int.tmod_eq_emod (a := a) (b := b)
  have h2 := Int.emod_nonneg a (show b ≠ 0 by omega)
  have h3 := Int.emod_lt_of_pos a hb
  have h4 : (b.natAbs : Int) = b := by omega
  split at h1 <;> omega
theorem tmod_neg' {a b : Int} (hb : 0 < b) (h : a.tmod b < 0) : a.tmod b + b = a % b := by
  have h1 := Int.tmod_eq_emod (a := a) (b := b)
  have h2 := Int.emod_nonneg a (show b ≠ 0 by omega)
  have h4 : (b.natAbs : Int) = b := by omega
  split at h1 <;> omega
set_option maxRecDepth 100000 in
set_option maxHeartbeats 4000000 in
theorem Mod_q (a b : Int) (w : World) (g1 : 1 ≤ b) (g2 : b ≤ 1000) :
    Calls Try.prog 39 #[.int .i64 a, .int .i64 b] w fun e w' => e = .returned (.int .i64 (a % b)) ∧ w' = w := by
  have hn1 : -1000 ≤ a.tmod b ∧ a.tmod b ≤ 1000 := by
    have h1 := Int.tmod_eq_emod (a := a) (b := b)
    have h2 := Int.emod_nonneg a (show b ≠ 0 by omega)
    have h3 := Int.emod_lt_of_pos a (show 0 < b by omega)
    have h4 : (b.natAbs : Int) = b := by omega
    split at h1 <;> omega
  go_enter Try.func39, Try.ntmps39
  go_wp2_with fail
  · rename_i hh
    go_ret
    have e := tmod_neg' (a := a) (b := b) (by omega) hh
    exact ⟨ret_i64 (by rw [← e]), rfl⟩
  · rename_i hh
    go_ret
    exact ⟨ret_i64 (tmod_pos' (by omega) hh), rfl⟩
theorem Mod_at {a m : Int} (h : a % 256 = m) (w : World) :
    Calls Try.prog 39 #[.int .i64 a, .int .i64 256] w fun e w' => e = .returned (.int .i64 m) ∧ w' = w := h ▸ Mod_q a 256 w (by decide) (by decide)

end Go.Proofs.Ytjpdahalplkfbaa
