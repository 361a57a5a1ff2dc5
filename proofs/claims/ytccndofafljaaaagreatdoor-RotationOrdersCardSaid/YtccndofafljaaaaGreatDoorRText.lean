/- The reference: Text. -/
import Derived.Test.YtccndofafljaaaaGreatDoorRefO
import Derived.Test.YtccndofafljaaaaGreatDoorRefB
import Derived.Test.YtccndofafljaaaaGreatDoorText
import Derived.Lib.SlBytesRow

set_option linter.unusedVariables false
set_option linter.unusedSimpArgs false

namespace Go.Proofs.YtccndofafljaaaaGreatDoor
open Go Go.RowKit Num Go.Lib

/-- The digits of n, none for 0. -/
def dd (n : Nat) : List UInt8 := if n = 0 then [] else decDigits n
theorem dd_zero : dd 0 = [] := rfl
theorem dd_pos {n : Nat} (h : n ≠ 0) : dd n = dd (n / 10) ++ [UInt8.ofNat (48 + n % 10)] := by
  unfold dd
  rw [if_neg h]
  by_cases h1 : n < 10
  · rw [show n / 10 = 0 by omega, if_pos rfl, decDigits, dif_pos h1, Nat.mod_eq_of_lt h1]; rfl
  · rw [if_neg (by omega), decDigits, dif_neg h1]
theorem dd_ne {n : Nat} (h : n ≠ 0) : dd n ≠ [] := by rw [dd_pos h]; simp
/-- The text of an integer. -/
def zText (z : Int) : List UInt8 := signText (decide (z < 0)) ++ decDigits z.natAbs

/-- What holds at the head of Text's loop. -/
structure RTxtAt (w W0 wr : World) (N M : Nat) (s : Bool) (m : Value) (vm : Value) (sv : List UInt8) : Prop where
  own : Owned W0 wr M vm
  eq : dd M ++ sv = dd N
  below : Below w.heap.size w wr
  box : Box wr w.heap.size s m
  le : M ≤ N
  size : W0.heap.size ≤ wr.heap.size
/-- string([]byte{c}), c the digit r. -/
theorem conv_digit (r : Nat) (hr : r < 10) (w : World) :
    (convert 93 9 (.slice (some ⟨w.heap.size, 0, none⟩) 1 1)).run Tryz.prog (w.alloc (.cells #[.int .u8 (48 + (r : Int))] 5)) = .ok (.string ⟨#[UInt8.ofNat (48 + r)]⟩) (w.alloc (.cells #[.int .u8 (48 + (r : Int))] 5)) := by
  have hb : Lib.Bytes (w.alloc (.cells #[.int .u8 (48 + (r : Int))] 5)) w.heap.size 0 ⟨#[UInt8.ofNat (48 + r)]⟩ := by
    intro i hi
    obtain rfl : i = 0 := by
      have : i < 1 := hi
      omega
    rw [cell_of_row (w.alloc (.cells #[.int .u8 (48 + (r : Int))] 5)) w.heap.size (0 + 0) #[.int .u8 (48 + (r : Int))] 5 (0, 0) (heap_alloc_new w _)]
    have e : ((UInt8.ofNat (48 + r)).toNat : Int) = 48 + (r : Int) := by
      rw [UInt8.toNat_ofNat']; omega
    show some (Value.int .u8 (48 + (r : Int))) = some (.int .u8 ((UInt8.ofNat (48 + r)).toNat : Int))
    rw [e]
  exact run_convert_whole (P := Tryz.prog) _ 93 5 9 Tryz.underlying93 Tryz.underlying5 Tryz.underlying9 w.heap.size 0 ⟨#[UInt8.ofNat (48 + r)]⟩ hb 1
theorem str_cons (c : UInt8) (s : List UInt8) : (⟨#[c]⟩ : ByteArray) ++ ⟨s.toArray⟩ = ⟨(c :: s).toArray⟩ := by
  apply ByteArray.ext
  rw [ByteArray.data_append]
  simp
theorem ret_str {a b : ByteArray} (h : a = b) : Ending.returned (.string a) = .returned (.string b) := by rw [h]
theorem digit_add (r : Nat) : (48 : UInt8) + UInt8.ofNat r = UInt8.ofNat (48 + r) := by
  rw [UInt8.ofNat_add]; rfl

end Go.Proofs.YtccndofafljaaaaGreatDoor
