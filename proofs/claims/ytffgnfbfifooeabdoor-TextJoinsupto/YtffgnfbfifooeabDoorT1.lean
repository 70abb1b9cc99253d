import Derived.Test.YtffgnfbfifooeabDoorWalkB
import Derived.Lib.ItoaNum
import Derived.Lib.ItoaLen
import Derived.Lib.Hide
import Derived.Below
namespace Go.Proofs.YtffgnfbfifooeabDoor
open Go.ChangeShapes Go.WideShapes Go.ChangeAt Go.RowKit Num

theorem bytes_eq {s t : ByteArray} (h : s.data.toList = t.data.toList) : s = t := ByteArray.ext (Array.ext' h)
theorem size_list (s : ByteArray) : s.size = s.data.toList.length := by rw [Array.length_toList]; rfl
theorem cons_bytes (d : UInt8) (s : ByteArray) : ((⟨#[d]⟩ : ByteArray) ++ s).data.toList = d :: s.data.toList := by
  simp

/-! digits -/
def hexD (n : Nat) : UInt8 := if n < 10 then UInt8.ofNat (48 + n) else UInt8.ofNat (87 + n)
def hexN : Nat → Nat → List UInt8
  | 0, _ => []
  | k + 1, b => hexN k (b / 16) ++ [hexD (b % 16)]
def d16 : ByteArray := { data := #[48, 49, 50, 51, 52, 53, 54, 55, 56, 57, 97, 98, 99, 100, 101, 102] }
theorem d16_at : ∀ i : Fin 16, (d16.extract i.val (i.val + 1)).data.toList = [hexD i.val] := by decide +kernel
theorem hexD_dec {n : Nat} (h : n < 10) : hexD n = UInt8.ofNat (48 + n) := by unfold hexD; rw [if_pos h]
theorem d16_piece (k : Int) (h0 : 0 ≤ k) (h1 : k < 16) : d16.extract k.toNat (k + 1).toNat = ⟨#[hexD k.toNat]⟩ := by
  have e := d16_at ⟨k.toNat, by omega⟩
  rw [show (k + 1).toNat = k.toNat + 1 by omega]
  apply ByteArray.ext
  apply Array.ext'
  exact e
theorem d16_slice (k : Int) (w : World) (h0 : 0 ≤ k) (h1 : k < 16) : (Instr.slice 9 (.string d16) (some (.int .i64 k)) (some (.int .i64 (k + 1))) none).run Tryd.prog w = .ok (.string ⟨#[hexD k.toNat]⟩) w := by
  rw [run_slice_string w 9 d16 .i64 .i64 k (k + 1) Tryd.underlying9 h0 (by omega) (by have : d16.size = 16 := rfl; omega), d16_piece k h0 h1]
theorem dec_step {k : Nat} (h : 9 < k) : Lib.decDigits k = Lib.decDigits (k / 10) ++ [hexD (k % 10)] := by
  rw [Lib.decDigits, dif_neg (by omega), hexD_dec (by omega)]

end Go.Proofs.YtffgnfbfifooeabDoor
