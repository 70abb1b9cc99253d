import Derived.Test.YtffgnfbfifooeabDoorT1
import Derived.Lib.ItoaWalk
namespace Go.Proofs.YtffgnfbfifooeabDoor
open Go.ChangeShapes Go.WideShapes Go.ChangeAt Go.RowKit Num

theorem hexN_length : ∀ (k b : Nat), (hexN k b).length = k
  | 0, _ => rfl
  | k + 1, b => by rw [hexN, List.length_append, hexN_length k]; rfl

/-! what a digit is worth -/
def dvN (c : UInt8) : Nat := if 48 ≤ c.toNat ∧ c.toNat ≤ 57 then c.toNat - 48 else if 97 ≤ c.toNat ∧ c.toNat ≤ 102 then c.toNat - 87 else 16
theorem hexD_dv_fin : ∀ c : Fin 256, ∀ j : Fin 16, (((hexD j.val).toNat = c.val) ↔ j.val = dvN (UInt8.ofNat c.val)) := by decide +kernel
theorem hexD_dv (c : UInt8) (j : Nat) (h : j < 16) : (((hexD j).toNat = c.toNat) ↔ j = dvN c) := by
  have := hexD_dv_fin ⟨c.toNat, c.toNat_lt⟩ ⟨j, h⟩
  simpa using this
theorem dvN_hexD {j : Nat} (h : j < 16) : dvN (hexD j) = j := ((hexD_dv (hexD j) j h).1 rfl).symm
def dv (base : Nat) (c : UInt8) : Int := if dvN c < base then dvN c else -1
theorem d16_index (k : Int) (w : World) (h0 : 0 ≤ k) (h1 : k < 16) : (Instr.index 9 (.string d16) (.int .i64 k)).run Tryd.prog w = .ok (.int .u8 (hexD k.toNat).toNat) w := by
  have hs : d16.size = 16 := rfl
  rw [run_index_string w 9 d16 .i64 k Tryd.underlying9, dif_pos ⟨h0, by omega⟩]
  have e : ∀ j : Fin 16, d16.data.toList.getD j.val 0 = hexD j.val := by decide +kernel
  rw [Lib.getD_at d16 k.toNat (by omega), e ⟨k.toNat, by omega⟩]

end Go.Proofs.YtffgnfbfifooeabDoor
