import Derived.Test.YtaliehikdidiaaaGreatDoorY1
namespace Go.Proofs.YtaliehikdidiaaaGreatDoor
open Go.ChangeShapes Go.WideShapes Go.ChangeAt Go.RowKit Num

/-! numbers as values -/
def fls (l : List Nat) : List Value := l.map (Value.float .f64)
theorem fls_len (l : List Nat) : (fls l).length = l.length := by unfold fls; rw [List.length_map]
theorem fls_snoc (l : List Nat) (x : Nat) : fls (l ++ [x]) = fls l ++ [.float .f64 x] := by simp [fls]
theorem fls_at (l : List Nat) (j : Nat) (h : j < (fls l).length) (h' : j < l.length) : (fls l)[j] = .float .f64 l[j] := by simp [fls]
theorem fls_set (l : List Nat) (j : Nat) (x : Nat) : (fls l).set j (.float .f64 x) = fls (l.set j x) := by simp [fls, List.map_set]
end Go.Proofs.YtaliehikdidiaaaGreatDoor
