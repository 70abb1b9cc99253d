import Derived.Test.YtffgnfbfifooeabDoorT7
namespace Go.Proofs.YtffgnfbfifooeabDoor
open Go.ChangeShapes Go.WideShapes Go.ChangeAt Go.RowKit Num

/-! digits read -/
def readL (base : Nat) : Nat → List UInt8 → Option Nat
  | acc, [] => some acc
  | acc, c :: r => if dvN c < base then readL base (acc * base + dvN c) r else none
def readR (base : Nat) (l : List UInt8) : Nat × Bool :=
  if l.length = 0 ∨ 16 < l.length then (0, false) else match readL base 0 l with
    | some n => (n, true)
    | none => (0, false)

end Go.Proofs.YtffgnfbfifooeabDoor
