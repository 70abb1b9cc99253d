import Derived.Test.YtmmijcmlnhmooaaEW
namespace Go.Proofs.Ytmmijcmlnhmooaa
open Go.ChangeShapes Go.WideShapes Go.ChangeAt Go.RowKit Num
set_option linter.unusedVariables false
/-- a statement of the law's own text, by the number of its first region -/
def findStmt (n : Nat) : Code → Option Code
  | .seq (.region i ops d) y => if i = n then some (.seq (.region i ops d) y) else findStmt n y
  | .seq x y => match findStmt n x with
    | some c => some c
    | none => findStmt n y
  | .block _ c => findStmt n c
  | .scope c => findStmt n c
  | .loop c => findStmt n c
  | .cond _ x y => match findStmt n x with
    | some c => some c
    | none => findStmt n y
  | _ => none
def findRegion (n : Nat) : Code → Option Code
  | .region i ops d => if i = n then some (.region i ops d) else none
  | .seq x y => match findRegion n x with
    | some c => some c
    | none => findRegion n y
  | .block _ c => findRegion n c
  | .scope c => findRegion n c
  | .loop c => findRegion n c
  | .cond _ x y => match findRegion n x with
    | some c => some c
    | none => findRegion n y
  | _ => none
/-- how all stands behind i rounds of the first loop: p, q: the read, the write is over -/
def After (V w : World) (bm gm br bw pb e a s x y m i : Nat) (p q : Bool) : Prop := ∃ (d n : Nat) (r : Rd) (o : Bool) (nn : Int), p = decide (4 ≤ r.k) ∧ q = decide (d = 3) ∧ RI e s (fixB x) d r n ∧ Tm m i d n r.k ∧ Quad V w bm gm br bw pb (wsD e a (fixB x) (fixB y) d) o nn r (wtD a (fixB x) (fixB y) d)
end Go.Proofs.Ytmmijcmlnhmooaa
