/- stage 20 (tree), pure: the seven programs as lists of instructions -/
import Derived.Test.YtaliehikdidiaaaGreatDoorC1
import Derived.Test.YtaliehikdidiaaaGreatDoorNum
namespace Go.Proofs.YtaliehikdidiaaaGreatDoor.Tr
open Num

/-- the float of a whole number -/
def X (n : Int) : Nat := floatOfInt .f64 n
def I (op : Int) (n : Nat) : Ins := ⟨op, n, 0⟩
def P (n : Int) : Ins := ⟨1, 0, fixB (X n)⟩
def linkSeg (R : Int) : List Ins := [I 10 4, I 9 3, P (R + 1), I 10 5]
def seek (B R : Int) (e : Nat) : List Ins := [I 7 2, I 16 0, I 7 3, I 10 4, I 9 3, P (R + 1), I 10 5, I 8 0, I 7 0, I 13 e, I 7 0, P 3, I 10 3, P B, I 10 1, I 8 1]
def loadK (f : Int) : List Ins := [I 7 1, P f, I 10 1, I 16 0]
def nextS (again : Nat) : List Ins := [I 7 1, P 2, I 10 1, I 8 2, I 11 again]
def turnS (R : Int) : List Ins := [P R, I 10 3, P 1, I 10 1, I 8 3]
def lookS (B R : Int) (again bottom found : Nat) : List Ins := seek B R bottom ++ (loadK 0 ++ ([I 6 0, I 10 11, I 12 found] ++ (loadK 0 ++ ([I 6 0, I 10 12] ++ (turnS R ++ nextS again)))))
def beginS (B : Int) : List Ins := [P (B + 2), I 8 2, P 1, I 8 3]
def foldS (R c : Int) : List Ins := [P c, I 16 0, P (R + 1), I 10 5]
def lenC (B R : Int) : List Ins := foldS R (B + 1) ++ [I 18 0, I 20 0]
def getC (B R : Int) : List Ins := beginS B ++ (lookS B R 4 48 43 ++ (loadK 1 ++ [I 18 0, I 20 0]))
def emitKS : List Ins := [I 7 4, P 0, I 10 1, I 16 0, I 18 0, I 7 4, P 1, I 10 1, I 16 0, I 18 0, I 20 0]
def leastC (B R : Int) : List Ins := beginS B ++ (seek B R 27 ++ ([I 7 1, I 8 4] ++ (nextS 4 ++ ([I 7 4, I 13 39] ++ emitKS))))
def afterC (B R : Int) : List Ins := beginS B ++ (seek B R 41 ++ ([I 6 0] ++ (loadK 0 ++ ([I 10 12, I 3 0, I 13 30, I 7 1, I 8 4, I 9 5] ++ (turnS R ++ (nextS 4 ++ ([I 7 4, I 13 53] ++ emitKS)))))))
def allC (B R : Int) : List Ins := [P 0] ++ (beginS B ++ (seek B R 29 ++ ([I 7 1, P 1, I 8 3] ++ (nextS 5 ++ ([I 3 0, I 13 49, I 8 1] ++ (loadK 0 ++ ([I 18 0] ++ (loadK 1 ++ ([I 18 0] ++ ([I 7 1, P 2, I 10 1, I 8 2, P (R + 1), I 8 3, I 11 5] ++ [I 20 0]))))))))))
def addrS (f : Int) : List Ins := [I 7 1, P f, I 10 1]
def goToS (B : Int) : List Ins := [I 7 0, P 3, I 10 3, P B, I 10 1, I 8 1]
def growS (R c : Int) (by_ : Int) : List Ins := foldS R c ++ [P by_, I 10 1, P c, I 17 0]
def putCd (B R : Int) : List Ins := beginS B ++ (lookS B R 4 51 43 ++ (([I 6 1] ++ (addrS 1 ++ [I 17 0, P 0, I 18 0, I 20 0])) ++ (foldS R (B + 1) ++ ([P R, I 10 8, I 12 59, I 19 1] ++ (foldS R B ++ ([I 8 0, I 7 0, I 12 73] ++ (foldS R (B + 1) ++ ([P 1, I 10 1, I 8 0] ++ (goToS B ++ (loadK 2 ++ ([P B, I 17 0, I 6 0] ++ (addrS 0 ++ ([I 17 0, I 6 1] ++ (addrS 1 ++ ([I 17 0, P 0] ++ (addrS 2 ++ ([I 17 0, I 7 2, I 16 0, I 7 0, I 7 3, I 10 3, I 10 1, I 7 2, I 17 0] ++ (growS R (B + 1) 1 ++ [P 1, I 18 0, I 20 0]))))))))))))))))))
def childS (R s : Int) : List Ins := loadK 2 ++ ([P s] ++ linkSeg R)
def loneS (B R : Int) : List Ins := [I 7 2, I 16 0] ++ (childS R 1 ++ (childS R (R + 1) ++ ([I 10 1, I 7 0, I 10 2, I 7 3, I 10 3, I 10 1, I 7 2, I 17 0] ++ (foldS R B ++ (addrS 2 ++ ([I 17 0, I 7 0, P B, I 17 0] ++ (growS R (B + 1) (-1) ++ [P 1, I 18 0, I 20 0])))))))
def delC (B R : Int) : List Ins := beginS B ++ (lookS B R 4 43 46 ++ ([P 0, I 18 0, I 20 0] ++ (childS R 1 ++ ([I 13 123] ++ (childS R (R + 1) ++ ([I 13 123, I 7 1, I 8 4] ++ (addrS 2 ++ ([I 8 2, P (R + 1), I 8 3] ++ (seek B R 43 ++ (childS R 1 ++ ([I 13 107, P 1, I 8 3] ++ (nextS 74 ++ (loadK 0 ++ ([I 7 4, P 0, I 10 1, I 17 0] ++ (loadK 1 ++ ([I 7 4, P 1, I 10 1, I 17 0] ++ loneS B R))))))))))))))))
end Go.Proofs.YtaliehikdidiaaaGreatDoor.Tr
