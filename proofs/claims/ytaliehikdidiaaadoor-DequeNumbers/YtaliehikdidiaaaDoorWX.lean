/- stage 22 (deque), pure: the seven programs as lists of instructions -/
import Derived.Test.YtaliehikdidiaaaDoorQX
namespace Go.Proofs.YtaliehikdidiaaaDoor.Dq
open Num Tr

/-! the programs -/
def loadC (c : Int) (l : Nat) : List Ins := [P c, I 16 0, I 8 l]
def loadS (B : Int) : List Ins := loadC (B + 1) 1 ++ loadC B 0
def turnS (c size : Int) (l : Nat) (by_ : Int) : List Ins := [I 7 l, P by_, I 10 1, P size, I 10 5, I 8 l, I 7 l, P c, I 17 0]
def roomS (R : Int) : List Ins := [I 7 1, P R, I 10 8, I 12 11, I 19 1]
def cellS (B R : Int) : List Ins := [I 7 0, I 10 1, P R, I 10 5, P (B + 2), I 10 1]
def putI (B R : Int) (at_ : Ins) : List Ins := [I 6 0, at_] ++ (cellS B R ++ [I 17 0])
def tellI (B R : Int) (at_ : Ins) : List Ins := [at_] ++ (cellS B R ++ [I 16 0, I 18 0])
def manyS : List Ins := [I 7 1, I 18 0, I 20 0]
def pfC (B R : Int) : List Ins := loadS B ++ (roomS R ++ (turnS B R 0 (R - 1) ++ (putI B R (P 0) ++ (turnS (B + 1) (R + 1) 1 1 ++ manyS))))
def pbC (B R : Int) : List Ins := loadS B ++ (roomS R ++ (putI B R (I 7 1) ++ (turnS (B + 1) (R + 1) 1 1 ++ manyS)))
def ofC (B R : Int) : List Ins := loadS B ++ ([I 7 1, I 13 35] ++ (tellI B R (P 0) ++ (turnS B R 0 1 ++ (turnS (B + 1) (R + 1) 1 R ++ [I 20 0]))))
def obC (B R : Int) : List Ins := loadS B ++ ([I 7 1, I 13 26] ++ (turnS (B + 1) (R + 1) 1 R ++ (tellI B R (I 7 1) ++ [I 20 0])))
def atC (B R : Int) : List Ins := loadS B ++ ([I 6 0, I 7 1, I 10 8, I 13 24] ++ ([I 6 0, P R, I 10 5, I 9 6, I 12 24] ++ (tellI B R (I 6 0) ++ [I 20 0])))
def lenC (B : Int) : List Ins := loadC (B + 1) 1 ++ manyS
def allC (B R : Int) : List Ins := loadS B ++ ([I 7 2, I 7 1, I 10 8, I 13 24] ++ (tellI B R (I 7 2) ++ ([I 7 2, P 1, I 10 1, I 8 2, I 11 6] ++ [I 20 0])))
def codeOf (B R : Int) : Nat → List Ins
  | 0 => pfC B R
  | 1 => pbC B R
  | 2 => ofC B R
  | 3 => obC B R
  | 4 => atC B R
  | 5 => lenC B
  | _ => allC B R
end Go.Proofs.YtaliehikdidiaaaDoor.Dq
