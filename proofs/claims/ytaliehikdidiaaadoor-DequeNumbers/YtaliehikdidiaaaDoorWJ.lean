/- stage 22 (deque), pure: what the pieces of each program come to -/
import Derived.Test.YtaliehikdidiaaaDoorWH
namespace Go.Proofs.YtaliehikdidiaaaDoor.Dq
open Num As

def ldO (B : Int) : List O := [loadO (B + 1) 1, loadO B 0].flatten
def putO (B R : Int) (l : List O) : List O := [[⟨0, 6, 0⟩], l, cellO B R, [⟨0, 17, 0⟩]].flatten
def telO (B R : Int) (l : List O) : List O := [l, cellO B R, [⟨0, 16, 0⟩], [⟨0, 18, 0⟩]].flatten
def pfO (B R : Int) : List O := [ldO B, needO R, turnO B R 0 (R - 1), putO B R [⟨1, 0, 0⟩], turnO (B + 1) (R + 1) 1 1, manyO].flatten
def pbO (B R : Int) : List O := [ldO B, needO R, putO B R [⟨0, 7, 1⟩], turnO (B + 1) (R + 1) 1 1, manyO].flatten
def ofO (B R : Int) : List O := [ldO B, [⟨0, 7, 1⟩], [⟨2, 13, 2⟩], telO B R [⟨1, 0, 0⟩], turnO B R 0 1, turnO (B + 1) (R + 1) 1 R, [⟨3, 0, 2⟩], [⟨0, 20, 0⟩]].flatten
def obO (B R : Int) : List O := [ldO B, [⟨0, 7, 1⟩], [⟨2, 13, 2⟩], turnO (B + 1) (R + 1) 1 R, telO B R [⟨0, 7, 1⟩], [⟨3, 0, 2⟩], [⟨0, 20, 0⟩]].flatten
def atO (B R : Int) : List O := [ldO B, [⟨0, 6, 0⟩], [⟨0, 7, 1⟩], [⟨0, 10, 8⟩], [⟨2, 13, 2⟩], [⟨0, 6, 0⟩], foldO R, [⟨0, 9, 6⟩], [⟨2, 12, 2⟩], telO B R [⟨0, 6, 0⟩], [⟨3, 0, 2⟩], [⟨0, 20, 0⟩]].flatten
def lenO (B : Int) : List O := [loadO (B + 1) 1, manyO].flatten
def allO (B R : Int) : List O := [ldO B, [⟨3, 0, 1⟩], [⟨0, 7, 2⟩], [⟨0, 7, 1⟩], [⟨0, 10, 8⟩], [⟨2, 13, 2⟩], telO B R [⟨0, 7, 2⟩], [⟨0, 7, 2⟩], [⟨1, 0, 1⟩], [⟨0, 10, 1⟩], [⟨0, 8, 2⟩], [⟨2, 11, 1⟩], [⟨3, 0, 2⟩], [⟨0, 20, 0⟩]].flatten
/-- what is told of a program's ops -/
structure Good (t : Int) (l : List O) (cs : List Ins) : Prop where
  len : l.length ≤ 4000
  wf : wfB l = true
  ans : (bsOf t l).ans = 0
  code : (bsOf t l).filled.map fixI = cs
theorem pf_good (B R : Int) : Good 2 (pfO B R) (pfC B R) := ⟨Nat.le_of_ble_eq_true (by kernel_rfl), by kernel_rfl, by kernel_rfl, by kernel_rfl⟩
theorem pb_good (B R : Int) : Good 2 (pbO B R) (pbC B R) := ⟨Nat.le_of_ble_eq_true (by kernel_rfl), by kernel_rfl, by kernel_rfl, by kernel_rfl⟩
theorem of_good (B R : Int) : Good 2 (ofO B R) (ofC B R) := ⟨Nat.le_of_ble_eq_true (by kernel_rfl), by kernel_rfl, by kernel_rfl, by kernel_rfl⟩
theorem ob_good (B R : Int) : Good 2 (obO B R) (obC B R) := ⟨Nat.le_of_ble_eq_true (by kernel_rfl), by kernel_rfl, by kernel_rfl, by kernel_rfl⟩
theorem at_good (B R : Int) : Good 1 (atO B R) (atC B R) := ⟨Nat.le_of_ble_eq_true (by kernel_rfl), by kernel_rfl, by kernel_rfl, by kernel_rfl⟩
theorem len_good (B : Int) : Good 1 (lenO B) (lenC B) := ⟨Nat.le_of_ble_eq_true (by kernel_rfl), by kernel_rfl, by kernel_rfl, by kernel_rfl⟩
theorem all_good (B R : Int) : Good 1 (allO B R) (allC B R) := ⟨Nat.le_of_ble_eq_true (by kernel_rfl), by kernel_rfl, by kernel_rfl, by kernel_rfl⟩
end Go.Proofs.YtaliehikdidiaaaDoor.Dq
