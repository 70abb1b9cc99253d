/- stage 20 (tree), pure: the seven programs' instructions -/
import Derived.Test.YthnpgbmagfhgpaaDoorQH
namespace Go.Proofs.YthnpgbmagfhgpaaDoor.Tr
open Num As

def wfB (l : List O) : Bool := l.all fun o => (o.kind != 2 && o.kind != 3) || (decide (0 ≤ o.n) && decide (o.n ≤ 1000))
theorem wf_all {l : List O} (h : wfB l = true) : ∀ o ∈ l, o.kind = 2 ∨ o.kind = 3 → Wf o.n := by
  intro o ho hk
  have h1 := List.all_eq_true.1 h o ho
  rw [Bool.or_eq_true, Bool.and_eq_true, Bool.and_eq_true, decide_eq_true_eq, decide_eq_true_eq] at h1
  rcases h1 with ⟨h1, h2⟩ | ⟨h1, h2⟩
  · rcases hk with hk | hk <;> rw [hk] at h1 h2
    · exact absurd h1 (by decide)
    · exact absurd h2 (by decide)
  · show (Lit.int .i64 o.n).wf = true
    have e1 : IntKind.i64.min = -9223372036854775808 := by decide
    have e2 : IntKind.i64.max = 9223372036854775807 := by decide
    simp [Lit.wf]
    omega

def getO (_B _R : Int) : List (List O) := [oSearch _B _R, oMark (2), oLoad (1) (1), oEmit, oMark (1), oHalt]

theorem get_code (B R : Int) : (bsOf 1 (getO B R).flatten).filled.map fixI = getC B R := by kernel_rfl
theorem get_ans (B R : Int) : (bsOf 1 (getO B R).flatten).ans = 0 := by kernel_rfl

theorem get_wf (B R : Int) : ∀ o ∈ (getO B R).flatten, o.kind = 2 ∨ o.kind = 3 → Wf o.n := wf_all (by kernel_rfl)

def putO (_B _R : Int) : List (List O) := [oSearch _B _R, oMark (2), oStore (1) (1) ([oArg (1)]), oTell (0), oMark (1), oFolded _B _R (_B + 1), oPush (_R), oTwo (8), oTo (12) (6), oDo (19) (1), oMark (6), oFolded _B _R (_B), oSet (0), oGet (0), oTo (12) (7), oFolded _B _R (_B + 1), oPush (1), oTwo (1), oSet (0), oMark (7), oGoTo _B _R, oLoad (1) (2), oPush (_B), oWrite, oStore (1) (0) ([oArg (0)]), oStore (1) (1) ([oArg (1)]), oStore (1) (2) ([oPush (0)]), oRelink _B _R ([oGet (0)]), oGrow _B _R (1), oTell (1)]

theorem put_code (B R : Int) : (bsOf 2 (putO B R).flatten).filled.map fixI = putCd B R := by kernel_rfl
theorem put_ans (B R : Int) : (bsOf 2 (putO B R).flatten).ans = 0 := by kernel_rfl

theorem put_wf (B R : Int) : ∀ o ∈ (putO B R).flatten, o.kind = 2 ∨ o.kind = 3 → Wf o.n := wf_all (by kernel_rfl)

def delO (_B _R : Int) : List (List O) := [oSearch _B _R, oMark (1), oTell (0), oMark (2), oAhead _B _R, oTo (13) (5), oBehind _B _R, oTo (13) (5), oGet (1), oSet (4), oCell (1) (2), oSet (2), oPush (_R + 1), oSet (3), oWalk _B _R (3) (1) ([oAhead _B _R, oTo (13) (4), oPush (1), oSet (3)]), oMark (4), oStore (4) (0) ([oLoad (1) (0)]), oStore (4) (1) ([oLoad (1) (1)]), oMark (5), oRelink _B _R ([oAhead _B _R, oBehind _B _R, oTwo (1), oGet (0), oTwo (2)]), oStore (1) (2) ([oFolded _B _R (_B)]), oGet (0), oPush (_B), oWrite, oGrow _B _R ((-1)), oTell (1)]

theorem del_code (B R : Int) : (bsOf 2 (delO B R).flatten).filled.map fixI = delC B R := by kernel_rfl
theorem del_ans (B R : Int) : (bsOf 2 (delO B R).flatten).ans = 0 := by kernel_rfl

theorem del_wf (B R : Int) : ∀ o ∈ (delO B R).flatten, o.kind = 2 ∨ o.kind = 3 → Wf o.n := wf_all (by kernel_rfl)

def leastO (_B _R : Int) : List (List O) := [oBegin _B _R, oWalk _B _R (0) (1) ([oGet (1), oSet (4)]), oMark (1), oEmitKept]

theorem least_code (B R : Int) : (bsOf 1 (leastO B R).flatten).filled.map fixI = leastC B R := by kernel_rfl
theorem least_ans (B R : Int) : (bsOf 1 (leastO B R).flatten).ans = 0 := by kernel_rfl

theorem least_wf (B R : Int) : ∀ o ∈ (leastO B R).flatten, o.kind = 2 ∨ o.kind = 3 → Wf o.n := wf_all (by kernel_rfl)

def afterO (_B _R : Int) : List (List O) := [oBegin _B _R, oWalk _B _R (0) (1) ([oArg (0), oLoad (1) (0), oTwo (12), oDo (3) (0), oTo (13) (8), oGet (1), oSet (4), oMark (8), oOne (5), oTurn _B _R]), oMark (1), oEmitKept]

theorem after_code (B R : Int) : (bsOf 1 (afterO B R).flatten).filled.map fixI = afterC B R := by kernel_rfl
theorem after_ans (B R : Int) : (bsOf 1 (afterO B R).flatten).ans = 0 := by kernel_rfl

theorem after_wf (B R : Int) : ∀ o ∈ (afterO B R).flatten, o.kind = 2 ∨ o.kind = 3 → Wf o.n := wf_all (by kernel_rfl)

def lenO (_B _R : Int) : List (List O) := [oFolded _B _R (_B + 1), oEmit, oHalt]

theorem len_code (B R : Int) : (bsOf 1 (lenO B R).flatten).filled.map fixI = lenC B R := by kernel_rfl
theorem len_ans (B R : Int) : (bsOf 1 (lenO B R).flatten).ans = 0 := by kernel_rfl

theorem len_wf (B R : Int) : ∀ o ∈ (lenO B R).flatten, o.kind = 2 ∨ o.kind = 3 → Wf o.n := wf_all (by kernel_rfl)

def allO (_B _R : Int) : List (List O) := [oPush (0), oBegin _B _R, oWalk _B _R (0) (1) ([oGet (1), oPush (1), oSet (3)]), oMark (1), oDo (3) (0), oTo (13) (9), oSet (1), oEmitPair (1), oCell (1) (2), oSet (2), oPush (_R + 1), oSet (3), oTo (11) (0), oMark (9), oHalt]

theorem all_code (B R : Int) : (bsOf 1 (allO B R).flatten).filled.map fixI = allC B R := by kernel_rfl
theorem all_ans (B R : Int) : (bsOf 1 (allO B R).flatten).ans = 0 := by kernel_rfl

theorem all_wf (B R : Int) : ∀ o ∈ (allO B R).flatten, o.kind = 2 ∨ o.kind = 3 → Wf o.n := wf_all (by kernel_rfl)

end Go.Proofs.YthnpgbmagfhgpaaDoor.Tr
