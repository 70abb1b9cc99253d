import Derived.Test.YtmmijcmlnhmooaaE1
namespace Go.Proofs.Ytmmijcmlnhmooaa
open Go.ChangeShapes Go.WideShapes Go.ChangeAt Go.RowKit Num
attribute [local go_sem] run_store_float run_store_func run_store_nilFunc

theorem funcT : ∃ ps rs v, Try.prog.underlying 101 = some (.func ps rs v) := ⟨#[40, 28], #[25], false, by kernel_rfl⟩
theorem run_equalIn_func {P : Program} (d : Nat) (t : TypeId) (f : Fn) (x y : Array Value) (w : World) {ps rs : Array TypeId} {v : Bool} (h : P.underlying t = some (.func ps rs v)) : (Op.equalIn (d + 1) t (.func f x y) .nilFunc).run P w = .ok false w := by
  simp [Op.equalIn, run_underlying h]
theorem run_equalIn_nil {P : Program} (d : Nat) (t : TypeId) (w : World) {ps rs : Array TypeId} {v : Bool} (h : P.underlying t = some (.func ps rs v)) : (Op.equalIn (d + 1) t .nilFunc .nilFunc).run P w = .ok true w := by
  simp [Op.equalIn, run_underlying h]
theorem run_equal_func {P : Program} (t : TypeId) (f : Fn) (x y : Array Value) (w : World) {ps rs : Array TypeId} {v : Bool} (h : P.underlying t = some (.func ps rs v)) : (Op.equal t (.func f x y) .nilFunc).run P w = .ok false w := run_equalIn_func 9999 t f x y w h
theorem run_equal_nil {P : Program} (t : TypeId) (w : World) {ps rs : Array TypeId} {v : Bool} (h : P.underlying t = some (.func ps rs v)) : (Op.equal t .nilFunc .nilFunc).run P w = .ok true w := run_equalIn_nil 9999 t w h
theorem run_eql_func (f : Fn) (x y : Array Value) (w : World) : (binOp .eql 101 (.func f x y) .nilFunc).run Try.prog w = .ok (.bool false) w := by
  obtain ⟨ps, rs, v, h⟩ := funcT
  simp only [binOp]
  simp [run_equal_func _ f x y w h]
theorem run_eql_nilFunc (w : World) : (binOp .eql 101 .nilFunc .nilFunc).run Try.prog w = .ok (.bool true) w := by
  obtain ⟨ps, rs, v, h⟩ := funcT
  simp only [binOp]
  simp [run_equal_nil _ w h]
attribute [local go_sem] run_eql_func run_eql_nilFunc
/-- a read as numbers: where, its stamp, what is next (4: it is over), what it has been told -/
structure Rd where
  p : Int
  c : Int
  s : Int
  k : Nat
  v : Int
  x : Nat
  y : Nat
  n : Int
  t : Bool
def viewF (k : Nat) : FuncId := if k = 0 then 57 else if k = 1 then 77 else if k = 2 then 87 else 78
def recvV (r : Rd) : Value := .agg #[.int .i64 r.p, .int .i64 r.c, .int .u64 r.s]
def nextV (r : Rd) : Value := if r.k < 4 then .func (.func (viewF r.k)) #[recvV r] #[] else .nilFunc
def rboxV (r : Rd) (f : Value) : Array Value := #[f, .int .u64 r.v, .float .f64 r.x, .float .f64 r.y, .int .i64 r.n, .bool r.t]
def RbAt (w : World) (q : Nat) (r : Rd) (f : Value) : Prop := w.heap[q]? = some (.cells (rboxV r f) 103 (0, 0))
def RdAt (w : World) (q : Nat) (r : Rd) : Prop := RbAt w q r (nextV r)
section
variable {w : World} {q : Nat} {r : Rd} {f : Value}
theorem RbAt.lt (h : RbAt w q r f) : q < w.heap.size := lt_of_block h
theorem RbAt.free (h : RbAt w q r f) (j : Nat) : w.frozen? ⟨q, j, none⟩ = false := frozen_of_row w q j _ _ h
theorem RbAt.cell0 (h : RbAt w q r f) : w.cell? ⟨q, 0, none⟩ = some f := by rw [cell_of_row w q 0 _ _ _ h]; rfl
theorem RbAt.cell1 (h : RbAt w q r f) : w.cell? ⟨q, 1, none⟩ = some (.int .u64 r.v) := by rw [cell_of_row w q 1 _ _ _ h]; rfl
theorem RbAt.cell2 (h : RbAt w q r f) : w.cell? ⟨q, 2, none⟩ = some (.float .f64 r.x) := by rw [cell_of_row w q 2 _ _ _ h]; rfl
theorem RbAt.cell3 (h : RbAt w q r f) : w.cell? ⟨q, 3, none⟩ = some (.float .f64 r.y) := by rw [cell_of_row w q 3 _ _ _ h]; rfl
theorem RbAt.cell4 (h : RbAt w q r f) : w.cell? ⟨q, 4, none⟩ = some (.int .i64 r.n) := by rw [cell_of_row w q 4 _ _ _ h]; rfl
theorem RbAt.cell5 (h : RbAt w q r f) : w.cell? ⟨q, 5, none⟩ = some (.bool r.t) := by rw [cell_of_row w q 5 _ _ _ h]; rfl
theorem RbAt.keep {w' : World} (h : RbAt w q r f) (k : w'.heap[q]? = w.heap[q]?) : RbAt w' q r f := k.trans h
theorem RbAt.setF (h : RbAt w q r f) (f' : Value) : RbAt (w.setCell ⟨q, 0, none⟩ f') q r f' := (heap_setCell_same w q 0 _ _ _ h).trans rfl
theorem RbAt.setV (h : RbAt w q r f) (v : Int) : RbAt (w.setCell ⟨q, 1, none⟩ (.int .u64 v)) q { r with v := v } f := (heap_setCell_same w q 1 _ _ _ h).trans rfl
theorem RbAt.setX (h : RbAt w q r f) (x : Nat) : RbAt (w.setCell ⟨q, 2, none⟩ (.float .f64 x)) q { r with x := x } f := (heap_setCell_same w q 2 _ _ _ h).trans rfl
theorem RbAt.setY (h : RbAt w q r f) (y : Nat) : RbAt (w.setCell ⟨q, 3, none⟩ (.float .f64 y)) q { r with y := y } f := (heap_setCell_same w q 3 _ _ _ h).trans rfl
theorem RbAt.setN (h : RbAt w q r f) (n : Int) : RbAt (w.setCell ⟨q, 4, none⟩ (.int .i64 n)) q { r with n := n } f := (heap_setCell_same w q 4 _ _ _ h).trans rfl
theorem RbAt.setT (h : RbAt w q r f) (t : Bool) : RbAt (w.setCell ⟨q, 5, none⟩ (.bool t)) q { r with t := t } f := (heap_setCell_same w q 5 _ _ _ h).trans rfl
theorem RbAt.ch {w' : World} {L : List Nat} (h : RbAt w q r f) (k : Ch L w w') (h1 : q ∉ L) : RbAt w' q r f := h.keep (k.block q h.lt h1)
theorem RdAt.ch {w' : World} {L : List Nat} (h : RdAt w q r) (k : Ch L w w') (h1 : q ∉ L) : RdAt w' q r := RbAt.ch h k h1
theorem RdAt.on {w' : World} (h : RdAt w q r) (k : Below w.heap.size w w') : RdAt w' q r := RbAt.keep h (k.block q (RbAt.lt h))
theorem RdAt.lt (h : RdAt w q r) : q < w.heap.size := RbAt.lt h
end
/-- which word the step has -/
def wrd (k : Nat) : Int := if k = 1 then 1 else if k = 3 then 2 else 0
theorem wrd_in (k : Nat) : 0 ≤ wrd k ∧ wrd k < 3 := by unfold wrd; split <;> (try split) <;> omega
/-- what a read is behind a word that it was told, but for its count -/
def nx0 (r : Rd) (u : Int) : Rd :=
  if r.k = 0 then { r with v := u, k := if r.s < u then 3 else 1 }
  else if r.k = 1 then { r with x := fixB u.toNat, k := 2 }
  else if r.k = 2 then (if u = r.v then { r with y := r.x, k := 4 } else { r with t := true, k := 3 })
  else { r with y := fixB u.toNat, k := 4 }
def errR (r : Rd) (ws : List Int) (o : Bool) : Int := if r.k < 4 then errC ws o r.p r.c (wrd r.k) else 3
def nxt (r : Rd) (u : Int) : Rd := { nx0 r u with n := up r.n }
def stepR (r : Rd) (ws : List Int) (o : Bool) : Rd := if errR r ws o = 0 then nxt r (wordC ws r.p r.c (wrd r.k)) else r

section
variable {w : World} {b g q : Nat} {ws : List Int} {o : Bool} {n : Int} {r : Rd}
set_option maxRecDepth 100000 in
theorem over_any (h : RdAt w q r) : Calls Try.prog 58 #[.pointer (some ⟨q, 0, none⟩)] w fun e w' => e = .returned (.bool (decide (4 ≤ r.k))) ∧ w' = w := by
  have h0 := RbAt.cell0 h
  have hq := RbAt.lt h
  unfold nextV at h0
  by_cases hk : r.k < 4
  · rw [if_pos hk] at h0
    generalize viewF r.k = ff at h0
    generalize recvV r = fr at h0
    have hk' : decide (4 ≤ r.k) = false := decide_eq_false (by omega)
    rw [hk']
    clear h hk hk'
    go_enter Try.func58, Try.ntmps58
    go_wp2
    go_ret
    exact ⟨rfl, rfl⟩
  · rw [if_neg hk] at h0
    have hk' : decide (4 ≤ r.k) = true := decide_eq_true (by omega)
    rw [hk']
    clear h hk hk'
    go_enter Try.func58, Try.ntmps58
    go_wp2
    go_ret
    exact ⟨rfl, rfl⟩
set_option maxRecDepth 100000 in
theorem end_any {f : Value} (h : RbAt w q r f) (x : Nat) : Calls Try.prog 88 #[.pointer (some ⟨q, 0, none⟩), .float .f64 x] w fun e w' => e = .returned (.tuple #[]) ∧ RbAt w' q { r with y := x } .nilFunc ∧ Ch [q] w w' := by
  have h0 := h.cell0
  have h3 := h.cell3
  have hq := h.lt
  have hf0 := h.free 0
  have hf3 := h.free 3
  have HM := Lib.hid h
  clear h
  go_enter Try.func88, Try.ntmps88
  go_wp2
  go_end0
  exact ⟨rfl, (HM.out.setY x).setF _, ((Ch.refl _ _).set (by simp) _ _).set (by simp) _ _⟩
end
end Go.Proofs.Ytmmijcmlnhmooaa
