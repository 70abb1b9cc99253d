import Derived.Test.YtdfmmolhfacahaaM5
import Derived.Test.YtdfmmolhfacahaaM10
import Derived.Test.YtdfmmolhfacahaaSq
namespace Go.Proofs.Ytdfmmolhfacahaa
open Go.ChangeShapes Go.WideShapes Go.ChangeAt Go.RowKit

theorem follows13 : Try.prog.follows .mixedOrders = true := by kernel_rfl
/-- a plan, as a value -/
def plnV (a b c d e f : Int) : Value := .agg #[.int .i64 a, .int .i64 b, .int .i64 c, .int .i64 d, .int .i64 e, .int .i64 f]
def passV (t : Int) : Int := IntKind.u64.wrap (t + 1)
def backV (t : Int) : Int := IntKind.u64.wrap (t - 1)
theorem cell_kept {w w' : World} {b : Nat} (e : w'.heap[b]? = w.heap[b]?) (o : Nat) : w'.cell? ⟨b, o, none⟩ = w.cell? ⟨b, o, none⟩ := by simp [World.cell?, e]
theorem tb_drew {B : Nat} {a w : World} (h : Below B a w) : Below B a w.drew := ⟨h.os, h.tape, h.output, h.size, h.block⟩
theorem tb_drewN {B : Nat} {a w : World} (n : Nat) (h : Below B a w) : Below B a (w.drewN n) := ⟨h.os, h.tape, h.output, h.size, h.block⟩
theorem tb_alloc {a w : World} (h : Below a.heap.size a w) (x : Obj) : Below a.heap.size a (w.alloc x) := h.alloc h.size x
theorem alloc_at {w : World} {x : Obj} {k : Nat} (hk : w.heap.size = k) : (w.alloc x).heap[k]? = some x := by subst hk; exact heap_alloc_new _ _
/-- blocks of two types are two -/
theorem ne_ty {w : World} {a b : Nat} {c d : Array Value} {S T : TypeId} {x y : Nat × Nat} (h : w.heap[a]? = some (.cells c S x)) (k : w.heap[b]? = some (.cells d T y)) (hne : (S == T) = false) : a ≠ b := by
  rintro rfl
  rw [h] at k
  cases k
  simp at hne
/-- nothing old but three blocks has turned -/
structure Ch3 (b g l : Nat) (w w' : World) : Prop where
  os : w'.os = w.os
  tape : w'.tape = w.tape
  output : w'.output = w.output
  size : w.heap.size ≤ w'.heap.size
  block : ∀ k, k < w.heap.size → k ≠ b → k ≠ g → k ≠ l → w'.heap[k]? = w.heap[k]?
section
variable {b g l : Nat} {a w c : World}
theorem Ch3.refl (b g l : Nat) (w : World) : Ch3 b g l w w := ⟨rfl, rfl, rfl, Nat.le_refl _, fun _ _ _ _ _ => rfl⟩
theorem Ch3.trans (h : Ch3 b g l a w) (k : Ch3 b g l w c) : Ch3 b g l a c :=
  ⟨k.os.trans h.os, k.tape.trans h.tape, k.output.trans h.output, Nat.le_trans h.size k.size, fun i hi h1 h2 h3 => (k.block i (Nat.lt_of_lt_of_le hi h.size) h1 h2 h3).trans (h.block i hi h1 h2 h3)⟩
theorem Ch3.chg (h : Ch3 b g l a w) (k : Chg b g w c) : Ch3 b g l a c := h.trans ⟨k.os, k.tape, k.output, k.size, fun i hi h1 h2 _ => k.block i hi h1 h2⟩
theorem Ch3.on (h : Ch3 b g l a w) (k : Below w.heap.size w c) : Ch3 b g l a c := h.trans ⟨k.os, k.tape, k.output, k.size, fun i hi _ _ _ => k.block i hi⟩
theorem Ch3.set (h : Ch3 b g l a w) (j : Nat) (u : Value) : Ch3 b g l a (w.setCell ⟨l, j, none⟩ u) := h.trans ⟨rfl, rfl, rfl, by simp, fun k _ _ _ h3 => heap_setCell_other _ _ _ _ h3⟩
theorem Ch3.below {B : Nat} (h : Ch3 b g l a w) (hb : B ≤ b) (hg : B ≤ g) (hl : B ≤ l) (hB : B ≤ a.heap.size) : Below B a w :=
  ⟨h.os, h.tape, h.output, h.size, fun k hk => h.block k (by omega) (by omega) (by omega) (by omega)⟩
end
theorem chg_from {a w w' : World} {b g : Nat} (h : Below a.heap.size a w) (k : Chg b g w w') : Chg b g a w' := (Chg.trans ⟨h.os, h.tape, h.output, h.size, fun i hi _ _ => h.block i hi⟩ k)
theorem below_step {a w w' : World} (h : Below a.heap.size a w) (k : Below w.heap.size w w') : Below a.heap.size a w' := h.trans (k.mono h.size)

/-- may a thread be; where its word is -/
def may8 (t : Int) : Bool := decide (0 ≤ t ∧ t < 8)
def plc (p t : Int) : Int := if 0 ≤ p ∧ p ≤ 4096 then p + t else -1
theorem may8_pos {t : Int} (h : may8 t = true) : 0 ≤ t ∧ t < 8 := of_decide_eq_true h
theorem may8_neg {t : Int} (h : may8 t = false) : ¬ (0 ≤ t ∧ t < 8) := of_decide_eq_false h
theorem smay_any (p t : Int) (w : World) : Calls Try.prog 36 #[.agg #[.int .i64 p, .int .i64 t]] w fun e w' => e = .returned (.bool (may8 t)) ∧ Below w.heap.size w w' := by
  unfold may8
  by_cases h1 : 0 ≤ t
  · by_cases h2 : t < 8
    · go_enter Try.func36, Try.ntmps36
      go_wp2
      go_ret
      exact ⟨by first | (simp; done) | (simp; omega), (Below.refl _ _).alloc (Nat.le_refl _) _⟩
    · go_enter Try.func36, Try.ntmps36
      go_wp2
      go_ret
      exact ⟨by first | (simp; done) | (simp; omega), (Below.refl _ _).alloc (Nat.le_refl _) _⟩
  · go_enter Try.func36, Try.ntmps36
    go_wp2
    go_ret
    exact ⟨by first | (simp; done) | (simp; omega), (Below.refl _ _).alloc (Nat.le_refl _) _⟩
theorem splace_any (p t : Int) (ht : may8 t = true) (w : World) : Calls Try.prog 42 #[.agg #[.int .i64 p, .int .i64 t]] w fun e w' => e = .returned (.int .i64 (plc p t)) ∧ Below w.heap.size w w' := by
  obtain ⟨ht0, ht1⟩ := may8_pos ht
  clear ht
  by_cases h1 : 0 ≤ p
  · by_cases h2 : p ≤ 4096
    · have e : plc p t = p + t := by simp [plc, h1, h2]
      have e1 : wrap64 (p + t) = p + t := Go.IntWalk.wrap64_in _ ⟨by omega, by omega⟩
      have h1' : ¬ p < 0 := by omega
      have h2' : ¬ 4096 < p := by omega
      rw [e]
      clear e ht0 ht1
      go_enter Try.func42, Try.ntmps42
      go_wp2
      go_ret
      exact ⟨rfl, (Below.refl _ _).alloc (Nat.le_refl _) _⟩
    · have e : plc p t = -1 := by simp [plc, h2]
      rw [e]
      clear e ht0 ht1
      have h1' : ¬ p < 0 := by omega
      have h2' : 4096 < p := by omega
      go_enter Try.func42, Try.ntmps42
      go_wp2
      go_ret
      exact ⟨rfl, (Below.refl _ _).alloc (Nat.le_refl _) _⟩
  · have e : plc p t = -1 := by simp [plc, h1]
    rw [e]
    clear e ht0 ht1
    have h1' : p < 0 := by omega
    go_enter Try.func42, Try.ntmps42
    go_wp2
    go_ret
    exact ⟨rfl, (Below.refl _ _).alloc (Nat.le_refl _) _⟩
theorem wordOf_any (k : Int) (w : World) : Calls Try.prog 59 #[.int .u64 k] w fun e w' => e = .returned (.int .u64 (passV k)) ∧ w' = w := by
  unfold passV
  go_enter Try.func59, Try.ntmps59
  go_wp2
  go_ret
  exact ⟨rfl, rfl⟩
theorem claimOf_any (k : Int) (w : World) : Calls Try.prog 63 #[.int .u64 k] w fun e w' => e = .returned (.int .u64 (backV k)) ∧ w' = w := by
  unfold backV
  go_enter Try.func63, Try.ntmps63
  go_wp2
  go_ret
  exact ⟨rfl, rfl⟩

/-- a coming: where the stamp is, the census, the thread, how many accesses are done, the claim, the stamp -/
structure Cs where
  A : Int
  B : Int
  T : Int
  N : Int
  K : Int
  S : Int
def CmAt (w : World) (x : Nat) (c : Cs) : Prop := w.heap[x]? = some (.cells #[.int .i64 c.A, .int .i64 c.B, .int .i64 c.T, .int .i64 c.N, .int .u64 c.K, .int .u64 c.S] 75 (0, 0))
section
variable {w w' : World} {x : Nat} {c : Cs}
theorem CmAt.lt (h : CmAt w x c) : x < w.heap.size := lt_of_block h
theorem CmAt.keep (h : CmAt w x c) (e : w'.heap[x]? = w.heap[x]?) : CmAt w' x c := e.trans h
theorem CmAt.on (h : CmAt w x c) (k : Below w.heap.size w w') : CmAt w' x c := h.keep (k.block x h.lt)
theorem CmAt.cells (h : CmAt w x c) : w.cell? ⟨x, 0, none⟩ = some (.int .i64 c.A) ∧ w.cell? ⟨x, 1, none⟩ = some (.int .i64 c.B) ∧ w.cell? ⟨x, 2, none⟩ = some (.int .i64 c.T) ∧ w.cell? ⟨x, 3, none⟩ = some (.int .i64 c.N) ∧ w.cell? ⟨x, 4, none⟩ = some (.int .u64 c.K) ∧ w.cell? ⟨x, 5, none⟩ = some (.int .u64 c.S) ∧ x < w.heap.size ∧ w.frozen? ⟨x, 3, none⟩ = false ∧ w.frozen? ⟨x, 4, none⟩ = false ∧ w.frozen? ⟨x, 5, none⟩ = false :=
  ⟨by rw [cell_of_row w x 0 _ _ _ h]; rfl, by rw [cell_of_row w x 1 _ _ _ h]; rfl, by rw [cell_of_row w x 2 _ _ _ h]; rfl, by rw [cell_of_row w x 3 _ _ _ h]; rfl, by rw [cell_of_row w x 4 _ _ _ h]; rfl, by rw [cell_of_row w x 5 _ _ _ h]; rfl, lt_of_block h, frozen_of_row w x 3 _ _ h, frozen_of_row w x 4 _ _ h, frozen_of_row w x 5 _ _ h⟩
theorem CmAt.setN (h : CmAt w x c) (v : Int) : CmAt (w.setCell ⟨x, 3, none⟩ (.int .i64 v)) x { c with N := v } := (heap_setCell_same w x 3 _ _ _ h).trans rfl
theorem CmAt.setK (h : CmAt w x c) (v : Int) : CmAt (w.setCell ⟨x, 4, none⟩ (.int .u64 v)) x { c with K := v } := (heap_setCell_same w x 4 _ _ _ h).trans rfl
theorem CmAt.setS (h : CmAt w x c) (v : Int) : CmAt (w.setCell ⟨x, 5, none⟩ (.int .u64 v)) x { c with S := v } := (heap_setCell_same w x 5 _ _ _ h).trans rfl
theorem claim_any (h : CmAt w x c) : Calls Try.prog 30 #[.pointer (some ⟨x, 0, none⟩)] w fun e w' => e = .returned (.int .u64 c.K) ∧ w' = w := by
  obtain ⟨h0, h1, h2, h3, h4, h5, h6, _⟩ := h.cells
  clear h
  go_enter Try.func30, Try.ntmps30
  go_wp2
  go_ret
  exact ⟨rfl, rfl⟩
theorem stampC_any (h : CmAt w x c) : Calls Try.prog 34 #[.pointer (some ⟨x, 0, none⟩)] w fun e w' => e = .returned (.int .u64 c.S) ∧ w' = w := by
  obtain ⟨h0, h1, h2, h3, h4, h5, h6, _⟩ := h.cells
  clear h
  go_enter Try.func34, Try.ntmps34
  go_wp2
  go_ret
  exact ⟨rfl, rfl⟩
theorem overC_any (h : CmAt w x c) : Calls Try.prog 35 #[.pointer (some ⟨x, 0, none⟩)] w fun e w' => e = .returned (.bool (decide (c.N = 3))) ∧ w' = w := by
  obtain ⟨h0, h1, h2, h3, h4, h5, h6, _⟩ := h.cells
  clear h
  go_enter Try.func35, Try.ntmps35
  go_wp2
  go_ret
  exact ⟨rfl, rfl⟩
theorem come_any (a0 a1 a2 a3 a4 a5 t : Int) (w : World) : Calls Try.prog 9 #[plnV a0 a1 a2 a3 a4 a5, .int .i64 t] w fun e w' => ∃ x, e = .returned (.pointer (some ⟨x, 0, none⟩)) ∧ w.heap.size ≤ x ∧ CmAt w' x ⟨a2, a3, t, 0, 0, 0⟩ ∧ Below w.heap.size w w' := by
  unfold plnV
  go_enter Try.func9, Try.ntmps9
  go_wp2
  go_ret
  exact ⟨_, rfl, by simp, alloc_at (by simp), tb_alloc (tb_alloc (Below.refl _ _) _) _⟩
theorem cclone_any (h : CmAt w x c) : Calls Try.prog 69 #[.pointer (some ⟨x, 0, none⟩)] w fun e w' => ∃ y, e = .returned (.pointer (some ⟨y, 0, none⟩)) ∧ w.heap.size ≤ y ∧ CmAt w' y c ∧ Below w.heap.size w w' := by
  obtain ⟨h0, h1, h2, h3, h4, h5, h6, _⟩ := h.cells
  clear h
  go_enter Try.func69, Try.ntmps69
  go_wp2
  go_ret
  exact ⟨_, rfl, by simp, heap_alloc_new _ _, tb_alloc (Below.refl _ _) _⟩
end
end Go.Proofs.Ytdfmmolhfacahaa
