import Derived.Test.YteinilmecnlanaaGreatDoorKM
import Derived.Test.YteinilmecnlanaaGreatDoorKJ
import Derived.Test.YteinilmecnlanaaGreatDoorR1
import Derived.Test.YteinilmecnlanaaGreatDoorKF
namespace Go.Proofs.YteinilmecnlanaaGreatDoor
open Go.ChangeShapes Go.WideShapes Go.ChangeAt Go.RowKit Num

/-! what a step comes to -/
/-- what a machine never changes -/
structure Like (m m' : Mac) : Prop where
  cells : m'.cells = m.cells
  fuel : m'.fuel = m.fuel
  wmax : m'.wmax = m.wmax
  upd : m'.upd = m.upd
  code : m'.code = m.code
theorem Like.refl (m : Mac) : Like m m := ⟨rfl, rfl, rfl, rfl, rfl⟩
theorem Like.trans {a b c : Mac} (h : Like a b) (k : Like b c) : Like a c := ⟨k.cells.trans h.cells, k.fuel.trans h.fuel, k.wmax.trans h.wmax, k.upd.trans h.upd, k.code.trans h.code⟩
def Ends (_m : Mac) (r : Mac × Ask) : Prop := r.2.kind = 4 ∧ r.1.how ≠ 0 ∧ ¬ 0 ≤ r.1.wait
def Waits (m : Mac) (r : Mac × Ask) : Prop := r.2.kind = 1 ∧ r.2.cell = r.1.wait ∧ 0 ≤ r.1.wait ∧ r.1.how = 0 ∧ r.1.used = m.used + 1
def Goes (m : Mac) (r : Mac × Ask) : Prop := (r.2.kind = 0 ∨ r.2.kind = 2 ∨ r.2.kind = 3) ∧ ¬ 0 ≤ r.1.wait ∧ r.1.how = 0 ∧ r.1.used = m.used + 1
def Turns (m : Mac) (r : Mac × Ask) : Prop := Like m r.1 ∧ (Ends m r ∨ Waits m r ∨ Goes m r)
section
variable {m : Mac}
theorem fails_turns (hw : ¬ 0 ≤ m.wait) (e : Int) : Turns m (failM m e) := ⟨⟨rfl, rfl, rfl, rfl, rfl⟩, .inl ⟨rfl, by show (3 : Int) ≠ 0; decide, hw⟩⟩
theorem fails_begun (hw : ¬ 0 ≤ m.wait) (e : Int) : Turns m (failM (begM m) e) := ⟨⟨rfl, rfl, rfl, rfl, rfl⟩, .inl ⟨rfl, by show (3 : Int) ≠ 0; decide, hw⟩⟩
theorem do_turns (hw : ¬ 0 ≤ m.wait) (h0 : m.how = 0) (hcl : m.cells ≤ 256) {k : Nat} {n : Int} {x : Nat} (hk : 1 ≤ k ∧ k < 21) : Turns m (doM (begM m) ⟨k, n, x⟩) := by
  have hkk : k = 1 ∨ k = 2 ∨ k = 3 ∨ k = 4 ∨ k = 5 ∨ k = 6 ∨ k = 7 ∨ k = 8 ∨ k = 9 ∨ k = 10 ∨ k = 11 ∨ k = 12 ∨ k = 13 ∨ k = 14 ∨ k = 15 ∨ k = 16 ∨ k = 17 ∨ k = 18 ∨ k = 19 ∨ k = 20 := by omega
  rcases hkk with rfl | rfl | rfl | rfl | rfl | rfl | rfl | rfl | rfl | rfl | rfl | rfl | rfl | rfl | rfl | rfl | rfl | rfl | rfl | rfl
  · exact ⟨⟨rfl, rfl, rfl, rfl, rfl⟩, .inr (.inr ⟨.inl rfl, hw, h0, rfl⟩)⟩
  · exact ⟨⟨rfl, rfl, rfl, rfl, rfl⟩, .inr (.inr ⟨.inl rfl, hw, h0, rfl⟩)⟩
  · exact ⟨⟨rfl, rfl, rfl, rfl, rfl⟩, .inr (.inr ⟨.inl rfl, hw, h0, rfl⟩)⟩
  · exact ⟨⟨rfl, rfl, rfl, rfl, rfl⟩, .inr (.inr ⟨.inl rfl, hw, h0, rfl⟩)⟩
  · exact ⟨⟨rfl, rfl, rfl, rfl, rfl⟩, .inr (.inr ⟨.inl rfl, hw, h0, rfl⟩)⟩
  · exact ⟨⟨rfl, rfl, rfl, rfl, rfl⟩, .inr (.inr ⟨.inl rfl, hw, h0, rfl⟩)⟩
  · exact ⟨⟨rfl, rfl, rfl, rfl, rfl⟩, .inr (.inr ⟨.inl rfl, hw, h0, rfl⟩)⟩
  · exact ⟨⟨rfl, rfl, rfl, rfl, rfl⟩, .inr (.inr ⟨.inl rfl, hw, h0, rfl⟩)⟩
  · exact ⟨⟨rfl, rfl, rfl, rfl, rfl⟩, .inr (.inr ⟨.inl rfl, hw, h0, rfl⟩)⟩
  · exact ⟨⟨rfl, rfl, rfl, rfl, rfl⟩, .inr (.inr ⟨.inl rfl, hw, h0, rfl⟩)⟩
  · exact ⟨⟨rfl, rfl, rfl, rfl, rfl⟩, .inr (.inr ⟨.inl rfl, hw, h0, rfl⟩)⟩
  · exact ⟨⟨rfl, rfl, rfl, rfl, rfl⟩, .inr (.inr ⟨.inl rfl, hw, h0, rfl⟩)⟩
  · exact ⟨⟨rfl, rfl, rfl, rfl, rfl⟩, .inr (.inr ⟨.inl rfl, hw, h0, rfl⟩)⟩
  · exact ⟨⟨rfl, rfl, rfl, rfl, rfl⟩, .inr (.inr ⟨.inl rfl, hw, h0, rfl⟩)⟩
  · show Turns m (retM (begM m))
    cases hc : (begM m).calls with
    | nil =>
      rw [retM_nil hc]
      exact ⟨⟨rfl, rfl, rfl, rfl, rfl⟩, .inl ⟨rfl, by show (1 : Int) ≠ 0; decide, hw⟩⟩
    | cons c q =>
      rw [retM_cons hc]
      exact ⟨⟨rfl, rfl, rfl, rfl, rfl⟩, .inr (.inr ⟨.inl rfl, hw, h0, rfl⟩)⟩
  · show Turns m (readM (begM m))
    unfold readM
    cases ha : addrB (begM m) with
    | false => exact fails_begun hw 50
    | true =>
      have hid := idx_wf ((begM m).st.getD 0 0) (n := m.cells) hcl ha
      cases hh : hasC (begM m).buf (addrV (begM m)) with
      | false =>
        rw [if_pos rfl, if_neg Bool.false_ne_true]
        exact ⟨⟨rfl, rfl, rfl, rfl, rfl⟩, .inr (.inl ⟨rfl, rfl, hid.1, h0, rfl⟩)⟩
      | true =>
        rw [if_pos rfl, if_pos rfl]
        exact ⟨⟨rfl, rfl, rfl, rfl, rfl⟩, .inr (.inr ⟨.inr (.inl rfl), hw, h0, rfl⟩)⟩
  · show Turns m (writeM (begM m))
    unfold writeM
    cases hu : (begM m).upd with
    | false => exact fails_begun hw 81
    | true =>
      cases ha : addrB (begM m) with
      | false => exact fails_begun hw 50
      | true =>
        cases hp : mayP (begM m).wmax (begM m).buf (addrV (begM m)) with
        | false => exact fails_begun hw 70
        | true =>
          rw [if_pos rfl, if_pos rfl, if_pos rfl]
          exact ⟨⟨rfl, rfl, rfl, hu.symm ▸ rfl, rfl⟩, .inr (.inr ⟨.inr (.inr rfl), hw, h0, rfl⟩)⟩
  · exact ⟨⟨rfl, rfl, rfl, rfl, rfl⟩, .inr (.inr ⟨.inl rfl, hw, h0, rfl⟩)⟩
  · exact ⟨⟨rfl, rfl, rfl, rfl, rfl⟩, .inl ⟨rfl, by show (2 : Int) ≠ 0; decide, hw⟩⟩
  · exact ⟨⟨rfl, rfl, rfl, rfl, rfl⟩, .inl ⟨rfl, by show (1 : Int) ≠ 0; decide, hw⟩⟩
theorem step_turns (h : Inv m) (hw : ¬ 0 ≤ m.wait) (h0 : m.how = 0) : Turns m (stepM m) := by
  unfold stepM
  rw [if_neg hw, if_pos h0]
  by_cases hf : m.used < m.fuel
  · rw [if_pos hf]
    by_cases hp : m.place < (m.code.length : Int)
    · rw [if_pos hp]
      have hk : m.place.toNat < m.code.length := by have := h.place; omega
      have hmay := h.may _ hk
      cases hr : roomB (begM m) (insM m) with
      | false => exact fails_begun hw 82
      | true =>
        rw [if_pos rfl]
        unfold insM
        rcases hci : ci m.code m.place.toNat with ⟨o, n, x⟩
        rw [hci] at hmay
        obtain ⟨q, hq⟩ : ∃ q : Nat, o = q := ⟨o.toNat, by have := hmay.1; unfold mayB knownB at this; simp at this; omega⟩
        subst hq
        exact do_turns hw h0 h.cells.2 (fits_parts hmay.1).1
    · rw [if_neg hp]
      exact fails_turns hw 50
  · rw [if_neg hf]
    exact fails_turns hw 80
/-- with no fuel left it ends -/
theorem step_last (hw : ¬ 0 ≤ m.wait) (h0 : m.how = 0) (hf : ¬ m.used < m.fuel) : Ends m (stepM m) := by
  unfold stepM
  rw [if_neg hw, if_pos h0, if_neg hf]
  exact ⟨rfl, by show (3 : Int) ≠ 0; decide, hw⟩
/-- given the number that it waits for, it goes on -/
theorem give_goes (hw : 0 ≤ m.wait) (x : Nat) : ¬ 0 ≤ (giveM m x).wait ∧ (giveM m x).how = m.how ∧ (giveM m x).used = m.used ∧ Like m (giveM m x) := by
  unfold giveM
  rw [if_pos hw]
  exact ⟨by show ¬ (0 : Int) ≤ -1; decide, rfl, rfl, ⟨rfl, rfl, rfl, rfl, rfl⟩⟩
end
/-- the numbers that a machine is given -/
def fedV (l : List Nat) (k : Nat) : Nat := if l = [] then 0 else l.getD (k % l.length) 0
theorem fedV_lt {l : List Nat} (h : ∀ x ∈ l, x < 18446744073709551616) (k : Nat) : fedV l k < 18446744073709551616 := by
  unfold fedV
  split
  · decide
  · exact getD_all (P := fun x => x < 18446744073709551616) 0 (by decide) l h _
end Go.Proofs.YteinilmecnlanaaGreatDoor
namespace Go.Proofs.YteinilmecnlanaaGreatDoor
open Go.ChangeShapes Go.WideShapes Go.ChangeAt Go.RowKit Num
attribute [local go_sem] run_store_float frombits_run bits_run

end Go.Proofs.YteinilmecnlanaaGreatDoor
namespace Go.Proofs.YteinilmecnlanaaGreatDoor
open Go.ChangeShapes Go.WideShapes Go.ChangeAt Go.RowKit Num
attribute [local go_sem] run_store_float

section
variable {w : World}
/-- New, whatever is handed in -/
theorem mnew_any {a b c e t : Int} {ao : Option Addr} {cs : List Ins} {n cap : Nat} {po : Option Addr} {l : List Nat} {k co : Nat} (hn : cs.length = n) (hk : l.length = k) (hT : Shaped5 w) (hC : CodeAt w ao cs) (hL : FlAt w po l) (hnl : n ≤ 9223372036854775807) (hc : Md.cfgB a b c e = true) (hk8 : k ≤ 8) : Calls Tryz.prog 61 #[cfgV a b c e, .agg #[.int .i64 t, .slice ao n cap], .slice po k co] w fun r w' => ∃ bm K, r = .returned (.pointer (some ⟨bm, 0, none⟩)) ∧ Gm w [] bm K w' (newM a c e t cs l) ∧ Abv w.heap.size K := by
  cases hq : checkB t cs
  · exact mnew_no hc hn hk hk8 hT hC hL hnl hq
  · exact mnew_yes hc hn hk hk8 hT hC hL hnl hq
theorem mnew_nil {a b c e t : Int} {ao : Option Addr} {n cap : Nat} {po : Option Addr} {k co : Nat} (h : (Md.cfgB a b c e && decide (k ≤ 8)) = false) : Calls Tryz.prog 61 #[cfgV a b c e, .agg #[.int .i64 t, .slice ao n cap], .slice po k co] w fun r w' => r = .returned (.pointer none) ∧ Below w.heap.size w w' := by
  cases hc : Md.cfgB a b c e
  · exact mnew_cfg a b c e t ao n cap po k co hc
  · rw [hc] at h
    exact mnew_args a b c e t ao n cap po k co hc (by simpa using h)
theorem rnew_nil {a b c e t : Int} {ao : Option Addr} {n cap : Nat} {po : Option Addr} {k co : Nat} (h : (Md.cfgB a b c e && decide (k ≤ 8)) = false) : Calls Tryz.prog 71 #[cfgV a b c e, .agg #[.int .i64 t, .slice ao n cap], .slice po k co] w fun r w' => r = .returned (.pointer none) ∧ Below w.heap.size w w' := by
  cases hc : Md.cfgB a b c e
  · exact rnew_cfg a b c e t ao n cap po k co hc
  · rw [hc] at h
    exact rnew_args a b c e t ao n cap po k co hc (by simpa using h)
theorem rnew_any {a b c e t : Int} {ao : Option Addr} {cs : List Ins} {n cap : Nat} {po : Option Addr} {l : List Nat} {k co : Nat} (hn : cs.length = n) (hk : l.length = k) (hC : CodeAt w ao cs) (hL : FlAt w po l) (hnl : n ≤ 9223372036854775807) (hc : Md.cfgB a b c e = true) (hk8 : k ≤ 8) : Calls Tryz.prog 71 #[cfgV a b c e, .agg #[.int .i64 t, .slice ao n cap], .slice po k co] w fun r w' => ∃ br : Nat, r = .returned (.pointer (some ⟨br, 0, none⟩)) ∧ Below w.heap.size w w' :=
  (rnew_some hc hn hk hk8 hC hL hnl).mono fun _ _ ⟨br, _, _, _, a1, a2⟩ => ⟨br, a1, a2.bl⟩
end
/-- a machine that goes on, with what it has begun -/
structure Run (B : World) (bm : Nat) (K : List Nat) (wr : World) (m0 m : Mac) (i : Nat) : Prop where
  gm : Gm B [] bm K wr m
  inv : Inv m
  nw : ¬ 0 ≤ m.wait
  how : m.how = 0
  used : m.used = i
  like : Like m0 m
end Go.Proofs.YteinilmecnlanaaGreatDoor
namespace Go.Proofs.YteinilmecnlanaaGreatDoor
open Go.ChangeShapes Go.WideShapes Go.ChangeAt Go.RowKit Num

/-! what a step does with the buffer, and with the stack -/
/-- what it asks, and what becomes of its buffer -/
def Bufs (m : Mac) (r : Mac × Ask) : Prop :=
  (r.2.kind = 0 ∧ r.1.buf = m.buf) ∨ (r.2.kind = 4 ∧ r.1.buf = m.buf) ∨ (r.2.kind = 1 ∧ r.1.buf = m.buf ∧ hasC m.buf r.2.cell = false ∧ 0 ≤ r.2.cell ∧ r.2.cell < m.cells) ∨
  (r.2.kind = 2 ∧ r.1.buf = m.buf ∧ hasC m.buf r.2.cell = true ∧ r.2.x = getC m.buf r.2.cell ∧ 0 ≤ r.2.cell ∧ r.2.cell < m.cells) ∨
  (r.2.kind = 3 ∧ r.1.buf = putC m.buf r.2.cell r.2.x ∧ r.2.first = !hasC m.buf r.2.cell ∧ 0 ≤ r.2.cell ∧ r.2.cell < m.cells)
section
variable {m : Mac}
theorem fails_bufs (e : Int) : Bufs m (failM m e) := .inr (.inl ⟨rfl, rfl⟩)
theorem fails_bufs' (e : Int) : Bufs m (failM (begM m) e) := .inr (.inl ⟨rfl, rfl⟩)
theorem do_bufs (hcl : m.cells ≤ 256) {k : Nat} {n : Int} {x : Nat} (hk : 1 ≤ k ∧ k < 21) : Bufs m (doM (begM m) ⟨k, n, x⟩) := by
  have hkk : k = 1 ∨ k = 2 ∨ k = 3 ∨ k = 4 ∨ k = 5 ∨ k = 6 ∨ k = 7 ∨ k = 8 ∨ k = 9 ∨ k = 10 ∨ k = 11 ∨ k = 12 ∨ k = 13 ∨ k = 14 ∨ k = 15 ∨ k = 16 ∨ k = 17 ∨ k = 18 ∨ k = 19 ∨ k = 20 := by omega
  rcases hkk with rfl | rfl | rfl | rfl | rfl | rfl | rfl | rfl | rfl | rfl | rfl | rfl | rfl | rfl | rfl | rfl | rfl | rfl | rfl | rfl
  iterate 14 exact .inl ⟨rfl, rfl⟩
  · show Bufs m (retM (begM m))
    cases hc : (begM m).calls with
    | nil =>
      rw [retM_nil hc]
      exact .inr (.inl ⟨rfl, rfl⟩)
    | cons c q =>
      rw [retM_cons hc]
      exact .inl ⟨rfl, rfl⟩
  · show Bufs m (readM (begM m))
    unfold readM
    cases ha : addrB (begM m) with
    | false => exact fails_bufs' 50
    | true =>
      have hid := idx_wf ((begM m).st.getD 0 0) (n := m.cells) hcl ha
      cases hh : hasC (begM m).buf (addrV (begM m)) with
      | false =>
        rw [if_pos rfl, if_neg Bool.false_ne_true]
        exact .inr (.inr (.inl ⟨rfl, rfl, hh, hid.1, hid.2.1⟩))
      | true =>
        rw [if_pos rfl, if_pos rfl]
        exact .inr (.inr (.inr (.inl ⟨rfl, rfl, hh, rfl, hid.1, hid.2.1⟩)))
  · show Bufs m (writeM (begM m))
    unfold writeM
    cases hu : (begM m).upd with
    | false => exact fails_bufs' 81
    | true =>
      cases ha : addrB (begM m) with
      | false => exact fails_bufs' 50
      | true =>
        have hid := idx_wf ((begM m).st.getD 0 0) (n := m.cells) hcl ha
        cases hp : mayP (begM m).wmax (begM m).buf (addrV (begM m)) with
        | false => exact fails_bufs' 70
        | true =>
          rw [if_pos rfl, if_pos rfl, if_pos rfl]
          exact .inr (.inr (.inr (.inr ⟨rfl, rfl, rfl, hid.1, hid.2.1⟩)))
  · exact .inl ⟨rfl, rfl⟩
  · exact .inr (.inl ⟨rfl, rfl⟩)
  · exact .inr (.inl ⟨rfl, rfl⟩)
theorem step_bufs (h : Inv m) (hw : ¬ 0 ≤ m.wait) (h0 : m.how = 0) : Bufs m (stepM m) := by
  unfold stepM
  rw [if_neg hw, if_pos h0]
  by_cases hf : m.used < m.fuel
  · rw [if_pos hf]
    by_cases hp : m.place < (m.code.length : Int)
    · rw [if_pos hp]
      have hk : m.place.toNat < m.code.length := by have := h.place; omega
      have hmay := h.may _ hk
      cases hr : roomB (begM m) (insM m) with
      | false => exact fails_bufs' 82
      | true =>
        rw [if_pos rfl]
        unfold insM
        rcases hci : ci m.code m.place.toNat with ⟨o, n, x⟩
        rw [hci] at hmay
        obtain ⟨q, hq⟩ : ∃ q : Nat, o = q := ⟨o.toNat, by have := hmay.1; unfold mayB knownB at this; simp at this; omega⟩
        subst hq
        exact do_bufs h.cells.2 (fits_parts hmay.1).1
    · rw [if_neg hp]
      exact fails_bufs 50
  · rw [if_neg hf]
    exact fails_bufs 80
theorem give_bufs (x : Nat) : (giveM m x).buf = m.buf := by
  unfold giveM
  split <;> rfl
end
/-- two tables beside a buffer: which cells were written, and their numbers -/
def Tabled (l : Wr) (hs : List Bool) (xs : List Nat) : Prop := hs.length = 256 ∧ xs.length = 256 ∧ ∀ c : Nat, c < 256 → hs.getD c false = hasC l c ∧ (hasC l c = true → xs.getD c 0 = getC l c)
theorem tabled_nil : Tabled [] (List.replicate 256 false) (List.replicate 256 0) := by
  refine ⟨List.length_replicate, List.length_replicate, fun c hc => ⟨?_, fun h => ?_⟩⟩
  · rw [List.getD_eq_getElem?_getD, List.getElem?_replicate, if_pos hc]
    rfl
  · exact absurd h (by simp [hasC, idx_nil])
theorem Tabled.put {l : Wr} {hs : List Bool} {xs : List Nat} (h : Tabled l hs xs) {c : Nat} (hc : c < 256) (x : Nat) : Tabled (putC l c x) (hs.set c true) (xs.set c x) := by
  obtain ⟨h1, h2, h3⟩ := h
  refine ⟨by simpa using h1, by simpa using h2, fun d hd => ?_⟩
  rw [hasC_put, getC_put]
  by_cases e : c = d
  · subst e
    simp [List.getD_eq_getElem?_getD, h1, h2, hc]
  · have e' : ¬ (c : Int) = (d : Int) := by omega
    have hn : c ≠ d := e
    simp only [e', decide_false, Bool.false_or, if_false]
    rw [List.getD_eq_getElem?_getD, List.getD_eq_getElem?_getD, List.getElem?_set_ne hn, List.getElem?_set_ne hn, ← List.getD_eq_getElem?_getD, ← List.getD_eq_getElem?_getD]
    exact h3 d hd
end Go.Proofs.YteinilmecnlanaaGreatDoor
namespace Go.Proofs.YteinilmecnlanaaGreatDoor
open Go.ChangeShapes Go.WideShapes Go.ChangeAt Go.RowKit Num
attribute [local go_sem] run_store_float

/-! MachineOwn's tables beside a machine -/
def bls (l : List Bool) : List Value := l.map Value.bool
theorem bls_len (l : List Bool) : (bls l).length = l.length := by unfold bls; rw [List.length_map]
theorem bInfo : (Tryz.prog.info? 4).map (fun i => (i.zero, i.size, i.bytes)) = some (some (.bool false), 1, 1) := by kernel_rfl
theorem bMake (n : Nat) (hn : n ≤ 65536) (w : World) : (Instr.makeSlice 72 (.int .i64 (n : Int)) (.int .i64 (n : Int))).run Tryz.prog w = .ok (.slice (some ⟨w.heap.size, 0, none⟩) n n) (w.alloc (.cells (bls (List.replicate n false)).toArray 4)) := by
  obtain ⟨i, hi, hz0, hz1, hz2⟩ := info_parts bInfo
  rw [run_make w 72 4 i (.bool false) Tryz.underlying72 hi hz0 .i64 .i64 n n (by omega) (Int.le_refl _) (by rw [hz2]; omega) (by omega)]
  have e : (madeCells (.bool false : Value).cells (((n : Int)).toNat * i.size)) = (bls (List.replicate n false)).toArray := by
    rw [hz1, Nat.mul_one, Int.toNat_natCast]
    apply Array.toList_inj.1
    rw [show (.bool false : Value).cells = #[.bool false] from rfl, toList_madeCells_one]
    simp [bls]
  rw [e, Int.toNat_natCast]
theorem row_put {E : TypeId} {w : World} {g c : Nat} {xs : List Value} (h : RowAt E w (some ⟨g, 0, none⟩) c xs) (i : Nat) (z : Value) : RowAt E (w.setCell ⟨g, i, none⟩ z) (some ⟨g, 0, none⟩) c (xs.set i z) ∧ Turn [g] [g] w (w.setCell ⟨g, i, none⟩ z) := by
  obtain ⟨hs, _⟩ := h.own.stored i z
  refine ⟨⟨?_⟩, turn_set w g i z⟩
  rw [List.length_set]
  exact hs
theorem row_get {E : TypeId} {w : World} {g c : Nat} {xs : List Value} (h : RowAt E w (some ⟨g, 0, none⟩) c xs) {j : Nat} {v : Value} (hv : xs[j]? = some v) : w.cell? ⟨g, j, none⟩ = some v ∧ w.frozen? ⟨g, j, none⟩ = false ∧ g < w.heap.size := by
  rcases h.own.2 with ⟨q, _⟩ | ⟨g', cap, cur, hq, _, hg, _⟩
  · cases q
  · cases hq
    refine ⟨?_, frozen_of_row w g j _ _ hg, lt_of_block hg⟩
    have := World.ownsRow.cells h.own (g := g) rfl j v hv
    rwa [show (⟨g, 0, none⟩ : Addr).add j = ⟨g, j, none⟩ by unfold Addr.add; split <;> simp_all] at this
/-- a machine beside two tables, all new since N -/
structure OwnM (N wr : World) (bm gw gh : Nat) (K : List Nat) (m : Mac) (hs : List Bool) (xs : List Nat) : Prop where
  mc : ∃ F, Mc wr bm F K m ∧ gw ∉ F ∧ gh ∉ F ∧ Abv N.heap.size F
  kw : gw ∉ K
  kh : gh ∉ K
  ne : gw ≠ gh
  rw : RowAt 73 wr (some ⟨gw, 0, none⟩) 256 (fls xs)
  rh : RowAt 4 wr (some ⟨gh, 0, none⟩) 256 (bls hs)
  aw : N.heap.size ≤ gw
  ah : N.heap.size ≤ gh
  bl : Below N.heap.size N wr
  sh : Shaped5 N
section
variable {N wr : World} {bm gw gh : Nat} {K : List Nat} {m : Mac} {hs : List Bool} {xs : List Nat}
theorem OwnM.lw (h : OwnM N wr bm gw gh K m hs xs) : gw < wr.heap.size := h.rw.blw gw (by simp [fpR])
theorem OwnM.lh (h : OwnM N wr bm gw gh K m hs xs) : gh < wr.heap.size := h.rh.blw gh (by simp [fpR])
theorem OwnM.tab (h : OwnM N wr bm gw gh K m hs xs) {F : List Nat} (hA : Abv N.heap.size F) : TabAt wr F :=
  ⟨h.sh.on h.bl, fun q => absurd (World.block_lt_of_cell? N _ (h.sh.shp 0 (by omega)).1) (Nat.not_lt.2 (hA _ q))⟩
/-- the machine turned, the tables did not -/
theorem OwnM.turned (h : OwnM N wr bm gw gh K m hs xs) {F : List Nat} {u : World} {m' : Mac} (n1 : gw ∉ F) (n2 : gh ∉ F) (hA : Abv N.heap.size F) (q : Gm wr F bm K u m') : OwnM N u bm gw gh K m' hs xs := by
  obtain ⟨F', hM, t⟩ := q.mc
  refine ⟨⟨F', hM, fun z => (t.own _ z).elim n1 (fun y => absurd h.lw (Nat.not_lt.2 y)), fun z => (t.own _ z).elim n2 (fun y => absurd h.lh (Nat.not_lt.2 y)), hA.turn h.bl.size t⟩, h.kw, h.kh, h.ne, ?_, ?_, h.aw, h.ah, h.bl.trans (t.below hA h.bl.size), h.sh⟩
  · exact h.rw.keep (t.kept (fun k hk z => by simp [fpR] at hk; subst hk; exact n1 z) h.rw.blw)
  · exact h.rh.keep (t.kept (fun k hk z => by simp [fpR] at hk; subst hk; exact n2 z) h.rh.blw)
theorem OwnM.step (h : OwnM N wr bm gw gh K m hs xs) (hI : Inv m) : Calls Tryz.prog 91 #[.pointer (some ⟨bm, 0, none⟩)] wr fun e u => e = .returned (askV (stepM m).2) ∧ OwnM N u bm gw gh K (stepM m).1 hs xs := by
  obtain ⟨F, hM, n1, n2, hA⟩ := h.mc
  exact (step_any hM.gm (h.tab hA) hI).mono fun e u ⟨a1, a2⟩ => ⟨a1, h.turned n1 n2 hA a2⟩
theorem OwnM.give (h : OwnM N wr bm gw gh K m hs xs) (hI : Inv m) (x : Nat) : Calls Tryz.prog 93 #[.pointer (some ⟨bm, 0, none⟩), .float .f64 x] wr fun e u => e = .returned (.int .i64 (giveE m)) ∧ OwnM N u bm gw gh K (giveM m x) hs xs := by
  obtain ⟨F, hM, n1, n2, hA⟩ := h.mc
  exact (give_any hM.gm hI x).mono fun e u ⟨a1, a2⟩ => ⟨a1, h.turned n1 n2 hA a2⟩
theorem OwnM.on (h : OwnM N wr bm gw gh K m hs xs) {u : World} (k : Below wr.heap.size wr u) : OwnM N u bm gw gh K m hs xs := by
  obtain ⟨F, hM, n1, n2, hA⟩ := h.mc
  exact ⟨⟨F, hM.on k, n1, n2, hA⟩, h.kw, h.kh, h.ne, h.rw.on k, h.rh.on k, h.aw, h.ah, h.bl.trans (k.mono h.bl.size), h.sh⟩
theorem OwnM.alloc (h : OwnM N wr bm gw gh K m hs xs) (o : Obj) : OwnM N (wr.alloc o) bm gw gh K m hs xs := h.on (below_alloc _ o)
/-- one of the tables is written -/
theorem OwnM.setH (h : OwnM N wr bm gw gh K m hs xs) (c : Nat) (b : Bool) : OwnM N (wr.setCell ⟨gh, c, none⟩ (.bool b)) bm gw gh K m (hs.set c b) xs := by
  obtain ⟨F, hM, n1, n2, hA⟩ := h.mc
  obtain ⟨r, t⟩ := row_put h.rh c (.bool b)
  have s1 : Sep F [gh] := fun k hk q => by simp at q; subst q; exact n2 hk
  have s2 : Sep K [gh] := fun k hk q => by simp at q; subst q; exact h.kh hk
  refine ⟨⟨F, hM.turn t s1 s2, n1, n2, hA⟩, h.kw, h.kh, h.ne, ?_, ?_, h.aw, h.ah, h.bl.trans (t.below (fun k hk => by simp at hk; subst hk; exact h.ah) h.bl.size), h.sh⟩
  · exact h.rw.keep (t.kept (fun k hk q => by simp [fpR] at hk q; exact h.ne (hk.symm.trans q)) h.rw.blw)
  · have e : (bls hs).set c (.bool b) = bls (hs.set c b) := by simp [bls, List.map_set]
    rw [← e]
    exact r
theorem OwnM.setW (h : OwnM N wr bm gw gh K m hs xs) (c x : Nat) : OwnM N (wr.setCell ⟨gw, c, none⟩ (.float .f64 x)) bm gw gh K m hs (xs.set c x) := by
  obtain ⟨F, hM, n1, n2, hA⟩ := h.mc
  obtain ⟨r, t⟩ := row_put h.rw c (.float .f64 x)
  have s1 : Sep F [gw] := fun k hk q => by simp at q; subst q; exact n1 hk
  have s2 : Sep K [gw] := fun k hk q => by simp at q; subst q; exact h.kw hk
  refine ⟨⟨F, hM.turn t s1 s2, n1, n2, hA⟩, h.kw, h.kh, h.ne, ?_, ?_, h.aw, h.ah, h.bl.trans (t.below (fun k hk => by simp at hk; subst hk; exact h.aw) h.bl.size), h.sh⟩
  · rw [← fls_set]
    exact r
  · exact h.rh.keep (t.kept (fun k hk q => by simp [fpR] at hk q; exact h.ne (q.symm.trans hk)) h.rh.blw)
theorem OwnM.getH (h : OwnM N wr bm gw gh K m hs xs) {c : Nat} (hc : c < hs.length) : wr.cell? ⟨gh, c, none⟩ = some (.bool (hs.getD c false)) ∧ wr.frozen? ⟨gh, c, none⟩ = false ∧ gh < wr.heap.size :=
  row_get h.rh (by simp [bls, hc])
theorem OwnM.getW (h : OwnM N wr bm gw gh K m hs xs) {c : Nat} (hc : c < xs.length) : wr.cell? ⟨gw, c, none⟩ = some (.float .f64 (xs.getD c 0)) ∧ wr.frozen? ⟨gw, c, none⟩ = false ∧ gw < wr.heap.size :=
  row_get h.rw (by simp [fls, hc])
/-- both tables are made -/
theorem own_made {N u : World} {bm : Nat} {K : List Nat} {m : Mac} {xs0 : List Nat} {hs0 : List Bool} (x0 : xs0.length = 256) (y0 : hs0.length = 256) (g : Gm N [] bm K u m) (hK : Blw u K) (hsh : Shaped5 N) : OwnM N ((u.alloc (.cells (fls xs0).toArray 73)).alloc (.cells (bls hs0).toArray 4)) bm u.heap.size (u.heap.size + 1) K m hs0 xs0 := by
  obtain ⟨F, hM, t⟩ := g.mc
  have hb : Below u.heap.size u ((u.alloc (.cells (fls xs0).toArray 73)).alloc (.cells (bls hs0).toArray 4)) := (below_alloc u _).trans ((below_alloc _ _).mono (by simp))
  have hf := g.fresh
  have hs := hf.size
  refine ⟨⟨F, hM.on hb, fun q => absurd (hM.blw _ q) (Nat.lt_irrefl _), fun q => absurd (hM.blw _ q) (by omega), fun k hk => (t.own k hk).elim (fun z => by simp at z) id⟩, fun q => absurd (hK _ q) (Nat.lt_irrefl _), fun q => absurd (hK _ q) (by omega), by omega, ?_, ?_, hs, by omega, hf.trans (hb.mono hs), hsh⟩
  · have h1 : RowAt 73 (u.alloc (.cells (fls xs0).toArray 73)) (some ⟨u.heap.size, 0, none⟩) 256 (fls xs0) := ⟨by
      rw [fls_len, x0]
      exact World.ownsRow_lit u _ 256 (Nat.zero_le _) (by unfold maxLen; omega) (by rw [List.size_toArray, fls_len, x0])⟩
    exact h1.on (below_alloc _ _)
  · have h2 : RowAt 4 ((u.alloc (.cells (fls xs0).toArray 73)).alloc (.cells (bls hs0).toArray 4)) (some ⟨(u.alloc (.cells (fls xs0).toArray 73)).heap.size, 0, none⟩) 256 (bls hs0) := ⟨by
      rw [bls_len, y0]
      exact World.ownsRow_lit _ _ 256 (Nat.zero_le _) (by unfold maxLen; omega) (by rw [List.size_toArray, bls_len, y0])⟩
    simpa using h2
end
end Go.Proofs.YteinilmecnlanaaGreatDoor
