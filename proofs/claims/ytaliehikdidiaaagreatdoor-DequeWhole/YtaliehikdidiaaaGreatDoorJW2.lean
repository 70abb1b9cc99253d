import Derived.Test.YtaliehikdidiaaaGreatDoorKM
import Derived.Test.YtaliehikdidiaaaGreatDoorKJ
import Derived.Test.YtaliehikdidiaaaGreatDoorJW1
import Derived.Test.YtaliehikdidiaaaGreatDoorKF
import Derived.Test.YtaliehikdidiaaaGreatDoorXM
import Derived.Deep.LoopGhost
import Derived.Test.YtaliehikdidiaaaGreatDoorK3
import Derived.Test.YtaliehikdidiaaaGreatDoorKO
import Derived.Test.YtaliehikdidiaaaGreatDoorSq
import Derived.Deep.CutBlock
import Derived.Deep.DeepCutAuto
namespace Go.Proofs.YtaliehikdidiaaaGreatDoor
open Go.ChangeShapes Go.WideShapes Go.ChangeAt Go.RowKit Num
structure Like (m m' : Mac) : Prop where
  cells : m'.cells = m.cells
  fuel : m'.fuel = m.fuel
  wmax : m'.wmax = m.wmax
  upd : m'.upd = m.upd
  code : m'.code = m.code
theorem Like.refl (m : Mac) : Like m m := ⟨rfl, rfl, rfl, rfl, rfl⟩
theorem Like.trans {a b c : Mac} (h : Like a b) (k : Like b c) : Like a c := ⟨k.cells.trans h.cells, k.fuel.trans h.fuel, k.wmax.trans h.wmax, k.upd.trans h.upd, k.code.trans h.code⟩
def Ends (_m : Mac) (r : Mac × Ask) : Prop := r.2.kind = 4 ∧ r.1.how ≠ 0 ∧ ¬ 0 ≤ r.1.wait
def Waits (m : Mac) (r : Mac × Ask) : Prop := r.2.kind = 1 ∧ r.2.cell = r.1.wait ∧ 0 ≤ r.1.wait ∧ r.1.how = 0 ∧ r.1.used = m.used + 1
def Goes (m : Mac) (r : Mac × Ask) : Prop := (r.2.kind = 0 ∨ r.2.kind = 2 ∨ r.2.kind = 3) ∧ ¬ 0 ≤ r.1.wait ∧ r.1.how = 0 ∧ r.1.used = m.used + 1
def Turns (m : Mac) (r : Mac × Ask) : Prop := Like m r.1 ∧ (Ends m r ∨ Waits m r ∨ Goes m r)
section
variable {m : Mac}
theorem fails_turns (hw : ¬ 0 ≤ m.wait) (e : Int) : Turns m (failM m e) := ⟨⟨rfl, rfl, rfl, rfl, rfl⟩, .inl ⟨rfl, by show (3 : Int) ≠ 0; decide, hw⟩⟩
theorem fails_begun (hw : ¬ 0 ≤ m.wait) (e : Int) : Turns m (failM (begM m) e) := ⟨⟨rfl, rfl, rfl, rfl, rfl⟩, .inl ⟨rfl, by show (3 : Int) ≠ 0; decide, hw⟩⟩
theorem do_turns (hw : ¬ 0 ≤ m.wait) (h0 : m.how = 0) (hcl : m.cells ≤ 256) {k : Nat} {n : Int} {x : Nat} (hk : 1 ≤ k ∧ k < 21) : Turns m (doM (begM m) ⟨k, n, x⟩) := by
  have hkk : k = 1 ∨ k = 2 ∨ k = 3 ∨ k = 4 ∨ k = 5 ∨ k = 6 ∨ k = 7 ∨ k = 8 ∨ k = 9 ∨ k = 10 ∨ k = 11 ∨ k = 12 ∨ k = 13 ∨ k = 14 ∨ k = 15 ∨ k = 16 ∨ k = 17 ∨ k = 18 ∨ k = 19 ∨ k = 20 := by omega
  rcases hkk with rfl | rfl | rfl | rfl | rfl | rfl | rfl | rfl | rfl | rfl | rfl | rfl | rfl | rfl | rfl | rfl | rfl | rfl | rfl | rfl
  · exact ⟨⟨rfl, rfl, rfl, rfl, rfl⟩, .inr (.inr ⟨.inl rfl, hw, h0, rfl⟩)⟩
  · exact ⟨⟨rfl, rfl, rfl, rfl, rfl⟩, .inr (.inr ⟨.inl rfl, hw, h0, rfl⟩)⟩
  · exact ⟨⟨rfl, rfl, rfl, rfl, rfl⟩, .inr (.inr ⟨.inl rfl, hw, h0, rfl⟩)⟩
  · exact ⟨⟨rfl, rfl, rfl, rfl, rfl⟩, .inr (.inr ⟨.inl rfl, hw, h0, rfl⟩)⟩
  · exact ⟨⟨rfl, rfl, rfl, rfl, rfl⟩, .inr (.inr ⟨.inl rfl, hw, h0, rfl⟩)⟩
  · exact ⟨⟨rfl, rfl, rfl, rfl, rfl⟩, .inr (.inr ⟨.inl rfl, hw, h0, rfl⟩)⟩
  · exact ⟨⟨rfl, rfl, rfl, rfl, rfl⟩, .inr (.inr ⟨.inl rfl, hw, h0, rfl⟩)⟩
  · exact ⟨⟨rfl, rfl, rfl, rfl, rfl⟩, .inr (.inr ⟨.inl rfl, hw, h0, rfl⟩)⟩
  · exact ⟨⟨rfl, rfl, rfl, rfl, rfl⟩, .inr (.inr ⟨.inl rfl, hw, h0, rfl⟩)⟩
  · exact ⟨⟨rfl, rfl, rfl, rfl, rfl⟩, .inr (.inr ⟨.inl rfl, hw, h0, rfl⟩)⟩
  · exact ⟨⟨rfl, rfl, rfl, rfl, rfl⟩, .inr (.inr ⟨.inl rfl, hw, h0, rfl⟩)⟩
  · exact ⟨⟨rfl, rfl, rfl, rfl, rfl⟩, .inr (.inr ⟨.inl rfl, hw, h0, rfl⟩)⟩
  · exact ⟨⟨rfl, rfl, rfl, rfl, rfl⟩, .inr (.inr ⟨.inl rfl, hw, h0, rfl⟩)⟩
  · exact ⟨⟨rfl, rfl, rfl, rfl, rfl⟩, .inr (.inr ⟨.inl rfl, hw, h0, rfl⟩)⟩
  · show Turns m (retM (begM m))
    cases hc : (begM m).calls with
    | nil =>
      rw [retM_nil hc]
      exact ⟨⟨rfl, rfl, rfl, rfl, rfl⟩, .inl ⟨rfl, by show (1 : Int) ≠ 0; decide, hw⟩⟩
    | cons c q =>
      rw [retM_cons hc]
      exact ⟨⟨rfl, rfl, rfl, rfl, rfl⟩, .inr (.inr ⟨.inl rfl, hw, h0, rfl⟩)⟩
  · show Turns m (readM (begM m))
    unfold readM
    cases ha : addrB (begM m) with
    | false => exact fails_begun hw 50
    | true =>
      have hid := idx_wf ((begM m).st.getD 0 0) (n := m.cells) hcl ha
      cases hh : hasC (begM m).buf (addrV (begM m)) with
      | false =>
        rw [if_pos rfl, if_neg Bool.false_ne_true]
        exact ⟨⟨rfl, rfl, rfl, rfl, rfl⟩, .inr (.inl ⟨rfl, rfl, hid.1, h0, rfl⟩)⟩
      | true =>
        rw [if_pos rfl, if_pos rfl]
        exact ⟨⟨rfl, rfl, rfl, rfl, rfl⟩, .inr (.inr ⟨.inr (.inl rfl), hw, h0, rfl⟩)⟩
  · show Turns m (writeM (begM m))
    unfold writeM
    cases hu : (begM m).upd with
    | false => exact fails_begun hw 81
    | true =>
      cases ha : addrB (begM m) with
      | false => exact fails_begun hw 50
      | true =>
        cases hp : mayP (begM m).wmax (begM m).buf (addrV (begM m)) with
        | false => exact fails_begun hw 70
        | true =>
          rw [if_pos rfl, if_pos rfl, if_pos rfl]
          exact ⟨⟨rfl, rfl, rfl, hu.symm ▸ rfl, rfl⟩, .inr (.inr ⟨.inr (.inr rfl), hw, h0, rfl⟩)⟩
  · exact ⟨⟨rfl, rfl, rfl, rfl, rfl⟩, .inr (.inr ⟨.inl rfl, hw, h0, rfl⟩)⟩
  · exact ⟨⟨rfl, rfl, rfl, rfl, rfl⟩, .inl ⟨rfl, by show (2 : Int) ≠ 0; decide, hw⟩⟩
  · exact ⟨⟨rfl, rfl, rfl, rfl, rfl⟩, .inl ⟨rfl, by show (1 : Int) ≠ 0; decide, hw⟩⟩
theorem step_turns (h : Inv m) (hw : ¬ 0 ≤ m.wait) (h0 : m.how = 0) : Turns m (stepM m) := by
  unfold stepM
  rw [if_neg hw, if_pos h0]
  by_cases hf : m.used < m.fuel
  · rw [if_pos hf]
    by_cases hp : m.place < (m.code.length : Int)
    · rw [if_pos hp]
      have hk : m.place.toNat < m.code.length := by have := h.place; omega
      have hmay := h.may _ hk
      cases hr : roomB (begM m) (insM m) with
      | false => exact fails_begun hw 82
      | true =>
        rw [if_pos rfl]
        unfold insM
        rcases hci : ci m.code m.place.toNat with ⟨o, n, x⟩
        rw [hci] at hmay
        obtain ⟨q, hq⟩ : ∃ q : Nat, o = q := ⟨o.toNat, by have := hmay.1; unfold mayB knownB at this; simp at this; omega⟩
        subst hq
        exact do_turns hw h0 h.cells.2 (fits_parts hmay.1).1
    · rw [if_neg hp]
      exact fails_turns hw 50
  · rw [if_neg hf]
    exact fails_turns hw 80
theorem give_goes (hw : 0 ≤ m.wait) (x : Nat) : ¬ 0 ≤ (giveM m x).wait ∧ (giveM m x).how = m.how ∧ (giveM m x).used = m.used ∧ Like m (giveM m x) := by
  unfold giveM
  rw [if_pos hw]
  exact ⟨by show ¬ (0 : Int) ≤ -1; decide, rfl, rfl, ⟨rfl, rfl, rfl, rfl, rfl⟩⟩
end
end Go.Proofs.YtaliehikdidiaaaGreatDoor
namespace Go.Proofs.YtaliehikdidiaaaGreatDoor
open Go.ChangeShapes Go.WideShapes Go.ChangeAt Go.RowKit Num
attribute [local go_sem] run_store_float frombits_run bits_run
end Go.Proofs.YtaliehikdidiaaaGreatDoor
namespace Go.Proofs.YtaliehikdidiaaaGreatDoor
open Go.ChangeShapes Go.WideShapes Go.ChangeAt Go.RowKit Num
attribute [local go_sem] run_store_float
section
variable {w : World}
theorem mnew_any {a b c e t : Int} {ao : Option Addr} {cs : List Ins} {n cap : Nat} {po : Option Addr} {l : List Nat} {k co : Nat} (hn : cs.length = n) (hk : l.length = k) (hT : Shaped5 w) (hC : CodeAt w ao cs) (hL : FlAt w po l) (hnl : n ≤ 9223372036854775807) (hc : Md.cfgB a b c e = true) (hk8 : k ≤ 8) : Calls Tryz.prog 47 #[cfgV a b c e, .agg #[.int .i64 t, .slice ao n cap], .slice po k co] w fun r w' => ∃ bm K, r = .returned (.pointer (some ⟨bm, 0, none⟩)) ∧ Gm w [] bm K w' (newM a c e t cs l) ∧ Abv w.heap.size K := by
  cases hq : checkB t cs
  · exact mnew_no hc hn hk hk8 hT hC hL hnl hq
  · exact mnew_yes hc hn hk hk8 hT hC hL hnl hq
end
end Go.Proofs.YtaliehikdidiaaaGreatDoor
namespace Go.Proofs.YtaliehikdidiaaaGreatDoor
open Go.ChangeShapes Go.WideShapes Go.ChangeAt Go.RowKit Num
def Bufs (m : Mac) (r : Mac × Ask) : Prop :=
  (r.2.kind = 0 ∧ r.1.buf = m.buf) ∨ (r.2.kind = 4 ∧ r.1.buf = m.buf) ∨ (r.2.kind = 1 ∧ r.1.buf = m.buf ∧ hasC m.buf r.2.cell = false ∧ 0 ≤ r.2.cell ∧ r.2.cell < m.cells) ∨
  (r.2.kind = 2 ∧ r.1.buf = m.buf ∧ hasC m.buf r.2.cell = true ∧ r.2.x = getC m.buf r.2.cell ∧ 0 ≤ r.2.cell ∧ r.2.cell < m.cells) ∨
  (r.2.kind = 3 ∧ r.1.buf = putC m.buf r.2.cell r.2.x ∧ r.2.first = !hasC m.buf r.2.cell ∧ 0 ≤ r.2.cell ∧ r.2.cell < m.cells)
section
variable {m : Mac}
theorem fails_bufs (e : Int) : Bufs m (failM m e) := .inr (.inl ⟨rfl, rfl⟩)
theorem fails_bufs' (e : Int) : Bufs m (failM (begM m) e) := .inr (.inl ⟨rfl, rfl⟩)
theorem do_bufs (hcl : m.cells ≤ 256) {k : Nat} {n : Int} {x : Nat} (hk : 1 ≤ k ∧ k < 21) : Bufs m (doM (begM m) ⟨k, n, x⟩) := by
  have hkk : k = 1 ∨ k = 2 ∨ k = 3 ∨ k = 4 ∨ k = 5 ∨ k = 6 ∨ k = 7 ∨ k = 8 ∨ k = 9 ∨ k = 10 ∨ k = 11 ∨ k = 12 ∨ k = 13 ∨ k = 14 ∨ k = 15 ∨ k = 16 ∨ k = 17 ∨ k = 18 ∨ k = 19 ∨ k = 20 := by omega
  rcases hkk with rfl | rfl | rfl | rfl | rfl | rfl | rfl | rfl | rfl | rfl | rfl | rfl | rfl | rfl | rfl | rfl | rfl | rfl | rfl | rfl
  iterate 14 exact .inl ⟨rfl, rfl⟩
  · show Bufs m (retM (begM m))
    cases hc : (begM m).calls with
    | nil =>
      rw [retM_nil hc]
      exact .inr (.inl ⟨rfl, rfl⟩)
    | cons c q =>
      rw [retM_cons hc]
      exact .inl ⟨rfl, rfl⟩
  · show Bufs m (readM (begM m))
    unfold readM
    cases ha : addrB (begM m) with
    | false => exact fails_bufs' 50
    | true =>
      have hid := idx_wf ((begM m).st.getD 0 0) (n := m.cells) hcl ha
      cases hh : hasC (begM m).buf (addrV (begM m)) with
      | false =>
        rw [if_pos rfl, if_neg Bool.false_ne_true]
        exact .inr (.inr (.inl ⟨rfl, rfl, hh, hid.1, hid.2.1⟩))
      | true =>
        rw [if_pos rfl, if_pos rfl]
        exact .inr (.inr (.inr (.inl ⟨rfl, rfl, hh, rfl, hid.1, hid.2.1⟩)))
  · show Bufs m (writeM (begM m))
    unfold writeM
    cases hu : (begM m).upd with
    | false => exact fails_bufs' 81
    | true =>
      cases ha : addrB (begM m) with
      | false => exact fails_bufs' 50
      | true =>
        have hid := idx_wf ((begM m).st.getD 0 0) (n := m.cells) hcl ha
        cases hp : mayP (begM m).wmax (begM m).buf (addrV (begM m)) with
        | false => exact fails_bufs' 70
        | true =>
          rw [if_pos rfl, if_pos rfl, if_pos rfl]
          exact .inr (.inr (.inr (.inr ⟨rfl, rfl, rfl, hid.1, hid.2.1⟩)))
  · exact .inl ⟨rfl, rfl⟩
  · exact .inr (.inl ⟨rfl, rfl⟩)
  · exact .inr (.inl ⟨rfl, rfl⟩)
theorem step_bufs (h : Inv m) (hw : ¬ 0 ≤ m.wait) (h0 : m.how = 0) : Bufs m (stepM m) := by
  unfold stepM
  rw [if_neg hw, if_pos h0]
  by_cases hf : m.used < m.fuel
  · rw [if_pos hf]
    by_cases hp : m.place < (m.code.length : Int)
    · rw [if_pos hp]
      have hk : m.place.toNat < m.code.length := by have := h.place; omega
      have hmay := h.may _ hk
      cases hr : roomB (begM m) (insM m) with
      | false => exact fails_bufs' 82
      | true =>
        rw [if_pos rfl]
        unfold insM
        rcases hci : ci m.code m.place.toNat with ⟨o, n, x⟩
        rw [hci] at hmay
        obtain ⟨q, hq⟩ : ∃ q : Nat, o = q := ⟨o.toNat, by have := hmay.1; unfold mayB knownB at this; simp at this; omega⟩
        subst hq
        exact do_bufs h.cells.2 (fits_parts hmay.1).1
    · rw [if_neg hp]
      exact fails_bufs 50
  · rw [if_neg hf]
    exact fails_bufs 80
theorem give_bufs (x : Nat) : (giveM m x).buf = m.buf := by
  unfold giveM
  split <;> rfl
end
end Go.Proofs.YtaliehikdidiaaaGreatDoor
namespace Go.Proofs.YtaliehikdidiaaaGreatDoor
open Go.ChangeShapes Go.WideShapes Go.ChangeAt Go.RowKit Num
attribute [local go_sem] run_store_float
theorem row_get {E : TypeId} {w : World} {g c : Nat} {xs : List Value} (h : RowAt E w (some ⟨g, 0, none⟩) c xs) {j : Nat} {v : Value} (hv : xs[j]? = some v) : w.cell? ⟨g, j, none⟩ = some v ∧ w.frozen? ⟨g, j, none⟩ = false ∧ g < w.heap.size := by
  rcases h.own.2 with ⟨q, _⟩ | ⟨g', cap, cur, hq, _, hg, _⟩
  · cases q
  · cases hq
    refine ⟨?_, frozen_of_row w g j _ _ hg, lt_of_block hg⟩
    have := World.ownsRow.cells h.own (g := g) rfl j v hv
    rwa [show (⟨g, 0, none⟩ : Addr).add j = ⟨g, j, none⟩ by unfold Addr.add; split <;> simp_all] at this
end Go.Proofs.YtaliehikdidiaaaGreatDoor
namespace Go.Proofs.YtaliehikdidiaaaGreatDoor
open Go.ChangeShapes Go.WideShapes Go.ChangeAt Go.RowKit Num
def goM (s : List Nat) (m : Mac) : Mac := if (stepM m).2.kind = 1 then giveM (stepM m).1 (Sx.getV s (stepM m).2.cell) else (stepM m).1
def runN (s : List Nat) : Nat → Mac → Mac
  | 0, m => m
  | n + 1, m => runN s n (goM s m)
def endM (s : List Nat) (m : Mac) : Mac := runN s 1025 m
def okS (s : List Nat) : Prop := ∀ x ∈ s, okN x
theorem okS_map {s : List Nat} (h : ∀ x ∈ s, x < 18446744073709551616) : okS (s.map fixB) := fun x hx => by
  obtain ⟨y, hy, rfl⟩ := List.mem_map.1 hx
  exact okN_fix (h y hy)
theorem getV_ok {s : List Nat} (h : okS s) (i : Int) : okN (Sx.getV s i) := by
  unfold Sx.getV
  split
  · exact getD_all 0 okN_zero s h _
  · exact okN_zero
theorem runN_add (s : List Nat) : ∀ (a b : Nat) (m : Mac), runN s (a + b) m = runN s b (runN s a m)
  | 0, b, m => by rw [Nat.zero_add]; rfl
  | a + 1, b, m => by
    rw [Nat.add_right_comm]
    exact runN_add s a b (goM s m)
theorem runN_cons (s : List Nat) (k : Nat) (m : Mac) : runN s (k + 1) m = runN s k (goM s m) := rfl
theorem runN_succ (s : List Nat) (k : Nat) (m : Mac) : runN s (k + 1) m = goM s (runN s k m) := runN_add s k 1 m
structure Rest (m : Mac) : Prop where
  inv : Inv m
  nw : ¬ 0 ≤ m.wait
  cel : ∀ t ∈ m.buf, 0 ≤ t.1 ∧ t.1 < m.cells
  nod : (cellsOfL m.buf).Nodup
theorem step_over {m : Mac} (hw : ¬ 0 ≤ m.wait) (h0 : m.how ≠ 0) : stepM m = (m, askEnd) := by
  unfold stepM
  rw [if_neg hw, if_neg h0]
theorem go_over {s : List Nat} {m : Mac} (hw : ¬ 0 ≤ m.wait) (h0 : m.how ≠ 0) : goM s m = m := by
  unfold goM
  rw [step_over hw h0]
  rfl
theorem runN_over {s : List Nat} {m : Mac} (hw : ¬ 0 ≤ m.wait) (h0 : m.how ≠ 0) : ∀ k, runN s k m = m
  | 0 => rfl
  | k + 1 => by
    show runN s k (goM s m) = m
    rw [go_over hw h0]
    exact runN_over hw h0 k
theorem go_inv {s : List Nat} {m : Mac} (h : Inv m) (hs : okS s) : Inv (goM s m) := by
  unfold goM
  split
  · exact inv_give (inv_step h) (getV_ok hs _).2
  · exact inv_step h
theorem go_kind1 {s : List Nat} {m : Mac} (h : (stepM m).2.kind = 1) : goM s m = giveM (stepM m).1 (Sx.getV s (stepM m).2.cell) := if_pos h
theorem go_kindN {s : List Nat} {m : Mac} (h : (stepM m).2.kind ≠ 1) : goM s m = (stepM m).1 := if_neg h
theorem go_turns {s : List Nat} {m : Mac} (h : Inv m) (hw : ¬ 0 ≤ m.wait) (h0 : m.how = 0) : Like m (goM s m) ∧ ¬ 0 ≤ (goM s m).wait ∧ (((stepM m).2.kind = 4 ∧ (goM s m).how ≠ 0) ∨ ((stepM m).2.kind ≠ 4 ∧ (goM s m).how = 0 ∧ (goM s m).used = m.used + 1)) := by
  obtain ⟨hl, ⟨k1, k2, k3⟩ | ⟨k1, k2, k3, k4, k5⟩ | ⟨k1, k2, k3, k4⟩⟩ := step_turns h hw h0
  · rw [go_kindN (by rw [k1]; decide)]
    exact ⟨hl, k3, .inl ⟨k1, k2⟩⟩
  · rw [go_kind1 k1]
    obtain ⟨g1, g2, g3, g4⟩ := give_goes k3 (Sx.getV s (stepM m).2.cell)
    exact ⟨hl.trans g4, g1, .inr ⟨by rw [k1]; decide, g2.trans k4, g3.trans k5⟩⟩
  · rw [go_kindN (by rcases k1 with k | k | k <;> rw [k] <;> decide)]
    exact ⟨hl, k2, .inr ⟨by rcases k1 with k | k | k <;> rw [k] <;> decide, k3, k4⟩⟩
theorem go_buf {s : List Nat} {m : Mac} : (goM s m).buf = (stepM m).1.buf := by
  unfold goM
  split
  · exact give_bufs _
  · rfl
theorem cells_mem {l : Wr} {c : Int} : c ∈ cellsOfL l ↔ ∃ t ∈ l, t.1 = c := by unfold cellsOfL; exact List.mem_map
theorem putC_cells {l : Wr} {c : Int} {y : Nat} {P : Int → Prop} (h : ∀ t ∈ l, P t.1) (hc : P c) : ∀ t ∈ putC l c y, P t.1 := fun t ht => by
  have h1 : t.1 ∈ cellsOfL (putC l c y) := cells_mem.2 ⟨t, ht, rfl⟩
  rw [cells_put] at h1
  have h2 : t.1 ∈ cellsOfL l ∨ t.1 = c := by
    split at h1
    · exact .inl h1
    · rcases List.mem_append.1 h1 with h | h
      · exact .inl h
      · exact .inr (by simpa using h)
  rcases h2 with h2 | h2
  · obtain ⟨u, hu, e⟩ := cells_mem.1 h2
    exact e ▸ h u hu
  · exact h2 ▸ hc
theorem Rest.go {s : List Nat} {m : Mac} (h : Rest m) (hs : okS s) : Rest (goM s m) := by
  by_cases h0 : m.how = 0
  · obtain ⟨hl, g1, _⟩ := go_turns (s := s) h.inv h.nw h0
    have hb := step_bufs h.inv h.nw h0
    refine ⟨go_inv h.inv hs, g1, ?_, ?_⟩
    · rw [go_buf, hl.cells]
      rcases hb with ⟨_, e⟩ | ⟨_, e⟩ | ⟨_, e, _⟩ | ⟨_, e, _⟩ | ⟨_, e, _, c1, c2⟩
      iterate 4 (rw [e]; exact h.cel)
      rw [e]
      exact putC_cells (P := fun c => 0 ≤ c ∧ c < m.cells) h.cel ⟨c1, c2⟩
    · rw [go_buf]
      rcases hb with ⟨_, e⟩ | ⟨_, e⟩ | ⟨_, e, _⟩ | ⟨_, e, _⟩ | ⟨_, e, _, c1, c2⟩
      iterate 4 (rw [e]; exact h.nod)
      rw [e]
      exact nodup_put h.nod
  · rw [go_over h.nw h0]
    exact h
theorem Rest.run {s : List Nat} (hs : okS s) : ∀ (k : Nat) {m : Mac}, Rest m → Rest (runN s k m)
  | 0, _, h => h
  | k + 1, _, h => Rest.run hs k (h.go hs)
theorem like_run {s : List Nat} (hs : okS s) : ∀ (k : Nat) {m : Mac}, Rest m → Like m (runN s k m)
  | 0, m, _ => Like.refl m
  | k + 1, m, h => by
    refine Like.trans ?_ (like_run hs k (h.go hs))
    by_cases h0 : m.how = 0
    · exact (go_turns h.inv h.nw h0).1
    · rw [go_over h.nw h0]
      exact Like.refl m
theorem run_ends {s : List Nat} (hs : okS s) : ∀ (k : Nat) {m : Mac}, Rest m → m.fuel - m.used < (k : Int) → (runN s k m).how ≠ 0
  | 0, m, h, hk => by have := h.inv.used; simp at hk; omega
  | k + 1, m, h, hk => by
    show (runN s k (goM s m)).how ≠ 0
    by_cases h0 : m.how = 0
    · obtain ⟨hl, g1, ⟨g2, g3⟩ | ⟨g2, g3, g4⟩⟩ := go_turns (s := s) h.inv h.nw h0
      · rw [runN_over g1 g3]
        exact g3
      · refine run_ends hs k (h.go hs) ?_
        rw [hl.fuel, g4]
        push_cast at hk
        omega
    · rw [go_over h.nw h0, runN_over h.nw h0]
      exact h0
theorem endM_rest {s : List Nat} (hs : okS s) {m : Mac} (h : Rest m) : Rest (endM s m) := h.run hs 1025
theorem endM_like {s : List Nat} (hs : okS s) {m : Mac} (h : Rest m) : Like m (endM s m) := like_run hs 1025 h
theorem endM_how {s : List Nat} (hs : okS s) {m : Mac} (h : Rest m) : (endM s m).how ≠ 0 := run_ends hs 1025 h (by have := h.inv.fuel; have := h.inv.used; omega)
theorem endM_go {s : List Nat} (hs : okS s) {m : Mac} (h : Rest m) : endM s (goM s m) = endM s m := by
  have h3 := runN_succ s 1025 m
  rw [runN_cons] at h3
  show runN s 1025 (goM s m) = runN s 1025 m
  rw [h3]
  exact go_over (endM_rest hs h).nw (endM_how hs h)
theorem new_rest {a b f e t : Int} {c : List Ins} {l : List Nat} (hc : Md.cfgB a b f e = true) (hx : ∀ k, k < c.length → (ci c k).x < 18446744073709551616) (hl : ∀ x ∈ l, x < 18446744073709551616) : Rest (newM a f e t c l) :=
  ⟨inv_new hc hx hl, show ¬ (0 : Int) ≤ -1 by decide, fun t ht => by simp [newM] at ht, by simp [newM, cellsOfL]⟩
def aftS (s : List Nat) (m : Mac) : List Nat := if m.how = 1 then Sx.foldL s m.buf else s
theorem aftS_len (s : List Nat) (m : Mac) : (aftS s m).length = s.length := by
  unfold aftS
  split
  · exact Sx.foldL_len _ _
  · rfl
theorem foldL_ok : ∀ (ts : Wr) {s : List Nat}, okS s → (∀ t ∈ ts, okN t.2) → okS (Sx.foldL s ts)
  | [], _, h, _ => h
  | t :: ts, s, h, ht => by
    show okS (Sx.foldL (Sx.setL s t.1 t.2) ts)
    refine foldL_ok ts ?_ (fun u hu => ht u (by simp [hu]))
    unfold Sx.setL
    split
    · intro x hx
      rcases List.mem_or_eq_of_mem_set hx with hx | rfl
      · exact h x hx
      · exact okN_fix (ht t (by simp)).2
    · exact h
theorem aftS_ok {s : List Nat} {m : Mac} (h : okS s) (hm : Rest m) : okS (aftS s m) := by
  unfold aftS
  split
  · exact foldL_ok _ h hm.inv.buf
  · exact h
theorem rest_allB {m : Mac} (hm : Rest m) {n : Nat} (hn : (n : Int) = m.cells) : Sx.allB n m.buf = true := by
  unfold Sx.allB
  rw [List.all_eq_true]
  intro t ht
  have := hm.cel t ht
  unfold Sx.hasN
  simp
  omega
theorem apply_is {s : List Nat} {m : Mac} (hm : Rest m) (hn : (s.length : Int) = m.cells) : Sx.applyL s m.buf = Sx.foldL s m.buf := by
  unfold Sx.applyL
  rw [rest_allB hm hn]
  rfl
end Go.Proofs.YtaliehikdidiaaaGreatDoor
namespace Go.Proofs.YtaliehikdidiaaaGreatDoor
open Go.ChangeShapes Go.WideShapes Go.ChangeAt Go.RowKit Num
end Go.Proofs.YtaliehikdidiaaaGreatDoor
namespace Go.Proofs.YtaliehikdidiaaaGreatDoor
open Go.ChangeShapes Go.WideShapes Go.ChangeAt Go.RowKit Num
attribute [local go_sem] run_store_float
structure Rs where
  po : Option Addr
  co : Nat
  pr : Option Addr
  cr : Nat
  pw : Option Addr
  cw : Nat
abbrev resC (R : Rs) (m : Mac) : Array Value := #[.int .i64 m.how, .int .i64 m.cod, .int .i64 m.err, .slice R.po m.out.length R.co, .slice R.pr m.reads.length R.cr, .slice R.pw m.buf.length R.cw, .int .i64 m.used]
abbrev resV (R : Rs) (m : Mac) : Value := .agg (resC R m)
structure ResAt (w : World) (B : Nat) (R : Rs) (m : Mac) : Prop where
  out : RowAt 74 w R.po R.co (fls m.out)
  reads : TRow w R.pr R.cr m.reads
  writes : TRow w R.pw R.cw m.buf
  ao : Abv B (fpR R.po)
  ar : Abv B (fpR R.pr)
  aw : Abv B (fpR R.pw)
theorem abv_blw {B : Nat} {F G : List Nat} (h : Abv B F) (k : ∀ x ∈ G, x < B) : Sep F G := fun i hi q => absurd (h i hi) (Nat.not_le.2 (k i q))
theorem ResAt.turn {w w' : World} {B : Nat} {R : Rs} {m : Mac} {G G' : List Nat} (h : ResAt w B R m) (k : Turn G G' w w') (hG : ∀ x ∈ G, x < B) : ResAt w' B R m :=
  ⟨h.out.turn k (abv_blw h.ao hG), h.reads.turn k (abv_blw h.ar hG), h.writes.turn k (abv_blw h.aw hG), h.ao, h.ar, h.aw⟩
theorem ResAt.mono {w : World} {B B' : Nat} {R : Rs} {m : Mac} (h : ResAt w B R m) (k : B' ≤ B) : ResAt w B' R m := ⟨h.out, h.reads, h.writes, h.ao.mono k, h.ar.mono k, h.aw.mono k⟩
def zeroM : Mac := ⟨0, 0, 0, false, [], fun _ => 0, fun _ => 0, [], [], 0, 0, [], [], [], -1, 0, 0, 0⟩
def goodB (a b c e : Int) (n k : Nat) : Bool := Md.cfgB a b c e && decide ((n : Int) = a) && decide (k ≤ 8)
def runR (a b c e t : Int) (cs : List Ins) (l s : List Nat) : Mac := if goodB a b c e s.length l.length then endM s (newM a c e t cs l) else zeroM
def runE (a b c e : Int) (n k : Nat) : Int := if goodB a b c e n k then 0 else 1
theorem Turn.past {F : List Nat} {W wr u : World} {ga : Nat} (ht : Turn [] F W wr) (t : Turn [ga] [ga] wr u) (hg : W.heap.size ≤ ga) : Turn [] F W u :=
  ⟨t.os.trans ht.os, t.tape.trans ht.tape, t.output.trans ht.output, Nat.le_trans ht.size t.size, fun k hk _ => (t.block k (Nat.lt_of_lt_of_le hk ht.size) (by simp; omega)).trans (ht.block k hk (by simp)), ht.own⟩
structure Fin (W : World) (bm ga : Nat) (K : List Nat) (wr : World) (m : Mac) (a : Ask) : Prop where
  ex : ∃ F, Mc wr bm F K m ∧ Turn [] F W wr ∧ ga ∉ F
  box : wr.heap[ga]? = some (askO a)
  nk : ga ∉ K
  hg : W.heap.size ≤ ga
theorem Gm.boxed {W w : World} {bm : Nat} {K : List Nat} {m : Mac} (h : Gm W [] bm K w m) (a : Ask) : Fin W bm w.heap.size K (w.alloc (askO a)) m a := by
  obtain ⟨F, hM, ht⟩ := h.mc
  exact ⟨⟨F, hM.on (below_alloc _ _), ht.trans (Below.turn (below_alloc w _) F), fun q => absurd (hM.blw _ q) (Nat.lt_irrefl _)⟩, heap_alloc_new _ _, fun q => absurd (hM.blwK _ q) (Nat.lt_irrefl _), ht.size⟩
section
variable {W wr : World} {bm ga : Nat} {K : List Nat} {m : Mac} {a : Ask}
theorem Fin.gm (h : Fin W bm ga K wr m a) : Gm W [] bm K wr m := by
  obtain ⟨F, hM, ht, _⟩ := h.ex
  exact hM.gm.trans ht
theorem Fin.turned (h : Fin W bm ga K wr m a) {F : List Nat} (ht : Turn [] F W wr) (hn : ga ∉ F) {u : World} {m' : Mac} (g : Gm wr F bm K u m') : Fin W bm ga K u m' a := by
  obtain ⟨F', hM', ht'⟩ := g.mc
  exact ⟨⟨F', hM', ht.trans ht', fun q => (ht'.own _ q).elim hn (fun z => absurd (lt_of_block h.box) (Nat.not_lt.2 z))⟩, (g.far (lt_of_block h.box) hn).trans h.box, h.nk, h.hg⟩
theorem Fin.step (h : Fin W bm ga K wr m a) (hT : Shaped5 W) (hI : Inv m) : Calls Tryz.prog 90 #[.pointer (some ⟨bm, 0, none⟩)] wr fun e u => e = .returned (askV (stepM m).2) ∧ Fin W bm ga K u (stepM m).1 a := by
  obtain ⟨F, hM, ht, hn⟩ := h.ex
  have hTab : TabAt wr F := TabAt.turn (w := W) (F := []) ⟨hT, by simp⟩ ht
  exact (step_any hM.gm hTab hI).mono fun e u ⟨q1, q2⟩ => ⟨q1, h.turned ht hn q2⟩
theorem Fin.give (h : Fin W bm ga K wr m a) (hI : Inv m) (x : Nat) : Calls Tryz.prog 92 #[.pointer (some ⟨bm, 0, none⟩), .float .f64 x] wr fun e u => e = .returned (.int .i64 (giveE m)) ∧ Fin W bm ga K u (giveM m x) a := by
  obtain ⟨F, hM, ht, hn⟩ := h.ex
  exact (give_any hM.gm hI x).mono fun e u ⟨q1, q2⟩ => ⟨q1, h.turned ht hn q2⟩
theorem Fin.put (h : Fin W bm ga K wr m a) (k' : Ask) : Fin W bm ga K ((((wr.setCell ⟨ga, 0, none⟩ (.int .i64 k'.kind)).setCell ⟨ga, 1, none⟩ (.int .i64 k'.cell)).setCell ⟨ga, 2, none⟩ (.float .f64 k'.x)).setCell ⟨ga, 3, none⟩ (.bool k'.first)) m k' := by
  obtain ⟨F, hM, ht, hn⟩ := h.ex
  have t := (((turn_set wr ga 0 (.int .i64 k'.kind)).trans (turn_set _ ga 1 (.int .i64 k'.cell))).trans (turn_set _ ga 2 (.float .f64 k'.x))).trans (turn_set _ ga 3 (.bool k'.first))
  exact ⟨⟨F, hM.turn t (fun x hx q => by simp at q; subst q; exact hn hx) (fun x hx q => by simp at q; subst q; exact h.nk hx), ht.past t h.hg, hn⟩, askO_set h.box, h.nk, h.hg⟩
end
set_option maxHeartbeats 2000000 in
set_option maxRecDepth 100000 in
theorem finish_any {W w : World} {bm b : Nat} {K F : List Nat} {m : Mac} {s : List Nat} (hG : Gm W [] bm K w m) (hT : Shaped5 W) (hS : Sx.Cel 98 W b F s) (hs : okS s) (hm : Rest m) : Calls Tryz.prog 48 #[.pointer (some ⟨bm, 0, none⟩), .pointer (some ⟨b, 0, none⟩)] w fun e w' => e = .returned (.tuple #[]) ∧ Gm W [] bm K w' (endM s m) := by
  have HGT : Hid (∀ u ga m' a, Fin W bm ga K u m' a → ∀ i : Int, Calls Tryz.prog 91 #[.pointer (some ⟨b, 0, none⟩), .int .i64 i] u fun e w' => e = .returned (.tuple #[.float .f64 (Sx.getV s i), .int .i64 (Sx.cellE s.length i)]) ∧ w' = u) := fun u ga m' a h i => Sx.get_any (hS.on h.gm.fresh) i
  have HST0 := Lib.hid (step_any hG ⟨hT, by simp⟩ hm.inv)
  have HST : Hid (∀ u ga m' a, Fin W bm ga K u m' a → Inv m' → Calls Tryz.prog 90 #[.pointer (some ⟨bm, 0, none⟩)] (u.alloc (askO a)) fun e v => e = .returned (askV (stepM m').2) ∧ Fin W bm u.heap.size K v (stepM m').1 a) := fun u ga m' a h hI => (h.gm.boxed a).step hT hI
  have HGV : Hid (∀ u ga m' a x, Fin W bm ga K u m' a → Inv m' → Calls Tryz.prog 92 #[.pointer (some ⟨bm, 0, none⟩), .float .f64 x] u fun e v => e = .returned (.int .i64 (giveE m')) ∧ Fin W bm ga K v (giveM m' x) a) := fun u ga m' a x h hI => h.give hI x
  have HM : Hid (Rest m ∧ okS s) := ⟨hm, hs⟩
  clear hG hT hS hs hm
  unfold askV at HST0 HST
  go_enter Tryz.func48, Tryz.ntmps48
  go_wp2_with (go_at_call 90; refine HST0.out.mono ?_; rintro e u0 ⟨rfl, q⟩; have F0 := Lib.hid (q.boxed (stepM m).2); clear q HST0)
  go_loopg [4] 1100 (fun k v4 wr => ∃ ga mk, v4 = .pointer (some ⟨ga, 0, none⟩) ∧ Hid (Fin W bm ga K wr (stepM mk).1 (stepM mk).2 ∧ Rest mk ∧ endM s mk = endM s m ∧ (mk.how = 0 → 1025 - mk.used < (k : Int))))
  case atStart => exact ⟨u0.heap.size, m, rfl, F0.out, HM.out.1, rfl, fun _ => by have := HM.out.1.inv.used; omega⟩
  case round =>
    obtain ⟨ga, mk, rfl, HR⟩ := hrel
    have HIN := Lib.hid (inv_step HR.out.2.1.inv)
    have HG0 : Hid (Rest (goM s mk) ∧ endM s (goM s mk) = endM s m) := ⟨HR.out.2.1.go HM.out.2, (endM_go HM.out.2 HR.out.2.1).trans HR.out.2.2.1⟩
    have hk : ((stepM mk).2.kind = 4 ∧ goM s mk = (stepM mk).1 ∧ endM s m = (stepM mk).1) ∨ ((stepM mk).2.kind = 1 ∧ goM s mk = giveM (stepM mk).1 (Sx.getV s (stepM mk).2.cell) ∧ mk.how = 0 ∧ ((goM s mk).how = 0 → (goM s mk).used = mk.used + 1)) ∨ (((stepM mk).2.kind ≠ 4 ∧ (stepM mk).2.kind ≠ 1) ∧ goM s mk = (stepM mk).1 ∧ mk.how = 0 ∧ ((goM s mk).how = 0 → (goM s mk).used = mk.used + 1)) := by
      have hr := HR.out.2.1
      by_cases h4 : (stepM mk).2.kind = 4
      · have e1 : goM s mk = (stepM mk).1 := go_kindN (by rw [h4]; decide)
        refine .inl ⟨h4, e1, ?_⟩
        rw [← HG0.out.2, ← e1]
        have hh : (goM s mk).how ≠ 0 := by
          by_cases h0 : mk.how = 0
          · obtain ⟨_, _, ⟨_, g3⟩ | ⟨g2, _⟩⟩ := go_turns (s := s) hr.inv hr.nw h0
            · exact g3
            · exact absurd h4 g2
          · rw [go_over hr.nw h0]; exact h0
        exact runN_over HG0.out.1.nw hh _
      · have h0 : mk.how = 0 := by
          by_cases h0 : mk.how = 0
          · exact h0
          · rw [step_over hr.nw h0] at h4
            exact absurd rfl h4
        have hu : (goM s mk).how = 0 → (goM s mk).used = mk.used + 1 := by
          obtain ⟨_, _, ⟨g2, _⟩ | ⟨_, _, g4⟩⟩ := go_turns (s := s) hr.inv hr.nw h0
          · exact absurd g2 h4
          · exact fun _ => g4
        by_cases h1 : (stepM mk).2.kind = 1
        · exact .inr (.inl ⟨h1, go_kind1 h1, h0, hu⟩)
        · exact .inr (.inr ⟨⟨h4, h1⟩, go_kindN h1, h0, hu⟩)
    have hus := HR.out.2.1.inv.used
    have hfu := HR.out.2.1.inv.fuel
    obtain ⟨⟨x0, x1, x2, x3, x4⟩, _⟩ := askO_cells HR.out.1.box
    have HF := Lib.hid HR.out.1
    have HMS : Hid (mk.how = 0 → 1025 - mk.used < (gk : Int)) := HR.out.2.2.2
    have hus2 : mk.used ≤ 1024 := by omega
    clear HR hus hfu
    generalize hmg : goM s mk = mg at HG0 hk
    generalize stepM mk = r at HF HIN hk x0 x1 x2 x3
    obtain ⟨m', ⟨kd, cl, xx, fi⟩⟩ := r
    dsimp only at HF HIN hk x0 x1 x2 x3
    clear hmg
    rcases hk with ⟨rfl, _, he⟩ | ⟨rfl, rfl, h0, hu⟩ | ⟨⟨h4, h1⟩, rfl, h0, hu⟩
    · have HE : Hid (Gm W [] bm K wr (endM s m)) := by rw [he]; exact HF.out.gm
      clear he HG0 HST HGV HGT HMS
      go_wp2
      go_end0
      exact ⟨rfl, HE.out⟩
    · have HNX : Hid ((giveM m' (Sx.getV s cl)).how = 0 → 1025 - (giveM m' (Sx.getV s cl)).used < ((gk - 1 : Nat) : Int)) := fun hh => by have := hu hh; have := HMS.out h0; omega
      have hgk : gk - 1 < gk := by have := HMS.out h0; omega
      have HGV1 := Lib.hid (fun u (h : Fin W bm ga K u m' ⟨1, cl, xx, fi⟩) => HGV.out u ga m' _ (Sx.getV s cl) h HIN.out)
      have HGT1 := Lib.hid (HGT.out wr ga m' _ HF.out cl)
      clear HMS hu h0 hus2
      generalize giveM m' (Sx.getV s cl) = mg at HGV1 HG0 HNX
      have HST1 := Lib.hid (fun u (h : Fin W bm ga K u mg ⟨1, cl, xx, fi⟩) => HST.out u ga mg _ h HG0.out.1.inv)
      generalize Sx.getV s cl = y at HGV1 HGT1
      clear HGV HGT HST
      go_wp2_with (first
        | (go_at_call 90; refine (HST1.out _ F1.out).mono ?_; rintro e u2 ⟨rfl, q⟩; obtain ⟨⟨z0, z1, z2, z3, z4⟩, y0, y1, y2, y3⟩ := askO_cells q.box; have F2 := Lib.hid (q.put (stepM mg).2); clear q)
        | (go_at_call 92; refine (HGV1.out _ HF.out).mono ?_; rintro e u1 ⟨rfl, q⟩; obtain ⟨⟨x0, x1, x2, x3, x4⟩, _⟩ := askO_cells q.box; have F1 := Lib.hid q; clear q)
        | (go_at_call 91; refine HGT1.out.mono ?_; rintro e w' ⟨rfl, hw⟩; subst w'))
      go_roundg (gk - 1)
      case measure => exact hgk
      case rel => exact ⟨_, mg, rfl, F2.out, HG0.out.1, HG0.out.2, HNX.out⟩
    · have HNX : Hid (mg.how = 0 → 1025 - mg.used < ((gk - 1 : Nat) : Int)) := fun hh => by have := hu hh; have := HMS.out h0; omega
      have hgk : gk - 1 < gk := by have := HMS.out h0; omega
      have HST1 := Lib.hid (HST.out wr ga mg _ HF.out HG0.out.1.inv)
      clear HMS hu h0 hus2 HGV HGT HST
      go_wp2_with (go_at_call 90; refine HST1.out.mono ?_; rintro e u2 ⟨rfl, q⟩; obtain ⟨⟨z0, z1, z2, z3, z4⟩, y0, y1, y2, y3⟩ := askO_cells q.box; have F2 := Lib.hid (q.put (stepM mg).2); clear q)
      go_roundg (gk - 1)
      case measure => exact hgk
      case rel => exact ⟨_, mg, rfl, F2.out, HG0.out.1, HG0.out.2, HNX.out⟩
theorem res_back {fn : Func} {p : Tmp} (h : fn.results = #[.cell p 62]) {Q : Ending → World → Prop} {a : Act} {w : World} (g : Nat) (R : Rs) (m : Mac) (hp : a.tmps.getD p undef = .pointer (some ⟨g, 0, none⟩))
    (hg : w.heap[g]? = some (.cells (resC R m) 62 (0, 0))) (hd : a.defers = []) (hR : Q (.returned (resV R m)) w) : bodyPost Tryz.prog fn Q .ret a w :=
  bodyPost_ret (results_cell_row h _ _ g _ _ _ _ hp hg Tryz.underlying62 rfl (by kernel_rfl)) hd hR
theorem res_back2 {fn : Func} {p u : Tmp} (h : fn.results = #[.cell p 62, .tmp u]) {Q : Ending → World → Prop} {a : Act} {w : World} (g : Nat) (R : Rs) (m : Mac) (e : Int) (hp : a.tmps.getD p undef = .pointer (some ⟨g, 0, none⟩)) (hu : a.tmps.getD u undef = .int .i64 e)
    (hg : w.heap[g]? = some (.cells (resC R m) 62 (0, 0))) (hd : a.defers = []) (hR : Q (.returned (.tuple #[resV R m, .int .i64 e])) w) : bodyPost Tryz.prog fn Q .ret a w := by
  refine bodyPost_ret (v := .tuple #[resV R m, .int .i64 e]) ?_ hd hR
  rw [results_cell_tmp h, hp, hu]
  have hl := run_loadVar_row (P := Tryz.prog) w g 62 62 (resC R m) (0, 0) _ hg Tryz.underlying62 rfl (by kernel_rfl)
  simp [asAddr, hl, Result.andThen]
theorem cells7_of {w : World} {x : Nat} {v0 v1 v2 v3 v4 v5 v6 : Value} {T : TypeId} (h : w.heap[x]? = some (.cells #[v0, v1, v2, v3, v4, v5, v6] T (0, 0))) : (w.cell? ⟨x, 0, none⟩ = some v0 ∧ w.cell? ⟨x, 1, none⟩ = some v1 ∧ w.cell? ⟨x, 2, none⟩ = some v2 ∧ w.cell? ⟨x, 3, none⟩ = some v3 ∧ w.cell? ⟨x, 4, none⟩ = some v4 ∧ w.cell? ⟨x, 5, none⟩ = some v5 ∧ w.cell? ⟨x, 6, none⟩ = some v6 ∧ x < w.heap.size) ∧ w.frozen? ⟨x, 0, none⟩ = false ∧ w.frozen? ⟨x, 1, none⟩ = false ∧ w.frozen? ⟨x, 2, none⟩ = false ∧ w.frozen? ⟨x, 3, none⟩ = false ∧ w.frozen? ⟨x, 4, none⟩ = false ∧ w.frozen? ⟨x, 5, none⟩ = false ∧ w.frozen? ⟨x, 6, none⟩ = false :=
  ⟨⟨by rw [cell_of_row w x 0 _ _ _ h]; rfl, by rw [cell_of_row w x 1 _ _ _ h]; rfl, by rw [cell_of_row w x 2 _ _ _ h]; rfl, by rw [cell_of_row w x 3 _ _ _ h]; rfl, by rw [cell_of_row w x 4 _ _ _ h]; rfl, by rw [cell_of_row w x 5 _ _ _ h]; rfl, by rw [cell_of_row w x 6 _ _ _ h]; rfl, lt_of_block h⟩, frozen_of_row w x 0 _ _ h, frozen_of_row w x 1 _ _ h, frozen_of_row w x 2 _ _ h, frozen_of_row w x 3 _ _ h, frozen_of_row w x 4 _ _ h, frozen_of_row w x 5 _ _ h, frozen_of_row w x 6 _ _ h⟩
theorem box_set7 {w : World} {x : Nat} {v0 v1 v2 v3 v4 v5 v6 u0 u1 u2 u3 u4 u5 u6 : Value} {T : TypeId} (h : w.heap[x]? = some (.cells #[v0, v1, v2, v3, v4, v5, v6] T (0, 0))) : (((((((w.setCell ⟨x, 0, none⟩ u0).setCell ⟨x, 1, none⟩ u1).setCell ⟨x, 2, none⟩ u2).setCell ⟨x, 3, none⟩ u3).setCell ⟨x, 4, none⟩ u4).setCell ⟨x, 5, none⟩ u5).setCell ⟨x, 6, none⟩ u6).heap[x]? = some (.cells #[u0, u1, u2, u3, u4, u5, u6] T (0, 0)) := by
  have e0 := heap_setCell_same w x 0 _ _ u0 h
  have e1 := heap_setCell_same _ x 1 _ _ u1 e0
  have e2 := heap_setCell_same _ x 2 _ _ u2 e1
  have e3 := heap_setCell_same _ x 3 _ _ u3 e2
  have e4 := heap_setCell_same _ x 4 _ _ u4 e3
  have e5 := heap_setCell_same _ x 5 _ _ u5 e4
  have e6 := heap_setCell_same _ x 6 _ _ u6 e5
  simp only [List.setIfInBounds_toArray, List.set_cons_zero, List.set_cons_succ] at e6
  exact e6
theorem turn_set7 (w : World) (x : Nat) (u0 u1 u2 u3 u4 u5 u6 : Value) : Turn [x] [x] w (((((((w.setCell ⟨x, 0, none⟩ u0).setCell ⟨x, 1, none⟩ u1).setCell ⟨x, 2, none⟩ u2).setCell ⟨x, 3, none⟩ u3).setCell ⟨x, 4, none⟩ u4).setCell ⟨x, 5, none⟩ u5).setCell ⟨x, 6, none⟩ u6) := ((((((turn_set w x 0 u0).trans (turn_set _ x 1 u1)).trans (turn_set _ x 2 u2)).trans (turn_set _ x 3 u3)).trans (turn_set _ x 4 u4)).trans (turn_set _ x 5 u5)).trans (turn_set _ x 6 u6)
abbrev resZ : Obj := .cells #[.int .i64 0, .int .i64 0, .int .i64 0, .slice none 0 0, .slice none 0 0, .slice none 0 0, .int .i64 0] 62
set_option maxHeartbeats 2000000 in
set_option maxRecDepth 100000 in
theorem became_any {W w : World} {b : Nat} {F0 K : List Nat} {m : Mac} (h : Gm W F0 b K w m) (ho : m.out.length ≤ 1024) (hr : m.reads.length ≤ 1024) : Calls Tryz.prog 52 #[.pointer (some ⟨b, 0, none⟩)] w fun e w' => ∃ R, e = .returned (resV R m) ∧ ResAt w' w.heap.size R m ∧ Below w.heap.size w w' := by
  have hz := below_alloc w resZ
  have HE := Lib.hid (end_any (h.on hz))
  have HO := Lib.hid (fun u (hb : Below (w.alloc resZ).heap.size (w.alloc resZ) u) => out_any ((h.on hz).on hb) ho)
  have HR := Lib.hid (fun u (hb : Below (w.alloc resZ).heap.size (w.alloc resZ) u) => reads_any ((h.on hz).on hb) hr)
  have HW := Lib.hid (fun u (hb : Below (w.alloc resZ).heap.size (w.alloc resZ) u) => writes_any ((h.on hz).on hb))
  have HU := Lib.hid (fun u (hb : Below (w.alloc resZ).heap.size (w.alloc resZ) u) => used_any ((h.on hz).on hb))
  unfold endV at HE
  have HZ := Lib.hid hz
  have HC : Hid (∀ u, Below (w.alloc resZ).heap.size (w.alloc resZ) u → u.heap[w.heap.size]? = some resZ) := fun u hb => (hb.block _ (by simp)).trans (heap_alloc_new w _)
  clear h ho hr hz
  go_enter Tryz.func52, Tryz.ntmps52
  go_wp2_with (first
    | (go_at_call 98; refine (HU.out _ B4.out).mono ?_; rintro e w' ⟨rfl, hw⟩; subst w')
    | (go_at_call 51; refine (HW.out _ B3.out).mono ?_; rintro e u4 ⟨rfl, q1, q2⟩; have R4 := Lib.hid (And.intro q1 q2); have B4 := Lib.hid (B3.out.trans (q2.mono B3.out.size)); obtain ⟨⟨x0, x1, x2, x3, x4, x5, x6, x7⟩, y0, y1, y2, y3, y4, y5, y6⟩ := cells7_of (HC.out _ B4.out); clear q1 q2)
    | (go_at_call 97; refine (HR.out _ B2.out).mono ?_; rintro e u3 ⟨pr, cr, rfl, q0, q1, q2⟩; have R3 := Lib.hid (And.intro q0 (And.intro q1 q2)); have B3 := Lib.hid (B2.out.trans (q2.mono B2.out.size)); clear q0 q1 q2)
    | (go_at_call 96; refine (HO.out _ B1.out).mono ?_; rintro e u2 ⟨po, co, rfl, q0, q1, q2⟩; have R2 := Lib.hid (And.intro q0 (And.intro q1 q2)); have B2 := Lib.hid (B1.out.trans (q2.mono B1.out.size)); clear q0 q1 q2)
    | (go_at_call 49; refine HE.out.mono ?_; rintro e u1 ⟨rfl, q⟩; have B1 := Lib.hid q; clear q))
  have hs1 := B1.out.size
  have hs2 := R2.out.2.2.size
  have hs3 := R3.out.2.2.size
  have hw1 : w.heap.size + 1 ≤ u1.heap.size := by simpa using hs1
  have hR : ResAt u4 u1.heap.size ⟨po, co, pr, cr, some ⟨u3.heap.size, 0, none⟩, m.buf.length⟩ m := ⟨(R2.out.1.on R3.out.2.2).on R4.out.2, R3.out.1.on R4.out.2, R4.out.1, R2.out.2.1, R3.out.2.1.mono hs2, fun k hk => by simp [fpR] at hk; omega⟩
  have t := turn_set7 u4 w.heap.size (.int .i64 m.how) (.int .i64 m.cod) (.int .i64 m.err) (.slice po m.out.length co) (.slice pr m.reads.length cr) (.slice (some ⟨u3.heap.size, 0, none⟩) m.buf.length m.buf.length) (.int .i64 m.used)
  refine res_back rfl w.heap.size ⟨po, co, pr, cr, some ⟨u3.heap.size, 0, none⟩, m.buf.length⟩ m rfl (box_set7 (HC.out _ B4.out)) rfl ⟨_, rfl, (hR.turn t (fun x hx => by simp at hx; omega)).mono (by omega), (HZ.out.trans (B4.out.mono HZ.out.size)).trans (t.below (fun x hx => by simp at hx; omega) (by have := B4.out.size; simp at this; omega))⟩
set_option maxHeartbeats 2000000 in
set_option maxRecDepth 100000 in
theorem afits_any {w : World} {bs : Nat} {F s : List Nat} (hS : Sx.Cel 98 w bs F s) (a b c e : Int) : Calls Tryz.prog 46 #[cfgV a b c e, .pointer (some ⟨bs, 0, none⟩)] w fun r w' => r = .returned (.bool (Md.cfgB a b c e && decide ((s.length : Int) = a))) ∧ Below w.heap.size w w' := by
  have HP := Lib.hid (Md.place_any a b c e (w.alloc (cfgO a b c e)))
  have HL : Hid (∀ u, Below w.heap.size w u → Calls Tryz.prog 85 #[.pointer (some ⟨bs, 0, none⟩)] u fun e w' => e = .returned (.int .i64 s.length) ∧ w' = u) := fun u hb => Sx.len_any (hS.on hb)
  have HZ := Lib.hid (below_alloc w (cfgO a b c e))
  have HC : Hid (∀ u, Below (w.alloc (cfgO a b c e)).heap.size (w.alloc (cfgO a b c e)) u → u.cell? ⟨w.heap.size, 0, none⟩ = some (.int .i64 a) ∧ w.heap.size < u.heap.size) := fun u hb => by
    have h1 := (hb.block w.heap.size (by simp)).trans (heap_alloc_new w (cfgO a b c e))
    exact ⟨by rw [cell_of_row u _ 0 _ _ _ h1]; rfl, lt_of_block h1⟩
  clear hS
  cases hc : Md.cfgB a b c e
  · rw [hc, if_neg Bool.false_ne_true] at HP
    clear hc
    go_enter Tryz.func46, Tryz.ntmps46
    go_wp2_with (go_at_call 84; refine HP.out.mono ?_; rintro r u0 ⟨rfl, q⟩; obtain ⟨x0, x1⟩ := HC.out _ q; have HQ := Lib.hid (HZ.out.trans (q.mono HZ.out.size)); clear q HP)
    go_region
    all_goals (try go_wp2)
    all_goals go_ret
    all_goals exact ⟨rfl, (HQ.out.alloc HQ.out.size _).trans ((Same.drewN _ _).below _)⟩
  · rw [hc, if_pos rfl] at HP
    clear hc
    by_cases hl : (s.length : Int) = a
    · rw [decide_eq_true hl, Bool.true_and]
      go_enter Tryz.func46, Tryz.ntmps46
      go_wp2_with (go_at_call 84; refine HP.out.mono ?_; rintro r u0 ⟨rfl, q⟩; obtain ⟨x0, x1⟩ := HC.out _ q; have HQ := Lib.hid (HZ.out.trans (q.mono HZ.out.size)); clear q HP)
      go_region_with (go_at_call 85; refine (HL.out _ ((HQ.out.alloc HQ.out.size _).trans ((Same.drewN _ _).below _))).mono ?_; rintro r w' ⟨rfl, hw⟩; subst w')
      all_goals (try go_wp2)
      all_goals go_ret
      all_goals exact ⟨rfl, (HQ.out.alloc HQ.out.size _).trans ((Same.drewN _ _).below _)⟩
    · rw [decide_eq_false hl, Bool.true_and]
      go_enter Tryz.func46, Tryz.ntmps46
      go_wp2_with (go_at_call 84; refine HP.out.mono ?_; rintro r u0 ⟨rfl, q⟩; obtain ⟨x0, x1⟩ := HC.out _ q; have HQ := Lib.hid (HZ.out.trans (q.mono HZ.out.size)); clear q HP)
      go_region_with (go_at_call 85; refine (HL.out _ ((HQ.out.alloc HQ.out.size _).trans ((Same.drewN _ _).below _))).mono ?_; rintro r w' ⟨rfl, hw⟩; subst w')
      all_goals (try go_wp2)
      all_goals go_ret
      all_goals exact ⟨by show Ending.returned (.bool ((s.length : Int) == a)) = _; rw [show ((s.length : Int) == a) = false by simpa using hl], (HQ.out.alloc HQ.out.size _).trans ((Same.drewN _ _).below _)⟩
theorem Turn.past2 {F F' : List Nat} {W u v : World} {g : Nat} (ht : Turn F F' W u) (t : Turn [g] [g] u v) (hg : W.heap.size ≤ g) : Turn F F' W v :=
  ⟨t.os.trans ht.os, t.tape.trans ht.tape, t.output.trans ht.output, Nat.le_trans ht.size t.size, fun k hk hn => (t.block k (Nat.lt_of_lt_of_le hk ht.size) (by simp; omega)).trans (ht.block k hk hn), ht.own⟩
theorem run_close {w u : World} {bs g B : Nat} {F s : List Nat} {R : Rs} {m : Mac} (hB : Turn F F w u) (hC : Sx.Cel 98 u bs F s) (hR : ResAt u B R m) (hbox : u.heap[g]? = some resZ) (hg : w.heap.size ≤ g) (hgB : g < B) (hF : Blw w F) (hwB : w.heap.size ≤ B) {v : World} (hv : v = (((((((u.setCell ⟨g, 0, none⟩ (.int .i64 m.how)).setCell ⟨g, 1, none⟩ (.int .i64 m.cod)).setCell ⟨g, 2, none⟩ (.int .i64 m.err)).setCell ⟨g, 3, none⟩ (.slice R.po m.out.length R.co)).setCell ⟨g, 4, none⟩ (.slice R.pr m.reads.length R.cr)).setCell ⟨g, 5, none⟩ (.slice R.pw m.buf.length R.cw)).setCell ⟨g, 6, none⟩ (.int .i64 m.used))) :
    v.heap[g]? = some (.cells (resC R m) 62 (0, 0)) ∧ ResAt v w.heap.size R m ∧ Sx.Cel 98 v bs F s ∧ Turn F F w v := by
  subst hv
  have t := turn_set7 u g (.int .i64 m.how) (.int .i64 m.cod) (.int .i64 m.err) (.slice R.po m.out.length R.co) (.slice R.pr m.reads.length R.cr) (.slice R.pw m.buf.length R.cw) (.int .i64 m.used)
  exact ⟨box_set7 hbox, (hR.turn t (fun x hx => by simp at hx; omega)).mono hwB, hC.turn t (fun x hx q => by simp at q; have := hF x hx; omega), hB.past2 t hg⟩
abbrev runW (w : World) (a b c e t : Int) (ao : Option Addr) (n cap : Nat) : World := (newW w a b c e t ao n cap).alloc resZ
theorem runW_below (w : World) (a b c e t : Int) (ao : Option Addr) (n cap : Nat) : Below w.heap.size w (runW w a b c e t ao n cap) := (newW_below w a b c e t ao n cap).trans ((below_alloc _ _).mono (by simp; omega))
theorem runW_boxes {w u : World} {a b c e t : Int} {ao : Option Addr} {n cap : Nat} (h : Below (runW w a b c e t ao n cap).heap.size (runW w a b c e t ao n cap) u) : (u.cell? ⟨w.heap.size, 0, none⟩ = some (.int .i64 a) ∧ u.cell? ⟨w.heap.size, 1, none⟩ = some (.int .i64 b) ∧ u.cell? ⟨w.heap.size, 2, none⟩ = some (.int .i64 c) ∧ u.cell? ⟨w.heap.size, 3, none⟩ = some (.int .i64 e) ∧ w.heap.size < u.heap.size) ∧ (u.cell? ⟨w.heap.size + 1, 0, none⟩ = some (.int .i64 t) ∧ u.cell? ⟨w.heap.size + 1, 1, none⟩ = some (.slice ao n cap) ∧ w.heap.size + 1 < u.heap.size) ∧ u.heap[w.heap.size + 2]? = some resZ ∧ Below w.heap.size w u := by
  have h2 : Below (newW w a b c e t ao n cap).heap.size (newW w a b c e t ao n cap) u := (below_alloc _ resZ).trans (h.mono (by simp))
  obtain ⟨x0, x1, x2, x3, x4⟩ := newW_boxes4 h2
  obtain ⟨_, ⟨y0, y1, y2⟩, y3⟩ := newW_boxes h2
  exact ⟨⟨x0, x1, x2, x3, x4⟩, ⟨y0, y1, y2⟩, (h.block (w.heap.size + 2) (by simp)).trans (heap_new (by simp)), y3⟩
end Go.Proofs.YtaliehikdidiaaaGreatDoor
namespace Go.Proofs.YtaliehikdidiaaaGreatDoor
open Go.ChangeShapes Go.WideShapes Go.ChangeAt Go.RowKit Num
attribute [local go_sem] run_store_float
theorem res_none (w : World) (B : Nat) : ResAt w B ⟨none, 0, none, 0, none, 0⟩ zeroM := ⟨⟨World.ownsRow_nil _ _ _ _⟩, ⟨World.ownsRow_nil _ _ _ _⟩, ⟨World.ownsRow_nil _ _ _ _⟩, fun k hk => by simp [fpR] at hk, fun k hk => by simp [fpR] at hk, fun k hk => by simp [fpR] at hk⟩
theorem TRow.tch {w : World} {p : Option Addr} {c : Nat} {l : Wr} (h : TRow w p c l) : Sx.TchAt w p l := fun i hi => by
  obtain ⟨g, h1, h2, h3, h4, _⟩ := h.at i hi
  exact ⟨g, h1, h2, h3, h4⟩
theorem Rest.told {m : Mac} (h : Rest m) : m.out.length ≤ 1024 ∧ m.reads.length ≤ 1024 := by
  have h1 := h.inv.out
  have h2 := h.inv.reads
  have h3 := h.inv.used
  have h4 := h.inv.fuel
  rw [if_neg h.nw] at h2
  omega
set_option maxHeartbeats 2000000 in
set_option maxRecDepth 100000 in
theorem run_bad {w : World} {a b c e t : Int} {ao : Option Addr} {n cap : Nat} {po : Option Addr} {k co bs : Nat} {F s : List Nat} (hS : Sx.Cel 98 w bs F s) (hg : goodB a b c e s.length k = false) : Calls Tryz.prog 23 #[cfgV a b c e, .agg #[.int .i64 t, .slice ao n cap], .slice po k co, .pointer (some ⟨bs, 0, none⟩)] w fun r w' => r = .returned (.tuple #[resV ⟨none, 0, none, 0, none, 0⟩ zeroM, .int .i64 1]) ∧ Below w.heap.size w w' := by
  have HF := Lib.hid (afits_any (hS.on (runW_below w a b c e t ao n cap)) a b c e)
  clear hS
  unfold goodB at hg
  have HX : Hid (∀ u, Below (runW w a b c e t ao n cap).heap.size (runW w a b c e t ao n cap) u → u.heap[w.heap.size + 2]? = some resZ ∧ Below w.heap.size w u) := fun u hb => (runW_boxes hb).2.2
  have HT : Hid (∀ u, Below w.heap.size w u → w.heap.size + 2 < u.heap.size → Below w.heap.size w (((((((u.setCell ⟨w.heap.size + 2, 0, none⟩ (.int .i64 0)).setCell ⟨w.heap.size + 2, 1, none⟩ (.int .i64 0)).setCell ⟨w.heap.size + 2, 2, none⟩ (.int .i64 0)).setCell ⟨w.heap.size + 2, 3, none⟩ (.slice none 0 0)).setCell ⟨w.heap.size + 2, 4, none⟩ (.slice none 0 0)).setCell ⟨w.heap.size + 2, 5, none⟩ (.slice none 0 0)).setCell ⟨w.heap.size + 2, 6, none⟩ (.int .i64 0))) := fun u hb hl => hb.trans ((turn_set7 u (w.heap.size + 2) _ _ _ _ _ _ _).below (fun x hx => by simp at hx; omega) (by omega))
  cases hf : (Md.cfgB a b c e && decide ((s.length : Int) = a))
  · rw [hf] at HF
    clear hg hf
    go_enter Tryz.func23, Tryz.ntmps23
    go_wp2_with (go_at_call 46; refine HF.out.mono ?_; rintro r u ⟨rfl, q⟩; obtain ⟨⟨x0, x1, x2, x3, x4, x5, x6, x7⟩, y0, y1, y2, y3, y4, y5, y6⟩ := cells7_of (HX.out _ q).1; have HQ := Lib.hid (HX.out _ q); clear q HF)
    exact res_back2 rfl (w.heap.size + 2) ⟨none, 0, none, 0, none, 0⟩ zeroM 1 rfl rfl (box_set7 HQ.out.1) rfl ⟨rfl, HT.out _ HQ.out.2 x7⟩
  · have hk : (8 : Int) < (k : Int) := by rw [hf] at hg; simp at hg; omega
    rw [hf] at HF
    clear hg hf
    go_enter Tryz.func23, Tryz.ntmps23
    go_wp2_with (go_at_call 46; refine HF.out.mono ?_; rintro r u ⟨rfl, q⟩; obtain ⟨⟨x0, x1, x2, x3, x4, x5, x6, x7⟩, y0, y1, y2, y3, y4, y5, y6⟩ := cells7_of (HX.out _ q).1; have HQ := Lib.hid (HX.out _ q); clear q HF)
    exact res_back2 rfl (w.heap.size + 2) ⟨none, 0, none, 0, none, 0⟩ zeroM 1 rfl rfl (box_set7 HQ.out.1) rfl ⟨rfl, HT.out _ HQ.out.2 x7⟩
theorem end_field (h c e : Int) (w : World) : (Instr.field 59 (.agg #[.int .i64 h, .int .i64 c, .int .i64 e]) 0).run Tryz.prog w = .ok (.int .i64 h) w := by kernel_rfl
theorem Gm.aside {u v v' : World} {bm : Nat} {F K : List Nat} {m : Mac} (h : Gm u [] bm K v m) (hK : Abv u.heap.size K) (t : Turn F F v v') (hF : ∀ x ∈ F, x < u.heap.size) : ∃ F0, Gm v' F0 bm K v' m := by
  obtain ⟨F', hM, ht⟩ := h.mc
  exact ⟨F', (hM.turn t (fun x hx q => (ht.own x hx).elim (by simp) (fun z => absurd (hF x q) (by omega))) (fun x hx q => absurd (hF x q) (by have := hK x hx; omega))).gm⟩
set_option maxHeartbeats 4000000 in
set_option maxRecDepth 100000 in
theorem run_good {w : World} {a b c e t : Int} {ao : Option Addr} {cs : List Ins} {n cap : Nat} {po : Option Addr} {l : List Nat} {k co bs : Nat} {F s : List Nat} (hT : Shaped5 w) (hn : cs.length = n) (hk : l.length = k) (hC : CodeAt w ao cs) (hx : ∀ i ∈ cs, i.x < 18446744073709551616) (hL : FlAt w po l) (hl : ∀ x ∈ l, x < 18446744073709551616) (hnl : n ≤ 9223372036854775807) (hS : Sx.Cel 98 w bs F s) (hs : okS s) (hg : goodB a b c e s.length k = true) : Calls Tryz.prog 23 #[cfgV a b c e, .agg #[.int .i64 t, .slice ao n cap], .slice po k co, .pointer (some ⟨bs, 0, none⟩)] w fun r w' => ∃ R, r = .returned (.tuple #[resV R (endM s (newM a c e t cs l)), .int .i64 0]) ∧ ResAt w' w.heap.size R (endM s (newM a c e t cs l)) ∧ Sx.Cel 98 w' bs F (aftS s (endM s (newM a c e t cs l))) ∧ Turn F F w w' := by
  have hgg : Md.cfgB a b c e = true ∧ (s.length : Int) = a ∧ k ≤ 8 := by unfold goodB at hg; simp at hg; exact ⟨hg.1.1, hg.1.2, hg.2⟩
  have hRE : Rest (newM a c e t cs l) := new_rest hgg.1 (fun j hj => hx _ (List.mem_of_getElem? (ci_lt hj))) hl
  have HF := Lib.hid (afits_any (hS.on (runW_below w a b c e t ao n cap)) a b c e)
  rw [hgg.1, decide_eq_true hgg.2.1] at HF
  have HX : Hid (∀ u, Below (runW w a b c e t ao n cap).heap.size (runW w a b c e t ao n cap) u → u.heap[w.heap.size + 1 + 1]? = some resZ ∧ Below w.heap.size w u) := fun u hb => (runW_boxes hb).2.2
  have HB4 : Hid (∀ u, Below (runW w a b c e t ao n cap).heap.size (runW w a b c e t ao n cap) u → (u.cell? ⟨w.heap.size, 0, none⟩ = some (.int .i64 a) ∧ u.cell? ⟨w.heap.size, 1, none⟩ = some (.int .i64 b) ∧ u.cell? ⟨w.heap.size, 2, none⟩ = some (.int .i64 c) ∧ u.cell? ⟨w.heap.size, 3, none⟩ = some (.int .i64 e) ∧ w.heap.size < u.heap.size) ∧ (u.cell? ⟨w.heap.size + 1, 0, none⟩ = some (.int .i64 t) ∧ u.cell? ⟨w.heap.size + 1, 1, none⟩ = some (.slice ao n cap) ∧ w.heap.size + 1 < u.heap.size)) := fun u hb => ⟨(runW_boxes hb).1, (runW_boxes hb).2.1⟩
  have HN : Hid (∀ u, Below w.heap.size w u → Calls Tryz.prog 47 #[cfgV a b c e, .agg #[.int .i64 t, .slice ao n cap], .slice po k co] u fun r w' => ∃ bm K, r = .returned (.pointer (some ⟨bm, 0, none⟩)) ∧ Gm u [] bm K w' (newM a c e t cs l) ∧ Abv u.heap.size K) := fun u hb => mnew_any hn hk (hT.on hb) (hC.on hb) (hL.on hb) hnl hgg.1 hgg.2.2
  have HFI : Hid (∀ u bm K v, Below w.heap.size w u → Gm u [] bm K v (newM a c e t cs l) → Calls Tryz.prog 48 #[.pointer (some ⟨bm, 0, none⟩), .pointer (some ⟨bs, 0, none⟩)] v fun r w' => r = .returned (.tuple #[]) ∧ Gm u [] bm K w' (endM s (newM a c e t cs l))) := fun u bm K v hb hG => finish_any hG (hT.on hb) (hS.on hb) hs hRE
  have hE : Rest (endM s (newM a c e t cs l)) := endM_rest hs hRE
  have hEC : (endM s (newM a c e t cs l)).cells = a := (endM_like hs hRE).cells
  have hk8 : ¬ (8 : Int) < (k : Int) := by have := hgg.2.2; omega
  clear hT hC hx hL hl hnl hn hk hg hRE
  generalize endM s (newM a c e t cs l) = m at *
  generalize newM a c e t cs l = m0 at *
  have HBL := Lib.hid hS.blw
  have HE : Hid (∀ u bm K v, Gm u [] bm K v m → Calls Tryz.prog 49 #[.pointer (some ⟨bm, 0, none⟩)] v fun r w' => r = .returned (.agg #[.int .i64 m.how, .int .i64 m.cod, .int .i64 m.err]) ∧ Below v.heap.size v w') := fun u bm K v hG => end_any hG
  have HWR : Hid (∀ u bm K v, Gm u [] bm K v m → Calls Tryz.prog 51 #[.pointer (some ⟨bm, 0, none⟩)] v fun r w' => r = .returned (.slice (some ⟨v.heap.size, 0, none⟩) m.buf.length m.buf.length) ∧ TRow w' (some ⟨v.heap.size, 0, none⟩) m.buf.length m.buf ∧ Below v.heap.size v w') := fun u bm K v hG => writes_any hG
  have HBE : Hid (∀ W F0 bm K v, Gm W F0 bm K v m → Calls Tryz.prog 52 #[.pointer (some ⟨bm, 0, none⟩)] v fun r w' => ∃ R, r = .returned (resV R m) ∧ ResAt w' v.heap.size R m ∧ Below v.heap.size v w') := fun W F0 bm K v hG => became_any hG hE.told.1 hE.told.2
  have HAP : Hid (∀ v q, Below w.heap.size w v → w.heap.size ≤ q → TRow v (some ⟨q, 0, none⟩) m.buf.length m.buf → Calls Tryz.prog 50 #[.pointer (some ⟨bs, 0, none⟩), .slice (some ⟨q, 0, none⟩) m.buf.length m.buf.length] v fun r w' => r = .returned (.int .i64 (Sx.applyE s.length m.buf)) ∧ Sx.Cel 98 w' bs F (Sx.foldL s m.buf) ∧ Turn F F v w') := fun v q hb hq hr => by
    have hmany : m.buf.length ≤ 9223372036854775807 := by have := hE.inv.few; have := hE.inv.wmax; omega
    rw [← apply_is hE (hgg.2.1.trans hEC.symm)]
    exact Sx.apply_any' (hS.on hb) hr.tch rfl (fun x hx y => by simp [fpR] at hx; have := hS.blw x y; omega) hmany
  have HS := Lib.hid hS
  have h1 : m.how = 1 ∨ ¬ m.how = 1 := by omega
  have hfd := fun w => end_field m.how m.cod m.err w
  clear hgg hE hEC hS hs
  rcases h1 with h1 | h1
  · have HAF : Hid (aftS s m = Sx.foldL s m.buf) := if_pos h1
    rw [h1] at hfd HE
    clear h1
    go_enter Tryz.func23, Tryz.ntmps23
    go_wp2_with (first
      | (go_at_call 52; refine (HBE.out _ _ _ _ _ G6.out.1).mono ?_; rintro r u7 ⟨R, rfl, q1, q2⟩; have R7 := Lib.hid (And.intro q1 q2); have B7 := Lib.hid ((q2.block _ (lt_of_block G6.out.2)).trans G6.out.2); clear q1 q2; obtain ⟨⟨x0, x1, x2, x3, x4, x5, x6, x7⟩, y0, y1, y2, y3, y4, y5, y6⟩ := cells7_of B7.out)
      | (go_at_call 50; refine (HAP.out _ _ (HX.out _ B5.out).2 Q5.out R5.out).mono ?_; rintro r u6 ⟨rfl, q1, q2⟩; have C6 := Lib.hid (And.intro q1 q2); obtain ⟨F0, q3⟩ := G5.out.aside G2.out.2 q2 (fun x hx => Nat.lt_of_lt_of_le (HBL.out x hx) (HX.out _ B1.out).2.size); have G6 := Lib.hid (And.intro q3 ((q2.block (w.heap.size + 1 + 1) (lt_of_block (HX.out _ B5.out).1) (fun hx => by have := HBL.out _ hx; omega)).trans (HX.out _ B5.out).1)); clear q1 q2 q3)
      | (go_at_call 51; refine (HWR.out _ _ _ _ G4.out).mono ?_; rintro r u5 ⟨rfl, q1, q2⟩; have R5 := Lib.hid q1; have G5 := Lib.hid (G4.out.on q2); have Q5 : Hid (w.heap.size ≤ u4.heap.size) := (HX.out _ B4.out).2.size; have B5 := Lib.hid (B4.out.trans (q2.mono B4.out.size)); clear q1 q2)
      | (go_at_call 49; refine (HE.out _ _ _ _ G3.out).mono ?_; rintro r u4 ⟨rfl, q⟩; have G4 := Lib.hid (G3.out.on q); have B4 := Lib.hid (B3.out.trans (q.mono B3.out.size)); clear q)
      | (go_at_call 48; refine (HFI.out _ _ _ _ (HX.out _ B1.out).2 G2.out.1).mono ?_; rintro r u3 ⟨rfl, q⟩; have G3 := Lib.hid q; have B3 := Lib.hid (B1.out.trans (q.fresh.mono B1.out.size)); clear q)
      | (go_at_call 47; refine (HN.out _ (HX.out _ B1.out).2).mono ?_; rintro r u2 ⟨bm, K, rfl, q1, q2⟩; have G2 := Lib.hid (And.intro q1 q2); clear q1 q2)
      | (go_at_call 46; refine HF.out.mono ?_; rintro r u1 ⟨rfl, q⟩; obtain ⟨⟨z0, z1, z2, z3, z4⟩, t0, t1, t2⟩ := HB4.out _ q; have B1 := Lib.hid q; clear q))
    have hcl := run_close (v := _) ((Below.turn (HX.out _ B5.out).2 F).trans (C6.out.2.trans (Below.turn R7.out.2 F))) (C6.out.1.on R7.out.2) R7.out.1 B7.out (Nat.le_add_right _ 2) (lt_of_block G6.out.2) HBL.out (Nat.le_trans (HX.out _ B5.out).2.size C6.out.2.size) rfl
    rw [HAF.out]
    exact res_back2 rfl (w.heap.size + 1 + 1) R m 0 rfl rfl hcl.1 rfl ⟨_, rfl, hcl.2.1, hcl.2.2.1, hcl.2.2.2⟩
  · have HAF : Hid (aftS s m = s) := if_neg h1
    go_enter Tryz.func23, Tryz.ntmps23
    go_wp2_with (first
      | (go_at_call 52; refine (HBE.out _ _ _ _ _ G4.out).mono ?_; rintro r u7 ⟨R, rfl, q1, q2⟩; have R7 := Lib.hid (And.intro q1 q2); have B7 := Lib.hid (B4.out.trans (q2.mono B4.out.size)); clear q1 q2; obtain ⟨⟨x0, x1, x2, x3, x4, x5, x6, x7⟩, y0, y1, y2, y3, y4, y5, y6⟩ := cells7_of (HX.out _ B7.out).1)
      | (go_at_call 49; refine (HE.out _ _ _ _ G3.out).mono ?_; rintro r u4 ⟨rfl, q⟩; have G4 := Lib.hid (G3.out.on q); have B4 := Lib.hid (B3.out.trans (q.mono B3.out.size)); clear q)
      | (go_at_call 48; refine (HFI.out _ _ _ _ (HX.out _ B1.out).2 G2.out.1).mono ?_; rintro r u3 ⟨rfl, q⟩; have G3 := Lib.hid q; have B3 := Lib.hid (B1.out.trans (q.fresh.mono B1.out.size)); clear q)
      | (go_at_call 47; refine (HN.out _ (HX.out _ B1.out).2).mono ?_; rintro r u2 ⟨bm, K, rfl, q1, q2⟩; have G2 := Lib.hid (And.intro q1 q2); clear q1 q2)
      | (go_at_call 46; refine HF.out.mono ?_; rintro r u1 ⟨rfl, q⟩; obtain ⟨⟨z0, z1, z2, z3, z4⟩, t0, t1, t2⟩ := HB4.out _ q; have B1 := Lib.hid q; clear q))
    have hcl := run_close (v := _) (Below.turn (HX.out _ B7.out).2 F) (HS.out.on (HX.out _ B7.out).2) R7.out.1 (HX.out _ B7.out).1 (Nat.le_add_right _ 2) (lt_of_block (HX.out _ B4.out).1) HBL.out (HX.out _ B4.out).2.size rfl
    rw [HAF.out]
    exact res_back2 rfl (w.heap.size + 1 + 1) R m 0 rfl rfl hcl.1 rfl ⟨_, rfl, hcl.2.1, hcl.2.2.1, hcl.2.2.2⟩
theorem run_any {w : World} {a b c e t : Int} {ao : Option Addr} {cs : List Ins} {n cap : Nat} {po : Option Addr} {l : List Nat} {k co bs : Nat} {F s : List Nat} (hT : Shaped5 w) (hn : cs.length = n) (hk : l.length = k) (hC : CodeAt w ao cs) (hx : ∀ i ∈ cs, i.x < 18446744073709551616) (hL : FlAt w po l) (hl : ∀ x ∈ l, x < 18446744073709551616) (hnl : n ≤ 9223372036854775807) (hS : Sx.Cel 98 w bs F s) (hs : okS s) : Calls Tryz.prog 23 #[cfgV a b c e, .agg #[.int .i64 t, .slice ao n cap], .slice po k co, .pointer (some ⟨bs, 0, none⟩)] w fun r w' => ∃ R, r = .returned (.tuple #[resV R (runR a b c e t cs l s), .int .i64 (runE a b c e s.length k)]) ∧ ResAt w' w.heap.size R (runR a b c e t cs l s) ∧ Sx.Cel 98 w' bs F (aftS s (runR a b c e t cs l s)) ∧ Turn F F w w' := by
  unfold runR runE
  rw [hk]
  cases hg : goodB a b c e s.length k with
  | true =>
    rw [if_pos rfl, if_pos rfl]
    exact run_good hT hn hk hC hx hL hl hnl hS hs hg
  | false =>
    rw [if_neg Bool.false_ne_true, if_neg Bool.false_ne_true]
    exact (run_bad hS hg).mono fun r w' ⟨q1, q2⟩ => ⟨_, q1, res_none w' _, hS.on q2, Below.turn q2 F⟩
end Go.Proofs.YtaliehikdidiaaaGreatDoor
namespace Go.Proofs.YtaliehikdidiaaaGreatDoor
open Go.ChangeShapes Go.WideShapes Go.ChangeAt Go.RowKit Num
theorem setL_at (s : List Nat) (c : Int) (x : Nat) {i : Nat} (hi : i < s.length) : (Sx.setL s c x).getD i 0 = if c = (i : Int) then fixB x else s.getD i 0 := by
  unfold Sx.setL
  by_cases hc : c = (i : Int)
  · subst hc
    rw [if_pos (by rw [Sx.hasN_nat]; exact decide_eq_true hi), if_pos rfl, Int.toNat_natCast]
    simp [List.getD_eq_getElem?_getD, hi]
  · rw [if_neg hc]
    split
    · rename_i hh
      obtain ⟨k, rfl, _⟩ := Sx.hasN_pos hh
      have hk : ¬ k = i := fun e => hc (by rw [e])
      simp [List.getD_eq_getElem?_getD, hk]
    · rfl
theorem foldL_at : ∀ (ts : Wr) (s : List Nat) {i : Nat}, i < s.length → (cellsOfL ts).Nodup → (Sx.foldL s ts).getD i 0 = if hasC ts (i : Int) then fixB (getC ts (i : Int)) else s.getD i 0
  | [], s, i, _, _ => by
    rw [if_neg (by simp [hasC, idx])]
    rfl
  | t :: ts, s, i, hi, hn => by
    show (Sx.foldL (Sx.setL s t.1 t.2) ts).getD i 0 = _
    have hn2 : t.1 ∉ cellsOfL ts ∧ (cellsOfL ts).Nodup := by
      have : cellsOfL (t :: ts) = t.1 :: cellsOfL ts := rfl
      rw [this, List.nodup_cons] at hn
      exact hn
    rw [foldL_at ts _ (by rw [Sx.setL_len]; exact hi) hn2.2, setL_at s t.1 t.2 hi, hasC_cons, getC_cons]
    by_cases hc : t.1 = (i : Int)
    · have hh : hasC ts (i : Int) = false := by
        cases hq : hasC ts (i : Int) with
        | false => rfl
        | true => exact absurd (hasC_mem.1 hq) (by rw [← hc]; exact hn2.1)
      rw [hh, if_pos hc, if_neg Bool.false_ne_true, decide_eq_true hc, Bool.true_or, if_pos rfl, if_pos hc]
    · rw [if_neg hc, decide_eq_false hc, Bool.false_or, if_neg hc]
theorem aft_at {s : List Nat} {m : Mac} (hm : Rest m) (h1 : m.how = 1) {i : Nat} (hi : i < s.length) : (aftS s m).getD i 0 = if (i : Int) ∈ cellsOfL m.buf then getC m.buf (i : Int) else s.getD i 0 := by
  unfold aftS
  rw [if_pos h1, foldL_at m.buf s hi hm.nod]
  cases hh : hasC m.buf (i : Int) with
  | true =>
    rw [if_pos rfl, if_pos (hasC_mem.1 hh)]
    exact (getC_ok hm.inv.buf).1
  | false =>
    rw [if_neg Bool.false_ne_true, if_neg (fun hc => by rw [hasC_mem.2 hc] at hh; cases hh)]
end Go.Proofs.YtaliehikdidiaaaGreatDoor
namespace Go.Proofs.YtaliehikdidiaaaGreatDoor.Tr
open Num
structure Cx where
  nc : Int
  fuel : Int
  wmax : Int
  upd : Bool
  code : List Ins
  args : Nat → Nat
  lo : Nat
  hi : Nat
structure Cx.Ok (C : Cx) : Prop where
  hi : (C.hi : Int) ≤ C.nc
  nc : C.nc ≤ 256
structure Vm where
  pl : Nat
  st : List Nat
  lc : List Nat
  out : List Nat
  mem : Nat → Nat
  u : Nat
  nw : Nat
structure StepL (C : Cx) (P : Vm → Vm → Prop) : Prop where
  push : ∀ {pl st lc out mem u nw n x} (y), ci C.code pl = ⟨1, n, x⟩ → fixB x = y → st.length < 64 → P ⟨pl, st, lc, out, mem, u, nw⟩ ⟨pl + 1, y :: st, lc, out, mem, u + 1, nw⟩
  drop : ∀ {pl a st lc out mem u nw n x}, ci C.code pl = ⟨2, n, x⟩ → st.length < 64 → P ⟨pl, a :: st, lc, out, mem, u, nw⟩ ⟨pl + 1, st, lc, out, mem, u + 1, nw⟩
  dup : ∀ {pl a st lc out mem u nw n x}, ci C.code pl = ⟨3, n, x⟩ → st.length < 63 → P ⟨pl, a :: st, lc, out, mem, u, nw⟩ ⟨pl + 1, a :: a :: st, lc, out, mem, u + 1, nw⟩
  swap : ∀ {pl a b st lc out mem u nw n x}, ci C.code pl = ⟨4, n, x⟩ → st.length < 63 → P ⟨pl, a :: b :: st, lc, out, mem, u, nw⟩ ⟨pl + 1, b :: a :: st, lc, out, mem, u + 1, nw⟩
  pick : ∀ {pl st lc out mem u nw x} (n y), ci C.code pl = ⟨5, (n : Nat), x⟩ → n < st.length → st.getD n 0 = y → st.length < 64 → P ⟨pl, st, lc, out, mem, u, nw⟩ ⟨pl + 1, y :: st, lc, out, mem, u + 1, nw⟩
  arg : ∀ {pl st lc out mem u nw x} (n y), ci C.code pl = ⟨6, (n : Nat), x⟩ → C.args n = y → st.length < 64 → P ⟨pl, st, lc, out, mem, u, nw⟩ ⟨pl + 1, y :: st, lc, out, mem, u + 1, nw⟩
  get : ∀ {pl st lc out mem u nw x} (n y), ci C.code pl = ⟨7, (n : Nat), x⟩ → lc.getD n 0 = y → st.length < 64 → P ⟨pl, st, lc, out, mem, u, nw⟩ ⟨pl + 1, y :: st, lc, out, mem, u + 1, nw⟩
  set : ∀ {pl a st lc out mem u nw x} (n), ci C.code pl = ⟨8, (n : Nat), x⟩ → n < lc.length → st.length < 64 → P ⟨pl, a :: st, lc, out, mem, u, nw⟩ ⟨pl + 1, st, lc.set n a, out, mem, u + 1, nw⟩
  one : ∀ {pl a st lc out mem u nw x n} (y), ci C.code pl = ⟨9, n, x⟩ → oneV n a = y → st.length < 64 → P ⟨pl, a :: st, lc, out, mem, u, nw⟩ ⟨pl + 1, y :: st, lc, out, mem, u + 1, nw⟩
  two : ∀ {pl a b st lc out mem u nw x n} (y), ci C.code pl = ⟨10, n, x⟩ → twoV n a b = y → st.length < 63 → P ⟨pl, b :: a :: st, lc, out, mem, u, nw⟩ ⟨pl + 1, y :: st, lc, out, mem, u + 1, nw⟩
  jump : ∀ {pl st lc out mem u nw x} (n), ci C.code pl = ⟨11, (n : Nat), x⟩ → st.length < 64 → P ⟨pl, st, lc, out, mem, u, nw⟩ ⟨n, st, lc, out, mem, u + 1, nw⟩
  ifT : ∀ {pl a st lc out mem u nw x} (n), ci C.code pl = ⟨12, (n : Nat), x⟩ → trueB a = true → st.length < 64 → P ⟨pl, a :: st, lc, out, mem, u, nw⟩ ⟨n, st, lc, out, mem, u + 1, nw⟩
  ifF : ∀ {pl a st lc out mem u nw x n}, ci C.code pl = ⟨12, n, x⟩ → trueB a = false → st.length < 64 → P ⟨pl, a :: st, lc, out, mem, u, nw⟩ ⟨pl + 1, st, lc, out, mem, u + 1, nw⟩
  unF : ∀ {pl a st lc out mem u nw x} (n), ci C.code pl = ⟨13, (n : Nat), x⟩ → trueB a = false → st.length < 64 → P ⟨pl, a :: st, lc, out, mem, u, nw⟩ ⟨n, st, lc, out, mem, u + 1, nw⟩
  unT : ∀ {pl a st lc out mem u nw x n}, ci C.code pl = ⟨13, n, x⟩ → trueB a = true → st.length < 64 → P ⟨pl, a :: st, lc, out, mem, u, nw⟩ ⟨pl + 1, st, lc, out, mem, u + 1, nw⟩
  read : ∀ {pl st lc out mem u nw n x} (c y), ci C.code pl = ⟨16, n, x⟩ → C.lo ≤ c → c < C.hi → mem c = y → st.length < 63 → P ⟨pl, X (c : Nat) :: st, lc, out, mem, u, nw⟩ ⟨pl + 1, y :: st, lc, out, mem, u + 1, nw⟩
  write : ∀ {pl a st lc out mem u nw n x} (c), ci C.code pl = ⟨17, n, x⟩ → C.upd = true → C.lo ≤ c → c < C.hi → st.length < 62 → P ⟨pl, X (c : Nat) :: a :: st, lc, out, mem, u, nw⟩ ⟨pl + 1, st, lc, out, updF mem c a, u + 1, nw + 1⟩
  emit : ∀ {pl a st lc out mem u nw n x}, ci C.code pl = ⟨18, n, x⟩ → st.length < 64 → P ⟨pl, a :: st, lc, out, mem, u, nw⟩ ⟨pl + 1, st, lc, out ++ [a], mem, u + 1, nw⟩
def Step (C : Cx) (v v' : Vm) : Prop := ∀ P : Vm → Vm → Prop, StepL C P → P v v'
theorem stepL (C : Cx) : StepL C (Step C) := ⟨fun y h hy hl _ L => L.push y h hy hl, fun h hl _ L => L.drop h hl, fun h hl _ L => L.dup h hl, fun h hl _ L => L.swap h hl, fun n y h hn hy hl _ L => L.pick n y h hn hy hl, fun n y h hy hl _ L => L.arg n y h hy hl, fun n y h hy hl _ L => L.get n y h hy hl, fun n h hn hl _ L => L.set n h hn hl, fun y h hy hl _ L => L.one y h hy hl, fun y h hy hl _ L => L.two y h hy hl, fun n h hl _ L => L.jump n h hl, fun n h ht hl _ L => L.ifT n h ht hl, fun h ht hl _ L => L.ifF h ht hl, fun n h ht hl _ L => L.unF n h ht hl, fun h ht hl _ L => L.unT h ht hl, fun c y h h1 h2 hy hl _ L => L.read c y h h1 h2 hy hl, fun c h hu h1 h2 hl _ L => L.write c h hu h1 h2 hl, fun h hl _ L => L.emit h hl⟩
abbrev Step.push {C : Cx} := @StepL.push C (Step C) (stepL C)
abbrev Step.arg {C : Cx} := @StepL.arg C (Step C) (stepL C)
abbrev Step.get {C : Cx} := @StepL.get C (Step C) (stepL C)
abbrev Step.set {C : Cx} := @StepL.set C (Step C) (stepL C)
abbrev Step.one {C : Cx} := @StepL.one C (Step C) (stepL C)
abbrev Step.two {C : Cx} := @StepL.two C (Step C) (stepL C)
abbrev Step.jump {C : Cx} := @StepL.jump C (Step C) (stepL C)
abbrev Step.ifT {C : Cx} := @StepL.ifT C (Step C) (stepL C)
abbrev Step.ifF {C : Cx} := @StepL.ifF C (Step C) (stepL C)
abbrev Step.unF {C : Cx} := @StepL.unF C (Step C) (stepL C)
abbrev Step.unT {C : Cx} := @StepL.unT C (Step C) (stepL C)
abbrev Step.read {C : Cx} := @StepL.read C (Step C) (stepL C)
abbrev Step.write {C : Cx} := @StepL.write C (Step C) (stepL C)
abbrev Step.emit {C : Cx} := @StepL.emit C (Step C) (stepL C)
def Cx.mac (C : Cx) (v : Vm) (rd bf : Wr) : Mac := ⟨C.nc, C.fuel, C.wmax, C.upd, C.code, C.args, fun k => v.lc.getD k 0, v.st, [], v.pl, v.u, v.out, rd, bf, -1, 0, 0, 0⟩
def In (C : Cx) (l : Wr) : Prop := ∀ t ∈ l, (C.lo : Int) ≤ t.1 ∧ t.1 < C.hi
structure Sees (C : Cx) (s : List Nat) (mem : Nat → Nat) (nw : Nat) (rd bf : Wr) : Prop where
  see : ∀ c, c < C.hi → mem c = if hasC bf c then Go.Proofs.YtaliehikdidiaaaGreatDoor.getC bf c else Sx.getV s c
  few : bf.length ≤ nw
  rd : In C rd
  bf : In C bf
def Abs (C : Cx) (s : List Nat) (v : Vm) (m : Mac) : Prop := ∃ rd bf, m = C.mac v rd bf ∧ Sees C s v.mem v.nw rd bf
theorem in_app {C : Cx} {l : Wr} (h : In C l) {t : Int × Nat} (ht : (C.lo : Int) ≤ t.1 ∧ t.1 < C.hi) : In C (l ++ [t]) := fun q hq => by
  rcases List.mem_append.1 hq with k | k
  · exact h q k
  · rw [List.mem_singleton] at k
    exact k ▸ ht
theorem Sees.wrote {C : Cx} {s : List Nat} {mem : Nat → Nat} {nw : Nat} {rd bf : Wr} (h : Sees C s mem nw rd bf) (c x : Nat) (h1 : C.lo ≤ c) (h2 : c < C.hi) : Sees C s (updF mem c x) (nw + 1) rd (putC bf c x) := by
  refine ⟨fun d hd => ?_, ?_, h.rd, ?_⟩
  · rw [getC_put]
    have hh : hasC (putC bf c x) (d : Int) = (decide ((c : Int) = d) || hasC bf d) := by
      have e1 : ∀ l : Wr, ∀ k : Int, hasC l k = decide (k ∈ cellsOfL l) := fun l k => by
        cases hq : hasC l k with
        | true => exact (decide_eq_true (hasC_mem.1 hq)).symm
        | false => exact (decide_eq_false (fun z => by rw [hasC_mem.2 z] at hq; cases hq)).symm
      rw [e1, e1, cells_put]
      split
      · rename_i z
        by_cases q : (c : Int) = d
        · rw [← q, decide_eq_true (hasC_mem.1 z), Bool.or_true]
        · rw [decide_eq_false q, Bool.false_or]
      · rw [Bool.eq_iff_iff, Bool.or_eq_true, decide_eq_true_eq, decide_eq_true_eq, decide_eq_true_eq, List.mem_append, List.mem_singleton]
        constructor
        · rintro (q | q)
          · exact .inr q
          · exact .inl q.symm
        · rintro (q | q)
          · exact .inr q.symm
          · exact .inl q
    rw [hh]
    unfold updF
    by_cases q : d = c
    · rw [if_pos q, decide_eq_true (by omega), Bool.true_or, if_pos rfl, if_pos (by omega)]
    · rw [if_neg q, decide_eq_false (by omega), Bool.false_or, if_neg (show ¬ (c : Int) = d by omega)]
      exact h.see d hd
  · have := h.few
    unfold putC
    split
    · rw [List.length_set]; omega
    · rw [List.length_append]; simp; omega
  · exact putC_cells (P := fun k => (C.lo : Int) ≤ k ∧ k < C.hi) h.bf ⟨by omega, by omega⟩
theorem ci_len {c : List Ins} {k : Nat} {i : Ins} (h : ci c k = i) (h0 : i.op ≠ 0) : k < c.length := by
  rcases Nat.lt_or_ge k c.length with q | q
  · exact q
  · exfalso
    apply h0
    rw [← h]
    unfold ci
    rw [List.getD_eq_getElem?_getD, List.getElem?_eq_none q]
    rfl
section
variable {C : Cx} {s : List Nat}
theorem go_ok {v : Vm} {rd bf : Wr} {o n : Int} {x : Nat} (hi : ci C.code v.pl = ⟨o, n, x⟩) (h0 : o ≠ 0) (hu : (v.u : Int) < C.fuel) (hr : roomB (begM (C.mac v rd bf)) ⟨o, n, x⟩ = true) : stepM (C.mac v rd bf) = doM (begM (C.mac v rd bf)) ⟨o, n, x⟩ := by
  have hl := ci_len hi h0
  have e : insM (C.mac v rd bf) = ⟨o, n, x⟩ := hi
  unfold stepM
  rw [if_neg (show ¬ 0 ≤ (C.mac v rd bf).wait by show ¬ (0 : Int) ≤ -1; decide), if_pos (show (C.mac v rd bf).how = 0 from rfl), if_pos (show (C.mac v rd bf).used < (C.mac v rd bf).fuel from hu), if_pos (show (C.mac v rd bf).place < ((C.mac v rd bf).code.length : Int) by show (v.pl : Int) < (C.code.length : Int); omega), e, hr, if_pos rfl]
theorem go_plain {v v' : Vm} {rd bf : Wr} {o n : Int} {x : Nat} (hi : ci C.code v.pl = ⟨o, n, x⟩) (h0 : o ≠ 0) (hu : (v.u : Int) < C.fuel) (hr : roomB (begM (C.mac v rd bf)) ⟨o, n, x⟩ = true) (hd : doM (begM (C.mac v rd bf)) ⟨o, n, x⟩ = (C.mac v' rd bf, ask0)) : goM s (C.mac v rd bf) = C.mac v' rd bf := by
  have e := (go_ok hi h0 hu hr).trans hd
  rw [go_kindN (by rw [e]; show ¬ (0 : Int) = 1; decide), e]
theorem Step.u {v v' : Vm} (h : Step C v v') : v'.u = v.u + 1 ∧ v.nw ≤ v'.nw := h (fun v v' => v'.u = v.u + 1 ∧ v.nw ≤ v'.nw) (by constructor <;> intros <;> exact ⟨rfl, by simp⟩)
theorem room_of {v : Vm} {rd bf : Wr} {i : Ins} (h1 : leastI i ≤ (v.st.length : Int)) (h2 : (v.st.length : Int) - takesI i + laysI i ≤ 64) : roomB (begM (C.mac v rd bf)) i = true := by
  unfold roomB
  rw [decide_eq_true (show leastI i ≤ ((begM (C.mac v rd bf)).st.length : Int) from h1), decide_eq_true (show ((begM (C.mac v rd bf)).st.length : Int) - takesI i + laysI i ≤ 64 from h2), decide_eq_false (show ¬ 16 ≤ (begM (C.mac v rd bf)).calls.length by show ¬ 16 ≤ 0; decide), Bool.and_false]
  rfl
theorem loc_set (lc : List Nat) {n : Nat} (a : Nat) (h : n < lc.length) : updF (fun k => lc.getD k 0) n a = fun k => (lc.set n a).getD k 0 := by
  funext k
  show (if k = n then a else lc.getD k 0) = (lc.set n a).getD k 0
  rw [List.getD_eq_getElem?_getD, List.getD_eq_getElem?_getD, List.getElem?_set]
  by_cases q : k = n
  · rw [if_pos q, if_pos q.symm, if_pos h]; rfl
  · rw [if_neg q, if_neg (fun z => q z.symm)]
theorem sim_read {v : Vm} {rd bf : Wr} {n : Int} {x c y : Nat} {st : List Nat} (hC : C.Ok) (hs : okS s) (hst : v.st = X (c : Nat) :: st) (h : ci C.code v.pl = ⟨16, n, x⟩) (h1 : C.lo ≤ c) (h2 : c < C.hi) (hy : v.mem c = y) (hl : st.length < 63) (hu : (v.u : Int) < C.fuel) (hse : Sees C s v.mem v.nw rd bf) : Abs C s { v with pl := v.pl + 1, st := y :: st, u := v.u + 1 } (goM s (C.mac v rd bf)) := by
  have hr : roomB (begM (C.mac v rd bf)) ⟨16, n, x⟩ = true := room_of (show (1 : Int) ≤ _ by rw [hst, List.length_cons]; omega) (show _ - (1 : Int) + 1 ≤ 64 by rw [hst, List.length_cons]; omega)
  have e := go_ok h (by decide) hu hr
  have hlt : (c : Int) < C.nc := by have := hC.hi; omega
  obtain ⟨i1, i2⟩ := idx_X (n := c) (m := C.nc) (by have := hC.hi; have := hC.nc; omega)
  rw [decide_eq_true hlt] at i1 i2
  have i2 := i2 rfl
  have a1 : addrB (begM (C.mac v rd bf)) = true := by show idxB (v.st.getD 0 0) C.nc = true; rw [hst]; exact i1
  have a2 : addrV (begM (C.mac v rd bf)) = (c : Int) := by show idxV (v.st.getD 0 0) C.nc = c; rw [hst]; exact i2
  have e2 : doM (begM (C.mac v rd bf)) ⟨16, n, x⟩ = readM (begM (C.mac v rd bf)) := rfl
  rw [e2] at e
  unfold readM at e
  rw [if_pos a1, a2] at e
  have hd : v.st.drop 1 = st := by rw [hst]; rfl
  have hm := hse.see c h2
  have hbc : (begM (C.mac v rd bf)).buf = bf := rfl
  rw [hbc] at e
  cases hh : hasC bf (c : Int) with
  | true =>
    rw [hh, if_pos rfl] at e hm
    rw [hy] at hm
    refine ⟨rd ++ [((c : Int), y)], bf, ?_, ⟨hse.see, hse.few, in_app hse.rd ⟨by show (C.lo : Int) ≤ (c : Int); omega, by show (c : Int) < (C.hi : Int); omega⟩, hse.bf⟩⟩
    rw [go_kindN (by rw [e]; show ¬ (2 : Int) = 1; decide), e, ← hm]
    show hasRead { begM (C.mac v rd bf) with st := v.st.drop 1 } c y = _
    rw [hd]
    rfl
  | false =>
    rw [hh, if_neg Bool.false_ne_true] at e
    rw [hh, if_neg Bool.false_ne_true, hy] at hm
    refine ⟨rd ++ [((c : Int), y)], bf, ?_, ⟨hse.see, hse.few, in_app hse.rd ⟨by show (C.lo : Int) ≤ (c : Int); omega, by show (c : Int) < (C.hi : Int); omega⟩, hse.bf⟩⟩
    rw [go_kind1 (by rw [e]; rfl), e]
    show giveM { begM (C.mac v rd bf) with st := v.st.drop 1, wait := (c : Int) } (Sx.getV s c) = _
    unfold giveM
    rw [if_pos (show (0 : Int) ≤ ({ begM (C.mac v rd bf) with st := v.st.drop 1, wait := (c : Int) } : Mac).wait by show (0 : Int) ≤ (c : Int); omega), (getV_ok hs c).1, ← hm, hd]
    rfl
theorem sim_write {v : Vm} {rd bf : Wr} {n : Int} {x c a : Nat} {st : List Nat} (hC : C.Ok) (hst : v.st = X (c : Nat) :: a :: st) (h : ci C.code v.pl = ⟨17, n, x⟩) (hup : C.upd = true) (h1 : C.lo ≤ c) (h2 : c < C.hi) (hl : st.length < 62) (hu : (v.u : Int) < C.fuel) (hw : (v.nw : Int) + 1 ≤ C.wmax) (hse : Sees C s v.mem v.nw rd bf) : Abs C s { v with pl := v.pl + 1, st := st, u := v.u + 1, mem := updF v.mem c a, nw := v.nw + 1 } (goM s (C.mac v rd bf)) := by
  have hr : roomB (begM (C.mac v rd bf)) ⟨17, n, x⟩ = true := room_of (show (2 : Int) ≤ _ by rw [hst]; simp only [List.length_cons]; omega) (show _ - (2 : Int) + 0 ≤ 64 by rw [hst]; simp only [List.length_cons]; omega)
  have e := go_ok h (by decide) hu hr
  have hlt : (c : Int) < C.nc := by have := hC.hi; omega
  obtain ⟨i1, i2⟩ := idx_X (n := c) (m := C.nc) (by have := hC.hi; have := hC.nc; omega)
  rw [decide_eq_true hlt] at i1 i2
  have i2 := i2 rfl
  have a1 : addrB (begM (C.mac v rd bf)) = true := by show idxB (v.st.getD 0 0) C.nc = true; rw [hst]; exact i1
  have a2 : addrV (begM (C.mac v rd bf)) = (c : Int) := by show idxV (v.st.getD 0 0) C.nc = c; rw [hst]; exact i2
  have e2 : doM (begM (C.mac v rd bf)) ⟨17, n, x⟩ = writeM (begM (C.mac v rd bf)) := rfl
  rw [e2] at e
  unfold writeM at e
  have hp : mayP (begM (C.mac v rd bf)).wmax (begM (C.mac v rd bf)).buf (c : Int) = true := by
    show mayP C.wmax bf c = true
    unfold mayP
    rw [decide_eq_true (show (bf.length : Int) < C.wmax by have := hse.few; omega), Bool.or_true]
  rw [if_pos (show (begM (C.mac v rd bf)).upd = true from hup), if_pos a1, a2, if_pos hp] at e
  have hd : v.st.drop 2 = st := by rw [hst]; rfl
  have hg : v.st.getD 1 0 = a := by rw [hst]; rfl
  refine ⟨rd, putC bf c a, ?_, hse.wrote c a h1 h2⟩
  rw [go_kindN (by rw [e]; show ¬ (3 : Int) = 1; decide), e]
  show ({ begM (C.mac v rd bf) with st := v.st.drop 2, buf := putC bf c (v.st.getD 1 0) } : Mac) = _
  rw [hd, hg]
  rfl
theorem sim {v v' : Vm} {m : Mac} (hC : C.Ok) (hs : okS s) (h : Step C v v') (hu : (v.u : Int) < C.fuel) (hw : (v'.nw : Int) ≤ C.wmax) (ha : Abs C s v m) : Abs C s v' (goM s m) := by
  obtain ⟨rd, bf, rfl, hse⟩ := ha
  refine h (fun v v' => ∀ rd bf, (v.u : Int) < C.fuel → (v'.nw : Int) ≤ C.wmax → Sees C s v.mem v.nw rd bf → Abs C s v' (goM s (C.mac v rd bf))) ?_ rd bf hu hw hse
  clear h hu hw hse rd bf
  constructor
  · intro _ _ _ _ _ _ _ _ _ y h hy hl rd bf hu hw hse
    subst hy; exact ⟨rd, bf, go_plain h (by decide) hu (room_of (show (0 : Int) ≤ _ by omega) (show _ - (0 : Int) + 1 ≤ 64 by simp only; omega)) rfl, hse⟩
  · intro _ _ _ _ _ _ _ _ _ _ h hl rd bf hu hw hse
    exact ⟨rd, bf, go_plain h (by decide) hu (room_of (show (1 : Int) ≤ _ by simp only [List.length_cons]; omega) (show _ - (1 : Int) + 0 ≤ 64 by simp only [List.length_cons]; omega)) rfl, hse⟩
  · intro _ _ _ _ _ _ _ _ _ _ h hl rd bf hu hw hse
    exact ⟨rd, bf, go_plain h (by decide) hu (room_of (show (1 : Int) ≤ _ by simp only [List.length_cons]; omega) (show _ - (1 : Int) + 2 ≤ 64 by simp only [List.length_cons]; omega)) rfl, hse⟩
  · intro _ _ _ _ _ _ _ _ _ _ _ h hl rd bf hu hw hse
    exact ⟨rd, bf, go_plain h (by decide) hu (room_of (show (2 : Int) ≤ _ by simp only [List.length_cons]; omega) (show _ - (2 : Int) + 2 ≤ 64 by simp only [List.length_cons]; omega)) rfl, hse⟩
  · intro _ _ _ _ _ _ _ _ n y h hn hy hl rd bf hu hw hse
    subst hy; exact ⟨rd, bf, go_plain h (by decide) hu (room_of (show ((n : Nat) : Int) + 1 ≤ _ by simp only; omega) (show _ - (0 : Int) + 1 ≤ 64 by simp only; omega)) rfl, hse⟩
  · intro _ _ _ _ _ _ _ _ n y h hy hl rd bf hu hw hse
    subst hy; exact ⟨rd, bf, go_plain h (by decide) hu (room_of (show (0 : Int) ≤ _ by omega) (show _ - (0 : Int) + 1 ≤ 64 by simp only; omega)) rfl, hse⟩
  · intro _ _ _ _ _ _ _ _ n y h hy hl rd bf hu hw hse
    subst hy; exact ⟨rd, bf, go_plain h (by decide) hu (room_of (show (0 : Int) ≤ _ by omega) (show _ - (0 : Int) + 1 ≤ 64 by simp only; omega)) rfl, hse⟩
  · intro _ _ _ _ _ _ _ _ _ n h hn hl rd bf hu hw hse
    refine ⟨rd, bf, go_plain h (by decide) hu (room_of (show (1 : Int) ≤ _ by simp only [List.length_cons]; omega) (show _ - (1 : Int) + 0 ≤ 64 by simp only [List.length_cons]; omega)) ?_, hse⟩
    unfold Cx.mac
    rw [← loc_set _ _ hn]
    rfl
  · intro _ _ _ _ _ _ _ _ _ _ y h hy hl rd bf hu hw hse
    subst hy; exact ⟨rd, bf, go_plain h (by decide) hu (room_of (show (1 : Int) ≤ _ by simp only [List.length_cons]; omega) (show _ - (1 : Int) + 1 ≤ 64 by simp only [List.length_cons]; omega)) rfl, hse⟩
  · intro _ _ _ _ _ _ _ _ _ _ _ y h hy hl rd bf hu hw hse
    subst hy; exact ⟨rd, bf, go_plain h (by decide) hu (room_of (show (2 : Int) ≤ _ by simp only [List.length_cons]; omega) (show _ - (2 : Int) + 1 ≤ 64 by simp only [List.length_cons]; omega)) rfl, hse⟩
  · intro _ _ _ _ _ _ _ _ n h hl rd bf hu hw hse
    exact ⟨rd, bf, go_plain h (by decide) hu (room_of (show (0 : Int) ≤ _ by omega) (show _ - (0 : Int) + 0 ≤ 64 by simp only; omega)) rfl, hse⟩
  · intro pl a st lc out mem u nw x n h ht hl rd bf hu hw hse
    refine ⟨rd, bf, go_plain h (by decide) hu (room_of (show (1 : Int) ≤ _ by simp only [List.length_cons]; omega) (show _ - (1 : Int) + 0 ≤ 64 by simp only [List.length_cons]; omega)) ?_, hse⟩
    show (({ begM (C.mac ⟨pl, a :: st, lc, out, mem, u, nw⟩ rd bf) with place := if trueB a then (n : Int) else (pl : Int) + 1, st := st } : Mac), ask0) = _
    rw [ht]
    rfl
  · intro pl a st lc out mem u nw x n h ht hl rd bf hu hw hse
    refine ⟨rd, bf, go_plain h (by decide) hu (room_of (show (1 : Int) ≤ _ by simp only [List.length_cons]; omega) (show _ - (1 : Int) + 0 ≤ 64 by simp only [List.length_cons]; omega)) ?_, hse⟩
    show (({ begM (C.mac ⟨pl, a :: st, lc, out, mem, u, nw⟩ rd bf) with place := if trueB a then n else (pl : Int) + 1, st := st } : Mac), ask0) = _
    rw [ht]
    rfl
  · intro pl a st lc out mem u nw x n h ht hl rd bf hu hw hse
    refine ⟨rd, bf, go_plain h (by decide) hu (room_of (show (1 : Int) ≤ _ by simp only [List.length_cons]; omega) (show _ - (1 : Int) + 0 ≤ 64 by simp only [List.length_cons]; omega)) ?_, hse⟩
    show (({ begM (C.mac ⟨pl, a :: st, lc, out, mem, u, nw⟩ rd bf) with place := if trueB a then (pl : Int) + 1 else (n : Int), st := st } : Mac), ask0) = _
    rw [ht]
    rfl
  · intro pl a st lc out mem u nw x n h ht hl rd bf hu hw hse
    refine ⟨rd, bf, go_plain h (by decide) hu (room_of (show (1 : Int) ≤ _ by simp only [List.length_cons]; omega) (show _ - (1 : Int) + 0 ≤ 64 by simp only [List.length_cons]; omega)) ?_, hse⟩
    show (({ begM (C.mac ⟨pl, a :: st, lc, out, mem, u, nw⟩ rd bf) with place := if trueB a then (pl : Int) + 1 else n, st := st } : Mac), ask0) = _
    rw [ht]
    rfl
  · intro _ _ _ _ _ _ _ _ _ c y h h1 h2 hy hl rd bf hu hw hse
    exact sim_read hC hs rfl h h1 h2 hy hl hu hse
  · intro _ _ _ _ _ _ _ _ _ _ c h hup h1 h2 hl rd bf hu hw hse
    exact sim_write hC rfl h hup h1 h2 hl hu (by simpa using hw) hse
  · intro _ _ _ _ _ _ _ _ _ _ h hl rd bf hu hw hse
    exact ⟨rd, bf, go_plain h (by decide) hu (room_of (show (1 : Int) ≤ _ by simp only [List.length_cons]; omega) (show _ - (1 : Int) + 0 ≤ 64 by simp only [List.length_cons]; omega)) rfl, hse⟩
def Star (C : Cx) (v v' : Vm) : Prop := ∀ P : Vm → Vm → Prop, (∀ v, P v v) → (∀ v x v', Step C v x → P x v' → P v v') → P v v'
theorem Star.refl (v : Vm) : Star C v v := fun _ r _ => r v
theorem Star.head {v x v' : Vm} (h : Step C v x) (k : Star C x v') : Star C v v' := fun P r t => t v x v' h (k P r t)
theorem Star.trans {v x v' : Vm} (h : Star C v x) (k : Star C x v') : Star C v v' := h (fun v x => Star C x v' → Star C v v') (fun _ k => k) (fun _ _ _ h ih k => .head h (ih k)) k
theorem Star.u {v v' : Vm} (h : Star C v v') : v.u ≤ v'.u ∧ v.nw ≤ v'.nw :=
  h (fun v v' => v.u ≤ v'.u ∧ v.nw ≤ v'.nw) (fun _ => ⟨Nat.le_refl _, Nat.le_refl _⟩) (fun _ _ _ h ih => by have := h.u; exact ⟨by omega, by omega⟩)
theorem Star.sim {v v' : Vm} {m : Mac} (hC : C.Ok) (hs : okS s) (h : Star C v v') (hu : (v'.u : Int) ≤ C.fuel) (hw : (v'.nw : Int) ≤ C.wmax) (ha : Abs C s v m) : Abs C s v' (runN s (v'.u - v.u) m) := by
  refine (h (fun v v' => Star C v v' ∧ ∀ m, (v'.u : Int) ≤ C.fuel → (v'.nw : Int) ≤ C.wmax → Abs C s v m → Abs C s v' (runN s (v'.u - v.u) m)) ?_ ?_).2 m hu hw ha
  · intro v
    exact ⟨.refl v, fun m _ _ ha => by rw [Nat.sub_self]; exact ha⟩
  · intro v x v' h ⟨k, ih⟩
    refine ⟨.head h k, fun m hu hw ha => ?_⟩
    have h1 := h.u
    have h2 := k.u
    have e : v'.u - v.u = (v'.u - x.u) + 1 := by omega
    rw [e, runN_cons]
    exact ih _ hu hw (Tr.sim hC hs h (by omega) (by omega) ha)
end
end Go.Proofs.YtaliehikdidiaaaGreatDoor.Tr
namespace Go.Proofs.YtaliehikdidiaaaGreatDoor.Tr
open Num
end Go.Proofs.YtaliehikdidiaaaGreatDoor.Tr
namespace Go.Proofs.YtaliehikdidiaaaGreatDoor.Tr
open Num
def Seg (c : List Ins) : Nat → List Ins → Prop
  | _, [] => True
  | p, i :: l => ci c p = i ∧ Seg c (p + 1) l
theorem P_push {n : Int} (h : n.natAbs ≤ 9007199254740992) : fixB (fixB (X n)) = X n := by rw [X_fix h, X_fix h]
end Go.Proofs.YtaliehikdidiaaaGreatDoor.Tr
namespace Go.Proofs.YtaliehikdidiaaaGreatDoor.Tr
open Num
theorem seg_split {c : List Ins} : ∀ {a b : List Ins} {p : Nat}, Seg c p (a ++ b) → Seg c p a ∧ Seg c (p + a.length) b
  | [], b, p, h => ⟨trivial, h⟩
  | i :: a, b, p, h => by
    obtain ⟨h1, h2⟩ := seg_split h.2
    refine ⟨⟨h.1, h1⟩, ?_⟩
    rw [List.length_cons, Nat.add_comm a.length 1, ← Nat.add_assoc]
    exact h2
end Go.Proofs.YtaliehikdidiaaaGreatDoor.Tr
namespace Go.Proofs.YtaliehikdidiaaaGreatDoor.Tr
open Num
def v0 (s : List Nat) : Vm := ⟨0, [], [0, 0, 0, 0, 0], [], fun c => Sx.getV s (c : Nat), 0, 0⟩
structure Res (C : Cx) (s : List Nat) (v : Vm) (how cod : Int) (m : Mac) : Prop where
  how : m.how = how
  cod : m.cod = cod
  err : m.err = 0
  out : m.out = v.out
  used : m.used = (v.u : Int) + 1
  rd : In C m.reads
  bf : In C m.buf
  few : m.buf.length ≤ v.nw
  rest : Rest m
  see : ∀ c, c < C.hi → v.mem c = if hasC m.buf c then Go.Proofs.YtaliehikdidiaaaGreatDoor.getC m.buf c else Sx.getV s c
def cxOf (a b e t : Int) (cs : List Ins) (l : List Nat) (lo hi : Nat) : Cx := ⟨a, b, e, t == 2, cs, argF l, lo, hi⟩
theorem abs_new {a b e t : Int} {cs : List Ins} {l s : List Nat} {lo hi : Nat} (hc : checkB t cs = true) : Abs (cxOf a b e t cs l lo hi) s (v0 s) (newM a b e t cs l) := by
  refine ⟨[], [], ?_, ⟨fun c _ => by rw [if_neg (by simp [hasC, idx])]; rfl, Nat.le_refl _, fun t ht => (by cases ht), fun t ht => (by cases ht)⟩⟩
  unfold newM Cx.mac cxOf v0
  rw [hc, if_pos rfl]
  have e : (fun k : Nat => ([0, 0, 0, 0, 0] : List Nat).getD k 0) = fun _ => 0 := by
    funext k
    match k with
    | 0 => rfl
    | 1 => rfl
    | 2 => rfl
    | 3 => rfl
    | 4 => rfl
    | k + 5 => rfl
  rw [e]
  rfl
section
variable {C : Cx} {s : List Nat}
theorem go_halt {v : Vm} {m : Mac} {i : Ins} {how cod : Int} (hi : ci C.code v.pl = i) (h : (i = I 20 0 ∧ how = 1 ∧ cod = 0) ∨ (∃ n : Nat, i = I 19 n ∧ how = 2 ∧ cod = n)) (hl : v.st.length ≤ 64) (hu : (v.u : Int) < C.fuel) (ha : Abs C s v m) (hr : Rest (goM s m)) : Res C s v how cod (goM s m) := by
  obtain ⟨rd, bf, rfl, hse⟩ := ha
  rcases h with ⟨rfl, rfl, rfl⟩ | ⟨n, rfl, rfl, rfl⟩
  · have e : stepM (C.mac v rd bf) = doM (begM (C.mac v rd bf)) (I 20 0) := go_ok (rd := rd) (bf := bf) hi (by decide) hu (room_of (show (0 : Int) ≤ _ by omega) (show _ - (0 : Int) + 0 ≤ 64 by omega))
    have e2 : doM (begM (C.mac v rd bf)) (I 20 0) = ({ begM (C.mac v rd bf) with how := 1, cod := 0, err := 0 }, askEnd) := rfl
    rw [e2] at e
    have e3 : goM s (C.mac v rd bf) = { begM (C.mac v rd bf) with how := 1, cod := 0, err := 0 } := by rw [go_kindN (by rw [e]; show ¬ (4 : Int) = 1; decide), e]
    rw [e3] at hr ⊢
    exact ⟨rfl, rfl, rfl, rfl, rfl, hse.rd, hse.bf, hse.few, hr, hse.see⟩
  · have e : stepM (C.mac v rd bf) = doM (begM (C.mac v rd bf)) (I 19 n) := go_ok (rd := rd) (bf := bf) hi (by decide) hu (room_of (show (0 : Int) ≤ _ by omega) (show _ - (0 : Int) + 0 ≤ 64 by omega))
    have e2 : doM (begM (C.mac v rd bf)) (I 19 n) = ({ begM (C.mac v rd bf) with how := 2, cod := n, err := 0 }, askEnd) := rfl
    rw [e2] at e
    have e3 : goM s (C.mac v rd bf) = { begM (C.mac v rd bf) with how := 2, cod := n, err := 0 } := by rw [go_kindN (by rw [e]; show ¬ (4 : Int) = 1; decide), e]
    rw [e3] at hr ⊢
    exact ⟨rfl, rfl, rfl, rfl, rfl, hse.rd, hse.bf, hse.few, hr, hse.see⟩
end
theorem run_res {a b c e t : Int} {cs : List Ins} {l s : List Nat} {lo hi : Nat} {v : Vm} {i : Ins} {how cod : Int} (hg : goodB a b c e s.length l.length = true) (hk : checkB t cs = true) (hx : ∀ k, k < cs.length → (ci cs k).x < 18446744073709551616) (hl : ∀ x ∈ l, x < 18446744073709551616) (hs : okS s)
    (hC : (cxOf a c e t cs l lo hi).Ok) (hv : Star (cxOf a c e t cs l lo hi) (v0 s) v) (hi' : ci cs v.pl = i) (h : (i = I 20 0 ∧ how = 1 ∧ cod = 0) ∨ (∃ n : Nat, i = I 19 n ∧ how = 2 ∧ cod = n)) (hl2 : v.st.length ≤ 64) (hu : (v.u : Int) < c) (hw : (v.nw : Int) ≤ e) :
    Res (cxOf a c e t cs l lo hi) s v how cod (runR a b c e t cs l s) := by
  have hcfg : Md.cfgB a b c e = true := by unfold goodB at hg; simp only [Bool.and_eq_true] at hg; exact hg.1.1
  have hr0 := new_rest (a := a) (b := b) (f := c) (e := e) (t := t) hcfg hx hl
  have ha := hv.sim hC hs (by show (v.u : Int) ≤ c; omega) hw (abs_new (a := a) (b := c) (e := e) (l := l) (lo := lo) (hi := hi) hk)
  have hfuel := (Md.cfgB_iff.1 hcfg).2.2.1
  have e0 : v.u - (v0 s).u = v.u := Nat.sub_zero _
  rw [e0] at ha
  have hrr := (hr0.run (k := v.u) hs).go hs
  have hres := go_halt hi' h hl2 hu ha hrr
  have e1 : runR a b c e t cs l s = goM s (runN s v.u (newM a c e t cs l)) := by
    unfold runR
    rw [hg, if_pos rfl]
    unfold endM
    have hle : v.u + 1 ≤ 1025 := by omega
    have e2 : (1025 : Nat) = (v.u + 1) + (1025 - (v.u + 1)) := by omega
    rw [e2, runN_add, runN_succ]
    exact runN_over hrr.nw (by rw [hres.how]; rcases h with ⟨_, h, _⟩ | ⟨_, _, h, _⟩ <;> rw [h] <;> decide) _
  rw [e1]
  exact hres
theorem Res.aft {C : Cx} {s : List Nat} {v : Vm} {cod : Int} {m : Mac} (h : Res C s v 1 cod m) {i : Nat} (hi : i < s.length) : (aftS s m).getD i 0 = if i < C.hi then v.mem i else s.getD i 0 := by
  rw [aft_at h.rest h.how hi]
  have hg : Sx.getV s (i : Nat) = s.getD i 0 := by
    unfold Sx.getV
    rw [Sx.hasN_nat, decide_eq_true hi, if_pos rfl, Int.toNat_natCast]
  by_cases hh : i < C.hi
  · rw [if_pos hh, h.see i hh, hg]
    cases hq : hasC m.buf (i : Int) with
    | true => rw [if_pos (hasC_mem.1 hq), if_pos rfl]
    | false => rw [if_neg (fun z => by rw [hasC_mem.2 z] at hq; cases hq), if_neg Bool.false_ne_true]
  · rw [if_neg hh, if_neg]
    intro z
    obtain ⟨t, ht, e⟩ := cells_mem.1 z
    have := h.bf t ht
    omega
end Go.Proofs.YtaliehikdidiaaaGreatDoor.Tr
namespace Go.Proofs.YtaliehikdidiaaaGreatDoor.Tr
open Num
theorem seg_all : ∀ (pre l : List Ins), Seg (pre ++ l) pre.length l
  | _, [] => trivial
  | pre, i :: l => by
    refine ⟨by unfold ci; simp [List.getD_eq_getElem?_getD], ?_⟩
    have := seg_all (pre ++ [i]) l
    rw [List.append_assoc, List.length_append] at this
    exact this
theorem seg_whole (l : List Ins) : Seg l 0 l := seg_all [] l
def Ends (C : Cx) (s : List Nat) (how cod : Int) (Q : Vm → Prop) : Prop := ∃ v i, Star C (v0 s) v ∧ ci C.code v.pl = i ∧ ((i = I 20 0 ∧ how = 1 ∧ cod = 0) ∨ ∃ n : Nat, i = I 19 n ∧ how = 2 ∧ cod = n) ∧ v.st.length ≤ 64 ∧ v.u < 1024 ∧ v.nw ≤ 8 ∧ Q v
end Go.Proofs.YtaliehikdidiaaaGreatDoor.Tr
namespace Go.Proofs.YtaliehikdidiaaaGreatDoor.Tr
open Num
end Go.Proofs.YtaliehikdidiaaaGreatDoor.Tr
namespace Go.Proofs.YtaliehikdidiaaaGreatDoor.Tr
open Num
end Go.Proofs.YtaliehikdidiaaaGreatDoor.Tr
namespace Go.Proofs.YtaliehikdidiaaaGreatDoor.Tr
open Num
theorem seg_cut {c a b : List Ins} {p : Nat} (n m : Nat) (hn : a.length = n) (hm : p + n = m) (h : Seg c p (a ++ b)) : Seg c p a ∧ Seg c m b := by
  obtain ⟨h1, h2⟩ := seg_split h
  rw [hn, hm] at h2
  exact ⟨h1, h2⟩
end Go.Proofs.YtaliehikdidiaaaGreatDoor.Tr
namespace Go.Proofs.YtaliehikdidiaaaGreatDoor.Dq
open Num Tr
def nz : Nat := 9223372036854775808
theorem eq_key {a b : Nat} (ha : nan a = false) (hb : nan b = false) (h : (FloatKind.f64.format.order a b == some .eq) = true) : key a = key b := by
  have e : FloatKind.f64.format.order a b = some (compare (key a) (key b)) := order_key a b ha hb
  rw [e] at h
  have h2 : compare (key a) (key b) = .eq := by simpa using h
  exact Int.compare_eq_eq.1 h2
theorem lt_key {a b : Nat} (ha : nan a = false) (hb : nan b = false) (h : (FloatKind.f64.format.order a b == some .lt) = true) : key a < key b := by
  have e : FloatKind.f64.format.order a b = some (compare (key a) (key b)) := order_key a b ha hb
  rw [e] at h
  have h2 : compare (key a) (key b) = .lt := by simpa using h
  exact Int.compare_eq_lt.1 h2
theorem whole_is {x t : Nat} (hx : x < 18446744073709551616) (hn : nan x = false) (hk : 0 ≤ key x) (ht : t ≤ 9007199254740992) (h : (FloatKind.f64.format.order (floatOfInt .f64 (t : Int)) x == some .eq) = true) : x = X (t : Nat) ∨ (x = nz ∧ t = 0) := by
  have f := fl_facts (n := t) ht
  have e : key (fl t) = key x := eq_key f.1 hn h
  rw [f.2.1] at e
  rcases Num.shape hx with ⟨h1, h2, h3⟩ | ⟨h1, h2, h3⟩
  · left
    rw [key_of_pos h2, h3] at e
    show x = fl t
    omega
  · right
    rw [key_of_neg h2, h3] at e hk
    unfold nz
    refine ⟨by omega, ?_⟩
    rcases Nat.eq_zero_or_pos t with q | q
    · exact q
    · have := fl_pos (n := t) ht (by omega)
      omega
def nzAll (n : Nat) : Bool := (List.range n).all fun i => (List.range n).all fun j => (idxB nz (i : Nat) == decide (0 < i)) && ((FloatKind.f64.format.order nz (X (i : Nat)) == some .lt) == decide (0 < i)) && (i == 0 || modV nz (X (i : Nat)) == X 0) && Num.resV (floatBits .add .f64 nz (X (j : Nat))) == X (j : Nat)
theorem nz_all : nzAll 17 = true := by decide +kernel
theorem two5 (a b : Nat) : twoV 5 a b = modV a b := rfl
theorem two1 (a b : Nat) : twoV 1 a b = Num.resV (floatBits .add .f64 a b) := rfl
theorem two8 (a b : Nat) : twoV 8 a b = yesB (FloatKind.f64.format.order a b == some .lt) := rfl
theorem nz_at {n j : Nat} (hn : n < 17) (hj : j < 17) : idxB nz (n : Nat) = decide (0 < n) ∧ twoV 8 nz (X (n : Nat)) = yesB (decide (0 < n)) ∧ (n ≠ 0 → twoV 5 nz (X (n : Nat)) = X 0) ∧ twoV 1 nz (X (j : Nat)) = X (j : Nat) := by
  have h := nz_all
  unfold nzAll at h
  rw [List.all_eq_true] at h
  have h1 := h n (List.mem_range.2 hn)
  rw [List.all_eq_true] at h1
  have h2 := h1 j (List.mem_range.2 hj)
  simp only [Bool.and_eq_true, Bool.or_eq_true, beq_iff_eq] at h2
  obtain ⟨⟨⟨a, b⟩, c⟩, d⟩ := h2
  exact ⟨a, (two8 _ _).trans (congrArg yesB b), fun q => (two5 _ _).trans (c.resolve_left q), (two1 _ _).trans d⟩
theorem nz_val (n : Nat) : idxV nz (n : Nat) = 0 := by
  have e : truncN nz = 0 := by decide +kernel
  unfold idxV
  rw [e]
  generalize idxB nz (n : Nat) = b
  cases b <;> rfl
theorem at_case {x n R : Nat} (hx : okN x) (hn : n ≤ R) (hR : R ≤ 16) (hR1 : 1 ≤ R) :
    (idxB x (n : Nat) = true ∧ ∃ i, i < n ∧ idxV x (n : Nat) = (i : Nat) ∧ twoV 8 x (X (n : Nat)) = yesB true ∧ oneV 6 (twoV 5 x (X (R : Nat))) = yesB false ∧ ∀ f, f ≤ 16 → twoV 1 x (X (f : Nat)) = X ((i + f : Nat) : Int)) ∨
    (idxB x (n : Nat) = false ∧ (twoV 8 x (X (n : Nat)) = yesB false ∨ (twoV 8 x (X (n : Nat)) = yesB true ∧ oneV 6 (twoV 5 x (X (R : Nat))) = yesB true))) := by
  have hX : ∀ {t : Nat}, t < n → x = X (t : Nat) → (idxB x (n : Nat) = true ∧ ∃ i, i < n ∧ idxV x (n : Nat) = (i : Nat) ∧ twoV 8 x (X (n : Nat)) = yesB true ∧ oneV 6 (twoV 5 x (X (R : Nat))) = yesB false ∧ ∀ f, f ≤ 16 → twoV 1 x (X (f : Nat)) = X ((i + f : Nat) : Int)) := by
    intro t ht e
    subst e
    obtain ⟨i1, i2⟩ := idx_X (n := t) (m := (n : Nat)) (by omega)
    have hlt : decide (((t : Nat) : Int) < (n : Nat)) = true := decide_eq_true (by omega)
    refine ⟨i1.trans hlt, t, ht, i2 hlt, ?_, ?_, fun f hf => ?_⟩
    · rw [X_less (by omega) (by omega), decide_eq_true ht]
    · rw [X_mod (by omega) (by omega) (by omega) (by omega)]
      show yesB (nan (X _)) = _
      rw [(X_facts (by have := Int.emod_lt_of_pos ((t : Nat) : Int) (show (0 : Int) < (R : Nat) by omega); have := Int.emod_nonneg ((t : Nat) : Int) (show ((R : Nat) : Int) ≠ 0 by omega); omega)).2.2.1]
    · rw [X_add (by omega) (by omega)]
      rfl
  have hZ : x = nz → 0 < n → (idxB x (n : Nat) = true ∧ ∃ i, i < n ∧ idxV x (n : Nat) = (i : Nat) ∧ twoV 8 x (X (n : Nat)) = yesB true ∧ oneV 6 (twoV 5 x (X (R : Nat))) = yesB false ∧ ∀ f, f ≤ 16 → twoV 1 x (X (f : Nat)) = X ((i + f : Nat) : Int)) := by
    intro e h0
    subst e
    obtain ⟨a, b, _, _⟩ := nz_at (n := n) (j := 0) (by omega) (by omega)
    obtain ⟨_, _, c, _⟩ := nz_at (n := R) (j := 0) (by omega) (by omega)
    rw [decide_eq_true h0] at a b
    refine ⟨a, 0, h0, nz_val n, b, ?_, fun f hf => ?_⟩
    · rw [c (by omega)]
      show yesB (nan (X 0)) = _
      rw [(X_facts (by decide)).2.2.1]
    · rw [(nz_at (n := 0) (j := f) (by omega) (by omega)).2.2.2, Nat.zero_add]
  cases hi : idxB x (n : Nat) with
  | true =>
    left
    have h := hi
    unfold idxB at h
    simp only [Bool.and_eq_true, Bool.not_eq_true', decide_eq_true_eq] at h
    obtain ⟨⟨⟨⟨h1, h2⟩, h3⟩, h4⟩, h5⟩ := h
    rcases whole_is hx.2 h1 h2 (by omega) h4 with e | ⟨e, e0⟩
    · exact ⟨rfl, (hX (by omega) e).2⟩
    · exact ⟨rfl, (hZ e (by omega)).2⟩
  | false =>
    right
    refine ⟨rfl, ?_⟩
    cases ho : (FloatKind.f64.format.order x (X (n : Nat)) == some .lt) with
    | false => exact .inl (congrArg yesB ho)
    | true =>
      refine .inr ⟨congrArg yesB ho, ?_⟩
      show yesB (nan (modV x (X (R : Nat)))) = _
      cases hc : cntB x with
      | false =>
        unfold modV
        rw [hc, Bool.false_and, Bool.false_and, if_neg Bool.false_ne_true]
        exact congrArg yesB (by decide +kernel)
      | true =>
        exfalso
        have h := hc
        unfold cntB at h
        simp only [Bool.and_eq_true, Bool.not_eq_true', decide_eq_true_eq] at h
        obtain ⟨⟨⟨h1, h2⟩, h3⟩, h4⟩ := h
        have ht := trunc53 h2 h3
        generalize truncN x = t at h4 ht
        have hxn := X_facts (n := ((n : Nat) : Int)) (by omega)
        have hlt := lt_key h1 hxn.2.2.1 ho
        rcases whole_is hx.2 h1 h2 (by omega) h4 with e | ⟨e, e0⟩
        · subst e
          have f1 := fl_facts (n := t) (by omega)
          have f2 := fl_facts (n := n) (by omega)
          have k1 : key (X (t : Nat)) = fl t := f1.2.1
          have k2 : key (X (n : Nat)) = fl n := f2.2.1
          rw [k1, k2] at hlt
          have : t < n := by
            rcases Nat.lt_or_ge t n with q | q
            · exact q
            · have := (fl_le (m := n) (n := t) (by omega) (by omega)).2 q
              omega
          have := (hX this rfl).1
          rw [hi] at this
          cases this
        · have h0 : 0 < n := by
            rcases Nat.eq_zero_or_pos n with q | q
            · subst q
              rw [e] at ho
              have b : (FloatKind.f64.format.order nz (X (0 : Nat)) == some .lt) = false := by decide +kernel
              rw [b] at ho
              cases ho
            · exact q
          have := (hZ e h0).1
          rw [hi] at this
          cases this
theorem md {a R : Nat} (h : a < 2 * R) : a % R = if a < R then a else a - R := by
  split
  · exact Nat.mod_eq_of_lt ‹_›
  · rw [Nat.mod_eq_sub_mod (by omega), Nat.mod_eq_of_lt (by omega)]
structure Fit (C : Cx) (B R : Nat) : Prop where
  ok : C.Ok
  lo : C.lo ≤ B
  hi : B + R + 1 < C.hi
  r1 : 1 ≤ R
  r16 : R ≤ 16
theorem Fit.small {C : Cx} {B R : Nat} (h : Fit C B R) : B + R + 1 < 256 := by have := h.hi; have := h.ok.hi; have := h.ok.nc; omega
structure Ring (B R f : Nat) (L : List Nat) (mem : Nat → Nat) : Prop where
  fr : mem B = X (f : Nat)
  ct : mem (B + 1) = X (L.length : Nat)
  it : ∀ i, i < L.length → mem (B + 2 + (f + i) % R) = L.getD i 0
  hf : f < R
  hl : L.length ≤ R
  ok : ∀ x ∈ L, okN x
theorem Ring.congr {B R f : Nat} {L : List Nat} {mem mem' : Nat → Nat} (h : Ring B R f L mem) (k : ∀ c, B ≤ c → c ≤ B + R + 1 → mem' c = mem c) (hR : 1 ≤ R) : Ring B R f L mem' :=
  ⟨(k _ (by omega) (by omega)).trans h.fr, (k _ (by omega) (by omega)).trans h.ct, fun i hi => (k _ (by omega) (by have := Nat.mod_lt (f + i) (show R > 0 by omega); omega)).trans (h.it i hi), h.hf, h.hl, h.ok⟩
section
variable {C : Cx} {B R f n i : Nat} {L st out lc : List Nat} {mem : Nat → Nat} {q u nw x0 x1 x2 x3 x4 : Nat}
theorem ld_at (hF : Fit C B R) {c l y : Nat} (hS : Seg C.code q (loadC (c : Nat) l)) (h1 : B ≤ c) (h2 : c ≤ B + R + 1) (hm : mem c = y) (hl : l < lc.length) (ht : st.length ≤ 50) : Star C ⟨q, st, lc, out, mem, u, nw⟩ ⟨q + 3, st, lc.set l y, out, mem, u + 3, nw⟩ := by
  have hs := hF.small
  have hlo := hF.lo
  have hhi := hF.hi
  obtain ⟨a1, a2, a3, _⟩ := hS
  refine .head (.push _ a1 (P_push (by omega)) (by omega)) ?_
  refine .head (.read c _ a2 (by omega) (by omega) hm (by omega)) ?_
  refine .head (.set l a3 hl (by omega)) ?_
  exact .refl _
theorem load_at (hF : Fit C B R) (hS : Seg C.code 0 (loadS B)) (h : Ring B R f L mem) : Star C ⟨0, [], [0, 0, 0, 0, 0], out, mem, u, nw⟩ ⟨6, [], [X (f : Nat), X (L.length : Nat), 0, 0, 0], out, mem, u + 6, nw⟩ := by
  obtain ⟨s1, s2⟩ := seg_cut 3 3 rfl rfl hS
  have k1 := ld_at (lc := [0, 0, 0, 0, 0]) (st := []) (out := out) (u := u) (nw := nw) hF (c := B + 1) s1 (by omega) (by have := hF.r1; omega) h.ct (by simp) (by simp)
  have k2 := ld_at (lc := [0, X (L.length : Nat), 0, 0, 0]) (st := []) (out := out) (u := u + 3) (nw := nw) hF (c := B) s2 (by omega) (by omega) h.fr (by simp) (by simp)
  exact k1.trans k2
theorem turn_at (hF : Fit C B R) (hu : C.upd = true) {c size l a y : Nat} {b : Int} (hS : Seg C.code q (turnS (c : Nat) (size : Nat) l b)) (h1 : B ≤ c) (h2 : c ≤ B + R + 1) (hl : l < lc.length) (ha : lc.getD l 0 = X (a : Nat)) (ha2 : a ≤ 1000) (hb : 0 ≤ b) (hb2 : b ≤ 1000) (hs : 0 < size) (hs2 : size ≤ 1000) (hy : ((a : Int) + b) % (size : Nat) = (y : Nat)) (ht : st.length ≤ 50) : Star C ⟨q, st, lc, out, mem, u, nw⟩ ⟨q + 9, st, lc.set l (X (y : Nat)), out, updF mem c (X (y : Nat)), u + 9, nw + 1⟩ := by
  have hsm := hF.small
  have hlo := hF.lo
  have hhi := hF.hi
  obtain ⟨a1, a2, a3, a4, a5, a6, a7, a8, a9, _⟩ := hS
  refine .head (.get l _ a1 ha (by omega)) ?_
  refine .head (.push _ a2 (P_push (by omega)) (by simp only [List.length_cons]; omega)) ?_
  refine .head (.two (X ((a : Int) + b)) a3 (X_add (by omega) (by omega)) (by omega)) ?_
  refine .head (.push _ a4 (P_push (by omega)) (by simp only [List.length_cons]; omega)) ?_
  refine .head (.two (X (y : Nat)) a5 ((X_mod (by omega) (by omega) (by omega) (by omega)).trans (congrArg X hy)) (by omega)) ?_
  refine .head (.set l a6 hl (by omega)) ?_
  refine .head (.get l (X (y : Nat)) a7 (by simp [List.getD_eq_getElem?_getD, hl]) (by omega)) ?_
  refine .head (.push _ a8 (P_push (by omega)) (by simp only [List.length_cons]; omega)) ?_
  refine .head (.write c a9 hu (by omega) (by omega) (by omega)) ?_
  exact .refl _
theorem cell_at (hF : Fit C B R) (hS : Seg C.code q (cellS (B : Nat) (R : Nat))) {y : Nat} (hx : lc.getD 0 0 = X (f : Nat)) (hf : f < R) (hi : i ≤ R) (hy : twoV 1 y (X (f : Nat)) = X ((i + f : Nat) : Int)) (ht : st.length ≤ 50) : Star C ⟨q, y :: st, lc, out, mem, u, nw⟩ ⟨q + 6, X ((B + 2 + (f + i) % R : Nat) : Int) :: st, lc, out, mem, u + 6, nw⟩ := by
  have hsm := hF.small
  have hr := hF.r1
  have hr2 := hF.r16
  have hml := Nat.mod_lt (f + i) (show R > 0 by omega)
  obtain ⟨a1, a2, a3, a4, a5, a6, _⟩ := hS
  refine .head (.get 0 _ a1 hx (by simp only [List.length_cons]; omega)) ?_
  refine .head (.two _ a2 hy (by omega)) ?_
  refine .head (.push _ a3 (P_push (by omega)) (by simp only [List.length_cons]; omega)) ?_
  refine .head (.two (X (((f + i) % R : Nat) : Int)) a4 ((X_mod (by omega) (by omega) (by omega) (by omega)).trans (congrArg X (by rw [Nat.add_comm i f]; rfl))) (by omega)) ?_
  refine .head (.push _ a5 (P_push (by omega)) (by simp only [List.length_cons]; omega)) ?_
  refine .head (.two (X ((B + 2 + (f + i) % R : Nat) : Int)) a6 ((X_add (by omega) (by omega)).trans (congrArg X (by omega))) (by omega)) ?_
  exact .refl _
theorem tell_at (hF : Fit C B R) {at_ : Ins} (hS : Seg C.code q (tellI (B : Nat) (R : Nat) at_)) {y z : Nat} (hx : lc.getD 0 0 = X (f : Nat)) (hf : f < R) (hi : i ≤ R) (hy : twoV 1 y (X (f : Nat)) = X ((i + f : Nat) : Int)) (h0 : Step C ⟨q, st, lc, out, mem, u, nw⟩ ⟨q + 1, y :: st, lc, out, mem, u + 1, nw⟩) (hz : mem (B + 2 + (f + i) % R) = z) (ht : st.length ≤ 50) : Star C ⟨q, st, lc, out, mem, u, nw⟩ ⟨q + 9, st, lc, out ++ [z], mem, u + 9, nw⟩ := by
  have hsm := hF.small
  have hlo := hF.lo
  have hhi := hF.hi
  have hr := hF.r1
  have hml := Nat.mod_lt (f + i) (show R > 0 by omega)
  obtain ⟨_, s2⟩ := seg_cut 1 (q + 1) rfl rfl hS
  obtain ⟨s2, s3⟩ := seg_cut 6 (q + 7) rfl (by omega) s2
  obtain ⟨b1, b2, _⟩ := s3
  have k := cell_at (st := st) (out := out) (mem := mem) (u := u + 1) (nw := nw) hF s2 hx hf hi hy ht
  refine .head h0 (k.trans ?_)
  refine .head (.read (B + 2 + (f + i) % R) _ b1 (by omega) (by omega) hz (by omega)) ?_
  refine .head (.emit b2 (by omega)) ?_
  exact .refl _
theorem put_at (hF : Fit C B R) (hup : C.upd = true) {at_ : Ins} (hS : Seg C.code q (putI (B : Nat) (R : Nat) at_)) {a : Nat} (ha : C.args 0 = a) (hx : lc.getD 0 0 = X (f : Nat)) (hf : f < R) (hi : i ≤ R) (h0 : Step C ⟨q + 1, a :: st, lc, out, mem, u + 1, nw⟩ ⟨q + 2, X (i : Nat) :: a :: st, lc, out, mem, u + 2, nw⟩) (ht : st.length ≤ 40) : Star C ⟨q, st, lc, out, mem, u, nw⟩ ⟨q + 9, st, lc, out, updF mem (B + 2 + (f + i) % R) a, u + 9, nw + 1⟩ := by
  have hsm := hF.small
  have hlo := hF.lo
  have hhi := hF.hi
  have hr := hF.r1
  have hr2 := hF.r16
  have hml := Nat.mod_lt (f + i) (show R > 0 by omega)
  obtain ⟨s1, s2⟩ := seg_cut 2 (q + 2) rfl rfl hS
  obtain ⟨s2, s3⟩ := seg_cut 6 (q + 8) rfl (by omega) s2
  obtain ⟨a1, _, _⟩ := s1
  obtain ⟨b1, _⟩ := s3
  have k := cell_at (st := a :: st) (out := out) (mem := mem) (u := u + 2) (nw := nw) (y := X (i : Nat)) hF s2 hx hf hi ((X_add (by omega) (by omega)).trans rfl) (by simp only [List.length_cons]; omega)
  refine .head (.arg 0 _ a1 ha (by omega)) (.head h0 (k.trans ?_))
  refine .head (.write (B + 2 + (f + i) % R) b1 hup (by omega) (by omega) (by omega)) ?_
  exact .refl _
theorem room_yes (hF : Fit C B R) (hS : Seg C.code 6 (roomS (R : Nat))) (hx : lc.getD 1 0 = X (n : Nat)) (hn : n < R) (ht : st.length ≤ 50) : Star C ⟨6, st, lc, out, mem, u, nw⟩ ⟨11, st, lc, out, mem, u + 4, nw⟩ := by
  have hr2 := hF.r16
  obtain ⟨a1, a2, a3, a4, _⟩ := hS
  refine .head (.get 1 _ a1 hx (by omega)) ?_
  refine .head (.push _ a2 (P_push (by omega)) (by simp only [List.length_cons]; omega)) ?_
  refine .head (.two (yesB true) a3 ((X_less (by omega) (by omega)).trans (by rw [decide_eq_true hn])) (by omega)) ?_
  refine .head (.ifT 11 a4 (true_yes true) (by omega)) ?_
  exact .refl _
theorem room_no (hF : Fit C B R) (hS : Seg C.code 6 (roomS (R : Nat))) (hx : lc.getD 1 0 = X (n : Nat)) (hn : ¬ n < R) (hn2 : n ≤ R) (ht : st.length ≤ 50) : Star C ⟨6, st, lc, out, mem, u, nw⟩ ⟨10, st, lc, out, mem, u + 4, nw⟩ ∧ ci C.code 10 = I 19 1 := by
  have hr2 := hF.r16
  obtain ⟨a1, a2, a3, a4, a5, _⟩ := hS
  refine ⟨?_, a5⟩
  refine .head (.get 1 _ a1 hx (by omega)) ?_
  refine .head (.push _ a2 (P_push (by omega)) (by simp only [List.length_cons]; omega)) ?_
  refine .head (.two (yesB false) a3 ((X_less (by omega) (by omega)).trans (by rw [decide_eq_false hn])) (by omega)) ?_
  refine .head (.ifF a4 (true_yes false) (by omega)) ?_
  exact .refl _
theorem many_at (hS : Seg C.code q manyS) (hx : lc.getD 1 0 = x1) : Star C ⟨q, [], lc, out, mem, u, nw⟩ ⟨q + 2, [], lc, out ++ [x1], mem, u + 2, nw⟩ ∧ ci C.code (q + 2) = I 20 0 := by
  obtain ⟨a1, a2, a3, _⟩ := hS
  refine ⟨?_, a3⟩
  refine .head (.get 1 _ a1 hx (by simp)) ?_
  refine .head (.emit a2 (by simp)) ?_
  exact .refl _
end
end Go.Proofs.YtaliehikdidiaaaGreatDoor.Dq
namespace Go.Proofs.YtaliehikdidiaaaGreatDoor.Dq
open Num Tr
theorem mdc {a R : Nat} (h : a < 2 * R) : (a < R ∧ a % R = a) ∨ (R ≤ a ∧ a % R = a - R) := by
  rw [md h]
  split
  · exact .inl ⟨‹_›, rfl⟩
  · exact .inr ⟨by omega, rfl⟩
theorem upd_ne {m : Nat → Nat} {c x d : Nat} (h : d ≠ c) : updF m c x d = m d := if_neg h
theorem upd_eq {m : Nat → Nat} {c x : Nat} : updF m c x c = x := if_pos rfl
section
variable {B R f : Nat} {L : List Nat} {mem : Nat → Nat}
theorem ring_pf (h : Ring B R f L mem) (hn : L.length < R) {a f' : Nat} (ha : okN a) (he : (f + (R - 1)) % R = f') : Ring B R f' (a :: L) (updF (updF (updF mem B (X (f' : Nat))) (B + 2 + (f' + 0) % R) a) (B + 1) (X ((L.length + 1 : Nat) : Int))) := by
  have hf := h.hf
  have h0 : f' < R := by rw [← he]; exact Nat.mod_lt _ (by omega)
  have e0 : (f' + 0) % R = f' := Nat.mod_eq_of_lt h0
  rw [e0]
  refine ⟨?_, ?_, fun i hi => ?_, h0, by simp only [List.length_cons]; omega, fun x hx => ?_⟩
  · rw [upd_ne (by omega), upd_ne (by omega), upd_eq]
  · rw [upd_eq]; rfl
  · have hml := Nat.mod_lt (f' + i) (show R > 0 by omega)
    rw [upd_ne (by omega)]
    cases i with
    | zero => rw [e0, upd_eq]; rfl
    | succ i =>
      simp only [List.length_cons] at hi
      have e1 : (f' + (i + 1)) % R = (f + i) % R ∧ (f' + (i + 1)) % R ≠ f' := by
        have c1 := mdc (a := f + (R - 1)) (R := R) (by omega)
        have c2 := mdc (a := f' + (i + 1)) (R := R) (by omega)
        have c3 := mdc (a := f + i) (R := R) (by omega)
        rw [he] at c1
        generalize (f' + (i + 1)) % R = p at *
        generalize (f + i) % R = r at *
        omega
      have hml2 := Nat.mod_lt (f + i) (show R > 0 by omega)
      rw [upd_ne (by omega), upd_ne (by omega), e1.1, h.it i (by omega)]
      rfl
  · rcases List.mem_cons.1 hx with rfl | hx
    · exact ha
    · exact h.ok x hx
theorem ring_pb (h : Ring B R f L mem) (hn : L.length < R) {a : Nat} (ha : okN a) : Ring B R f (L ++ [a]) (updF (updF mem (B + 2 + (f + L.length) % R) a) (B + 1) (X ((L.length + 1 : Nat) : Int))) := by
  have hf := h.hf
  have hml := Nat.mod_lt (f + L.length) (show R > 0 by omega)
  refine ⟨?_, ?_, fun i hi => ?_, hf, by simp; omega, fun x hx => ?_⟩
  · rw [upd_ne (by omega), upd_ne (by omega), h.fr]
  · rw [upd_eq]; simp
  · have hml2 := Nat.mod_lt (f + i) (show R > 0 by omega)
    rw [upd_ne (by omega)]
    rw [List.length_append, List.length_singleton] at hi
    rw [List.getD_eq_getElem?_getD]
    by_cases hin : i = L.length
    · subst hin
      rw [upd_eq]
      simp
    · have e1 : (f + i) % R ≠ (f + L.length) % R := by
        have c2 := mdc (a := f + i) (R := R) (by omega)
        have c3 := mdc (a := f + L.length) (R := R) (by omega)
        generalize (f + i) % R = p at *
        generalize (f + L.length) % R = r at *
        omega
      rw [upd_ne (by omega), h.it i (by omega), List.getElem?_append_left (by omega), List.getD_eq_getElem?_getD]
  · rcases List.mem_append.1 hx with hx | hx
    · exact h.ok x hx
    · rw [List.mem_singleton.1 hx]; exact ha
theorem ring_of {a f' : Nat} (h : Ring B R f (a :: L) mem) (he : (f + 1) % R = f') : Ring B R f' L (updF (updF mem B (X (f' : Nat))) (B + 1) (X (L.length : Nat))) := by
  have hf := h.hf
  have hl := h.hl
  simp only [List.length_cons] at hl
  have h0 : f' < R := by rw [← he]; exact Nat.mod_lt _ (by omega)
  refine ⟨?_, ?_, fun i hi => ?_, h0, by omega, fun x hx => h.ok x (List.mem_cons_of_mem _ hx)⟩
  · rw [upd_ne (by omega), upd_eq]
  · rw [upd_eq]
  · have e1 : (f' + i) % R = (f + (i + 1)) % R := by
      have c1 := mdc (a := f + 1) (R := R) (by omega)
      have c2 := mdc (a := f' + i) (R := R) (by omega)
      have c3 := mdc (a := f + (i + 1)) (R := R) (by omega)
      rw [he] at c1
      generalize (f' + i) % R = p at *
      generalize (f + (i + 1)) % R = r at *
      omega
    have hml2 := Nat.mod_lt (f' + i) (show R > 0 by omega)
    rw [upd_ne (by omega), upd_ne (by omega), e1, h.it (i + 1) (by simp only [List.length_cons]; omega)]
    rfl
theorem ring_ob (h : Ring B R f L mem) (hn : L ≠ []) : Ring B R f L.dropLast (updF mem (B + 1) (X ((L.length - 1 : Nat) : Int))) := by
  have hl := h.hl
  have hp := List.length_pos_iff.2 hn
  refine ⟨?_, ?_, fun i hi => ?_, h.hf, by rw [List.length_dropLast]; omega, fun x hx => h.ok x ((List.dropLast_sublist L).subset hx)⟩
  · rw [upd_ne (by omega), h.fr]
  · rw [upd_eq, List.length_dropLast]
  · rw [List.length_dropLast] at hi
    have hml2 := Nat.mod_lt (f + i) (show R > 0 by omega)
    rw [upd_ne (by omega), h.it i (by omega), List.getD_eq_getElem?_getD, List.getD_eq_getElem?_getD, List.getElem?_dropLast, if_pos (by omega)]
end
def Far (B R : Nat) (mem mem' : Nat → Nat) : Prop := ∀ c, c < B ∨ B + R + 1 < c → mem' c = mem c
theorem far_upd {B R : Nat} {mem mem' : Nat → Nat} {c x : Nat} (h : Far B R mem mem') (h1 : B ≤ c) (h2 : c ≤ B + R + 1) : Far B R mem (updF mem' c x) := fun d hd => by
  rw [upd_ne (by omega)]
  exact h d hd
theorem far_refl (B R : Nat) (mem : Nat → Nat) : Far B R mem mem := fun _ _ => rfl
section
variable {C : Cx} {B R f : Nat} {L : List Nat} {s : List Nat}
theorem up_eq {n R : Nat} (h : n < R) : (((n : Nat) : Int) + 1) % ((R + 1 : Nat) : Int) = ((n + 1 : Nat) : Int) := by
  rw [Int.emod_eq_of_lt (by omega) (by omega)]
  omega
theorem dn_eq {n R : Nat} (h : n ≤ R) (h0 : 0 < n) : (((n : Nat) : Int) + ((R : Nat) : Int)) % ((R + 1 : Nat) : Int) = ((n - 1 : Nat) : Int) := by
  rw [show ((n : Nat) : Int) + ((R : Nat) : Int) = ((n - 1 : Nat) : Int) + ((R + 1 : Nat) : Int) by omega, Int.add_emod_right, Int.emod_eq_of_lt (by omega) (by omega)]
theorem fr_eq (f b R : Nat) : (((f : Nat) : Int) + ((b : Nat) : Int)) % ((R : Nat) : Int) = (((f + b) % R : Nat) : Int) := by
  rw [Int.natCast_emod, Int.natCast_add]
theorem pf_ends (hF : Fit C B R) (hu : C.upd = true) (hC : C.code = pfC B R) (h : Ring B R f L (v0 s).mem) (ha : okN (C.args 0)) :
    (R ≤ L.length ∧ Tr.Ends C s 2 1 fun v => v.out = [] ∧ v.nw = 0) ∨
    (L.length < R ∧ Tr.Ends C s 1 0 fun v => v.out = [X ((L.length + 1 : Nat) : Int)] ∧ Far B R (v0 s).mem v.mem ∧ ∃ f', Ring B R f' (C.args 0 :: L) v.mem) := by
  have hf := h.hf
  have hl := h.hl
  have hr1 := hF.r1
  have hr := hF.r16
  have hseg : Seg C.code 0 (pfC B R) := by rw [hC]; exact seg_whole _
  obtain ⟨s1, hseg⟩ := seg_cut 6 6 rfl rfl hseg
  obtain ⟨s2, hseg⟩ := seg_cut 5 11 rfl rfl hseg
  obtain ⟨s3, hseg⟩ := seg_cut 9 20 rfl rfl hseg
  obtain ⟨s4, hseg⟩ := seg_cut 9 29 rfl rfl hseg
  obtain ⟨s5, s6⟩ := seg_cut 9 38 rfl rfl hseg
  have k1 := load_at (out := []) (u := 0) (nw := 0) hF s1 h
  by_cases hn : L.length < R
  · refine .inr ⟨hn, ?_⟩
    have hring := fun f' he => ring_pf h hn ha (f' := f') he
    have hup := up_eq hn
    obtain ⟨n1, hn1⟩ : ∃ n1, L.length + 1 = n1 := ⟨_, rfl⟩
    simp only [hn1] at hring hup ⊢
    obtain ⟨f', he⟩ : ∃ f', (f + (R - 1)) % R = f' := ⟨_, rfl⟩
    have h0 : f' < R := by rw [← he]; exact Nat.mod_lt _ (by omega)
    have hml := Nat.mod_lt (f' + 0) (show R > 0 by omega)
    have k2 := room_yes (st := []) (lc := [X (f : Nat), X (L.length : Nat), 0, 0, 0]) (out := []) (mem := (v0 s).mem) (u := 6) (nw := 0) hF s2 rfl hn (by simp)
    have k3 := turn_at (st := []) (lc := [X (f : Nat), X (L.length : Nat), 0, 0, 0]) (out := []) (mem := (v0 s).mem) (u := 10) (nw := 0) (a := f) (y := f') (l := 0) hF hu s3 (by omega) (by omega) (by simp) rfl (by omega) (by omega) (by omega) (by omega) (by omega) (by rw [show ((R : Nat) : Int) - 1 = ((R - 1 : Nat) : Int) by omega, fr_eq, he]) (by simp)
    have k4 := put_at (st := []) (lc := [X (f' : Nat), X (L.length : Nat), 0, 0, 0]) (out := []) (mem := updF (v0 s).mem B (X (f' : Nat))) (u := 19) (nw := 1) (i := 0) hF hu s4 rfl (f := f') rfl h0 (by omega) (.push _ s4.2.1 (P_push (by decide)) (by simp)) (by simp)
    have k5 := turn_at (st := []) (lc := [X (f' : Nat), X (L.length : Nat), 0, 0, 0]) (out := []) (mem := updF (updF (v0 s).mem B (X (f' : Nat))) (B + 2 + (f' + 0) % R) (C.args 0)) (u := 28) (nw := 2) (a := L.length) (y := n1) (l := 1) (c := B + 1) (size := R + 1) hF hu s5 (by omega) (by omega) (by simp) rfl (by omega) (by omega) (by omega) (by omega) (by omega) hup (by simp)
    obtain ⟨k6, k7⟩ := many_at (lc := [X (f' : Nat), X (n1 : Nat), 0, 0, 0]) (out := []) (mem := updF (updF (updF (v0 s).mem B (X (f' : Nat))) (B + 2 + (f' + 0) % R) (C.args 0)) (B + 1) (X (n1 : Nat))) (u := 37) (nw := 3) s6 rfl
    refine ⟨_, _, k1.trans (k2.trans (k3.trans (k4.trans (k5.trans k6)))), k7, .inl ⟨rfl, rfl, rfl⟩, by simp, by show 37 + 2 < 1024; omega, by show 3 ≤ 8; omega, rfl, ?_, f', hring f' he⟩
    exact far_upd (far_upd (far_upd (far_refl _ _ _) (by omega) (by omega)) (by omega) (by omega)) (by omega) (by omega)
  · refine .inl ⟨by omega, ?_⟩
    obtain ⟨k2, k3⟩ := room_no (st := []) (lc := [X (f : Nat), X (L.length : Nat), 0, 0, 0]) (out := []) (mem := (v0 s).mem) (u := 6) (nw := 0) hF s2 rfl hn hl (by simp)
    exact ⟨_, _, k1.trans k2, k3, .inr ⟨1, rfl, rfl, rfl⟩, by simp, by show 6 + 4 < 1024; omega, by show 0 ≤ 8; omega, rfl, rfl⟩
theorem pb_ends (hF : Fit C B R) (hu : C.upd = true) (hC : C.code = pbC B R) (h : Ring B R f L (v0 s).mem) (ha : okN (C.args 0)) :
    (R ≤ L.length ∧ Tr.Ends C s 2 1 fun v => v.out = [] ∧ v.nw = 0) ∨
    (L.length < R ∧ Tr.Ends C s 1 0 fun v => v.out = [X ((L.length + 1 : Nat) : Int)] ∧ Far B R (v0 s).mem v.mem ∧ ∃ f', Ring B R f' (L ++ [C.args 0]) v.mem) := by
  have hf := h.hf
  have hl := h.hl
  have hr1 := hF.r1
  have hr := hF.r16
  have hseg : Seg C.code 0 (pbC B R) := by rw [hC]; exact seg_whole _
  obtain ⟨s1, hseg⟩ := seg_cut 6 6 rfl rfl hseg
  obtain ⟨s2, hseg⟩ := seg_cut 5 11 rfl rfl hseg
  obtain ⟨s4, hseg⟩ := seg_cut 9 20 rfl rfl hseg
  obtain ⟨s5, s6⟩ := seg_cut 9 29 rfl rfl hseg
  have k1 := load_at (out := []) (u := 0) (nw := 0) hF s1 h
  by_cases hn : L.length < R
  · refine .inr ⟨hn, ?_⟩
    have hring := ring_pb h hn ha
    have hup := up_eq hn
    obtain ⟨n1, hn1⟩ : ∃ n1, L.length + 1 = n1 := ⟨_, rfl⟩
    simp only [hn1] at hring hup ⊢
    have hml := Nat.mod_lt (f + L.length) (show R > 0 by omega)
    have k2 := room_yes (st := []) (lc := [X (f : Nat), X (L.length : Nat), 0, 0, 0]) (out := []) (mem := (v0 s).mem) (u := 6) (nw := 0) hF s2 rfl hn (by simp)
    have k4 := put_at (st := []) (lc := [X (f : Nat), X (L.length : Nat), 0, 0, 0]) (out := []) (mem := (v0 s).mem) (u := 10) (nw := 0) (i := L.length) hF hu s4 rfl (f := f) rfl hf (by omega) (.get 1 _ s4.2.1 rfl (by simp)) (by simp)
    have k5 := turn_at (st := []) (lc := [X (f : Nat), X (L.length : Nat), 0, 0, 0]) (out := []) (mem := updF (v0 s).mem (B + 2 + (f + L.length) % R) (C.args 0)) (u := 19) (nw := 1) (a := L.length) (y := n1) (l := 1) (c := B + 1) (size := R + 1) hF hu s5 (by omega) (by omega) (by simp) rfl (by omega) (by omega) (by omega) (by omega) (by omega) hup (by simp)
    obtain ⟨k6, k7⟩ := many_at (lc := [X (f : Nat), X (n1 : Nat), 0, 0, 0]) (out := []) (mem := updF (updF (v0 s).mem (B + 2 + (f + L.length) % R) (C.args 0)) (B + 1) (X (n1 : Nat))) (u := 28) (nw := 2) s6 rfl
    refine ⟨_, _, k1.trans (k2.trans (k4.trans (k5.trans k6))), k7, .inl ⟨rfl, rfl, rfl⟩, by simp, by show 28 + 2 < 1024; omega, by show 2 ≤ 8; omega, rfl, ?_, f, hring⟩
    exact far_upd (far_upd (far_refl _ _ _) (by omega) (by omega)) (by omega) (by omega)
  · refine .inl ⟨by omega, ?_⟩
    obtain ⟨k2, k3⟩ := room_no (st := []) (lc := [X (f : Nat), X (L.length : Nat), 0, 0, 0]) (out := []) (mem := (v0 s).mem) (u := 6) (nw := 0) hF s2 rfl hn hl (by simp)
    exact ⟨_, _, k1.trans k2, k3, .inr ⟨1, rfl, rfl, rfl⟩, by simp, by show 6 + 4 < 1024; omega, by show 0 ≤ 8; omega, rfl, rfl⟩
theorem of_ends (hF : Fit C B R) (hu : C.upd = true) (hC : C.code = ofC B R) (h : Ring B R f L (v0 s).mem) :
    Tr.Ends C s 1 0 fun v => v.out = L.take 1 ∧ Far B R (v0 s).mem v.mem ∧ ∃ f', Ring B R f' (L.drop 1) v.mem := by
  have hf := h.hf
  have hl := h.hl
  have hr1 := hF.r1
  have hr := hF.r16
  have hseg : Seg C.code 0 (ofC B R) := by rw [hC]; exact seg_whole _
  obtain ⟨s1, hseg⟩ := seg_cut 6 6 rfl rfl hseg
  obtain ⟨s2, hseg⟩ := seg_cut 2 8 rfl rfl hseg
  obtain ⟨s3, hseg⟩ := seg_cut 9 17 rfl rfl hseg
  obtain ⟨s4, hseg⟩ := seg_cut 9 26 rfl rfl hseg
  obtain ⟨s5, s6⟩ := seg_cut 9 35 rfl rfl hseg
  have k1 := load_at (out := []) (u := 0) (nw := 0) hF s1 h
  obtain ⟨b1, b2, _⟩ := s2
  rcases L with _ | ⟨a, L⟩
  ·
    refine ⟨_, _, k1.trans (.head (.get 1 _ b1 rfl (by simp)) (.head (.unF 35 b2 (by show trueB (X ((0 : Nat) : Int)) = false; rw [true_X (by decide)]; exact decide_eq_false (by simp)) (by simp)) (.refl _))), s6.1, .inl ⟨rfl, rfl, rfl⟩, by simp, by show 6 + 1 + 1 < 1024; omega, by show 0 ≤ 8; omega, rfl, far_refl _ _ _, f, h⟩
  · obtain ⟨n1, hn1⟩ : ∃ n1, (a :: L).length = n1 := ⟨_, rfl⟩
    have hn2 : L.length + 1 = n1 := hn1
    rw [hn1] at k1 hl
    obtain ⟨f', he⟩ : ∃ f', (f + 1) % R = f' := ⟨_, rfl⟩
    have h0 : f' < R := by rw [← he]; exact Nat.mod_lt _ (by omega)
    have k2 : Star C ⟨6, [], [X (f : Nat), X (n1 : Nat), 0, 0, 0], [], (v0 s).mem, 6, 0⟩ ⟨8, [], [X (f : Nat), X (n1 : Nat), 0, 0, 0], [], (v0 s).mem, 8, 0⟩ :=
      .head (.get 1 _ b1 rfl (by simp)) (.head (.unT b2 ((true_X (by omega)).trans (decide_eq_true (by omega))) (by simp)) (.refl _))
    have k3 := tell_at (st := []) (lc := [X (f : Nat), X (n1 : Nat), 0, 0, 0]) (out := []) (mem := (v0 s).mem) (u := 8) (nw := 0) (i := 0) (y := X ((0 : Nat) : Int)) (z := a) hF s3 (f := f) rfl hf (by omega) ((X_add (by omega) (by omega)).trans rfl) (.push _ s3.1 (P_push (by decide)) (by simp)) (h.it 0 (by simp)) (by simp)
    have k4 := turn_at (st := []) (lc := [X (f : Nat), X (n1 : Nat), 0, 0, 0]) (out := [] ++ [a]) (mem := (v0 s).mem) (u := 17) (nw := 0) (a := f) (b := 1) (y := f') (l := 0) hF hu s4 (by omega) (by omega) (by simp) rfl (by omega) (by omega) (by omega) (by omega) (by omega) (by rw [show (1 : Int) = ((1 : Nat) : Int) from rfl, fr_eq, he]) (by simp)
    have k5 := turn_at (st := []) (lc := [X (f' : Nat), X (n1 : Nat), 0, 0, 0]) (out := [] ++ [a]) (mem := updF (v0 s).mem B (X (f' : Nat))) (u := 26) (nw := 1) (a := n1) (y := L.length) (l := 1) (c := B + 1) (size := R + 1) hF hu s5 (by omega) (by omega) (by simp) rfl (by omega) (by omega) (by omega) (by omega) (by omega) ((dn_eq (by omega) (by omega)).trans (by omega)) (by simp)
    refine ⟨_, _, k1.trans (k2.trans (k3.trans (k4.trans k5))), s6.1, .inl ⟨rfl, rfl, rfl⟩, by simp, by show 26 + 9 < 1024; omega, by show 2 ≤ 8; omega, rfl, ?_, f', ring_of h he⟩
    exact far_upd (far_upd (far_refl _ _ _) (by omega) (by omega)) (by omega) (by omega)
theorem ob_ends (hF : Fit C B R) (hu : C.upd = true) (hC : C.code = obC B R) (h : Ring B R f L (v0 s).mem) :
    Tr.Ends C s 1 0 fun v => v.out = L.drop (L.length - 1) ∧ Far B R (v0 s).mem v.mem ∧ ∃ f', Ring B R f' L.dropLast v.mem := by
  have hf := h.hf
  have hl := h.hl
  have hr1 := hF.r1
  have hr := hF.r16
  have hseg : Seg C.code 0 (obC B R) := by rw [hC]; exact seg_whole _
  obtain ⟨s1, hseg⟩ := seg_cut 6 6 rfl rfl hseg
  obtain ⟨s2, hseg⟩ := seg_cut 2 8 rfl rfl hseg
  obtain ⟨s3, hseg⟩ := seg_cut 9 17 rfl rfl hseg
  obtain ⟨s4, s6⟩ := seg_cut 9 26 rfl rfl hseg
  have k1 := load_at (out := []) (u := 0) (nw := 0) hF s1 h
  obtain ⟨b1, b2, _⟩ := s2
  by_cases hn : L = []
  · subst hn
    refine ⟨_, _, k1.trans (.head (.get 1 _ b1 rfl (by simp)) (.head (.unF 26 b2 (by show trueB (X ((0 : Nat) : Int)) = false; rw [true_X (by decide)]; exact decide_eq_false (by simp)) (by simp)) (.refl _))), s6.1, .inl ⟨rfl, rfl, rfl⟩, by simp, by show 6 + 1 + 1 < 1024; omega, by show 0 ≤ 8; omega, rfl, far_refl _ _ _, f, h⟩
  · have hp := List.length_pos_iff.2 hn
    have k2 : Star C ⟨6, [], [X (f : Nat), X (L.length : Nat), 0, 0, 0], [], (v0 s).mem, 6, 0⟩ ⟨8, [], [X (f : Nat), X (L.length : Nat), 0, 0, 0], [], (v0 s).mem, 8, 0⟩ :=
      .head (.get 1 _ b1 rfl (by simp)) (.head (.unT b2 ((true_X (by omega)).trans (decide_eq_true (by omega))) (by simp)) (.refl _))
    have k3 := turn_at (st := []) (lc := [X (f : Nat), X (L.length : Nat), 0, 0, 0]) (out := []) (mem := (v0 s).mem) (u := 8) (nw := 0) (a := L.length) (y := L.length - 1) (l := 1) (c := B + 1) (size := R + 1) hF hu s3 (by omega) (by omega) (by simp) rfl (by omega) (by omega) (by omega) (by omega) (by omega) (dn_eq hl hp) (by simp)
    have hml := Nat.mod_lt (f + (L.length - 1)) (show R > 0 by omega)
    have k4 := tell_at (st := []) (lc := [X (f : Nat), X ((L.length - 1 : Nat) : Int), 0, 0, 0]) (out := []) (mem := updF (v0 s).mem (B + 1) (X ((L.length - 1 : Nat) : Int))) (u := 17) (nw := 1) (i := L.length - 1) (y := X ((L.length - 1 : Nat) : Int)) (z := L.getD (L.length - 1) 0) hF s4 (f := f) rfl hf (by omega) ((X_add (by omega) (by omega)).trans rfl) (.get 1 _ s4.1 rfl (by simp)) (by rw [upd_ne (by omega)]; exact h.it _ (by omega)) (by simp)
    refine ⟨_, _, k1.trans (k2.trans (k3.trans k4)), s6.1, .inl ⟨rfl, rfl, rfl⟩, by simp, by show 17 + 9 < 1024; omega, by show 1 ≤ 8; omega, ?_, ?_, f, ring_ob h hn⟩
    · show [] ++ [L.getD (L.length - 1) 0] = L.drop (L.length - 1)
      rw [List.drop_eq_getElem_cons (by omega), List.getD_eq_getElem?_getD, List.getElem?_eq_getElem (by omega), show L.length - 1 + 1 = L.length by omega, List.drop_length]
      rfl
    · exact far_upd (far_refl _ _ _) (by omega) (by omega)
def atS (L : List Nat) (x : Nat) : List Nat := if idxB x (L.length : Nat) then [L.getD (idxV x (L.length : Nat)).toNat 0] else []
theorem at_ends (hF : Fit C B R) (hC : C.code = atC B R) (h : Ring B R f L (v0 s).mem) (ha : okN (C.args 0)) :
    Tr.Ends C s 1 0 fun v => v.out = atS L (C.args 0) ∧ v.mem = (v0 s).mem ∧ v.nw = 0 := by
  have hf := h.hf
  have hl := h.hl
  have hr1 := hF.r1
  have hr := hF.r16
  have hseg : Seg C.code 0 (atC B R) := by rw [hC]; exact seg_whole _
  obtain ⟨s1, hseg⟩ := seg_cut 6 6 rfl rfl hseg
  obtain ⟨s2, hseg⟩ := seg_cut 4 10 rfl rfl hseg
  obtain ⟨s3, hseg⟩ := seg_cut 5 15 rfl rfl hseg
  obtain ⟨s4, s6⟩ := seg_cut 9 24 rfl rfl hseg
  have k1 := load_at (out := []) (u := 0) (nw := 0) hF s1 h
  obtain ⟨b1, b2, b3, b4, _⟩ := s2
  obtain ⟨c1, c2, c3, c4, c5, _⟩ := s3
  obtain ⟨x, hx⟩ : ∃ x, C.args 0 = x := ⟨_, rfl⟩
  rw [hx] at ha ⊢
  rcases at_case ha hl hr hr1 with ⟨i1, i, i2, i3, i4, i5, i6⟩ | ⟨i1, i2⟩
  · have e : atS L x = [L.getD i 0] := by unfold atS; rw [if_pos i1, i3]; rfl
    rw [e]
    have k2 : Star C ⟨6, [], [X (f : Nat), X (L.length : Nat), 0, 0, 0], [], (v0 s).mem, 6, 0⟩ ⟨15, [], [X (f : Nat), X (L.length : Nat), 0, 0, 0], [], (v0 s).mem, 15, 0⟩ := by
      refine .head (.arg 0 _ b1 hx (by simp)) ?_
      refine .head (.get 1 _ b2 rfl (by simp)) ?_
      refine .head (.two _ b3 i4 (by simp)) ?_
      refine .head (.unT b4 (true_yes true) (by simp)) ?_
      refine .head (.arg 0 _ c1 hx (by simp)) ?_
      refine .head (.push _ c2 (P_push (by omega)) (by simp)) ?_
      refine .head (.two _ c3 rfl (by simp)) ?_
      refine .head (.one _ c4 i5 (by simp)) ?_
      refine .head (.ifF c5 (true_yes false) (by simp)) ?_
      exact .refl _
    have k3 := tell_at (st := []) (lc := [X (f : Nat), X (L.length : Nat), 0, 0, 0]) (out := []) (mem := (v0 s).mem) (u := 15) (nw := 0) (i := i) (y := x) (z := L.getD i 0) hF s4 (f := f) rfl hf (by omega) (i6 f (by omega)) (.arg 0 _ s4.1 hx (by simp)) (h.it i i2) (by simp)
    exact ⟨_, _, k1.trans (k2.trans k3), s6.1, .inl ⟨rfl, rfl, rfl⟩, by simp, by show 15 + 9 < 1024; omega, by show 0 ≤ 8; omega, rfl, rfl, rfl⟩
  · have e : atS L x = [] := by unfold atS; rw [i1, if_neg Bool.false_ne_true]
    rw [e]
    rcases i2 with i2 | ⟨i2, i3⟩
    · have k2 : Star C ⟨6, [], [X (f : Nat), X (L.length : Nat), 0, 0, 0], [], (v0 s).mem, 6, 0⟩ ⟨24, [], [X (f : Nat), X (L.length : Nat), 0, 0, 0], [], (v0 s).mem, 10, 0⟩ := by
        refine .head (.arg 0 _ b1 hx (by simp)) ?_
        refine .head (.get 1 _ b2 rfl (by simp)) ?_
        refine .head (.two _ b3 i2 (by simp)) ?_
        refine .head (.unF 24 b4 (true_yes false) (by simp)) ?_
        exact .refl _
      exact ⟨_, _, k1.trans k2, s6.1, .inl ⟨rfl, rfl, rfl⟩, by simp, by show 10 < 1024; omega, by show 0 ≤ 8; omega, rfl, rfl, rfl⟩
    · have k2 : Star C ⟨6, [], [X (f : Nat), X (L.length : Nat), 0, 0, 0], [], (v0 s).mem, 6, 0⟩ ⟨24, [], [X (f : Nat), X (L.length : Nat), 0, 0, 0], [], (v0 s).mem, 15, 0⟩ := by
        refine .head (.arg 0 _ b1 hx (by simp)) ?_
        refine .head (.get 1 _ b2 rfl (by simp)) ?_
        refine .head (.two _ b3 i2 (by simp)) ?_
        refine .head (.unT b4 (true_yes true) (by simp)) ?_
        refine .head (.arg 0 _ c1 hx (by simp)) ?_
        refine .head (.push _ c2 (P_push (by omega)) (by simp)) ?_
        refine .head (.two _ c3 rfl (by simp)) ?_
        refine .head (.one _ c4 i3 (by simp)) ?_
        refine .head (.ifT 24 c5 (true_yes true) (by simp)) ?_
        exact .refl _
      exact ⟨_, _, k1.trans k2, s6.1, .inl ⟨rfl, rfl, rfl⟩, by simp, by show 15 < 1024; omega, by show 0 ≤ 8; omega, rfl, rfl, rfl⟩
theorem len_ends (hF : Fit C B R) (hC : C.code = lenC B) (h : Ring B R f L (v0 s).mem) :
    Tr.Ends C s 1 0 fun v => v.out = [X (L.length : Nat)] ∧ v.mem = (v0 s).mem ∧ v.nw = 0 := by
  have hr1 := hF.r1
  have hseg : Seg C.code 0 (lenC B) := by rw [hC]; exact seg_whole _
  obtain ⟨s1, s2⟩ := seg_cut 3 3 rfl rfl hseg
  have k1 := ld_at (lc := [0, 0, 0, 0, 0]) (st := []) (out := []) (u := 0) (nw := 0) hF (c := B + 1) s1 (by omega) (by omega) h.ct (by simp) (by simp)
  obtain ⟨k2, k3⟩ := many_at (lc := [0, X (L.length : Nat), 0, 0, 0]) (out := []) (mem := (v0 s).mem) (u := 3) (nw := 0) s2 rfl
  exact ⟨_, _, k1.trans k2, k3, .inl ⟨rfl, rfl, rfl⟩, by simp, by show 3 + 2 < 1024; omega, by show 0 ≤ 8; omega, rfl, rfl, rfl⟩
theorem all_walk (hF : Fit C B R) (s2 : Seg C.code 6 [I 7 2, I 7 1, I 10 8, I 13 24]) (s3 : Seg C.code 10 (tellI B R (I 7 2))) (s4 : Seg C.code 19 [I 7 2, P 1, I 10 1, I 8 2, I 11 6]) {mem : Nat → Nat} (h : Ring B R f L mem) : ∀ (d k u : Nat), k + d = L.length →
    ∃ u', u' ≤ u + 18 * d + 4 ∧ Star C ⟨6, [], [X (f : Nat), X (L.length : Nat), X (k : Nat), 0, 0], L.take k, mem, u, 0⟩ ⟨24, [], [X (f : Nat), X (L.length : Nat), X (L.length : Nat), 0, 0], L, mem, u', 0⟩ := by
  have hf := h.hf
  have hl := h.hl
  have hr1 := hF.r1
  have hr := hF.r16
  obtain ⟨b1, b2, b3, b4, _⟩ := s2
  obtain ⟨c1, c2, c3, c4, c5, _⟩ := s4
  intro d
  induction d with
  | zero =>
    intro k u hk
    have e : k = L.length := by omega
    subst e
    refine ⟨u + 4, by omega, ?_⟩
    rw [List.take_length]
    refine .head (.get 2 _ b1 rfl (by simp)) ?_
    refine .head (.get 1 _ b2 rfl (by simp)) ?_
    refine .head (.two (yesB false) b3 ((X_less (by omega) (by omega)).trans (by rw [decide_eq_false (Nat.lt_irrefl _)])) (by simp)) ?_
    refine .head (.unF 24 b4 (true_yes false) (by simp)) ?_
    exact .refl _
  | succ d ih =>
    intro k u hk
    obtain ⟨u', hu', k4⟩ := ih (k + 1) (u + 18) (by omega)
    refine ⟨u', by omega, ?_⟩
    have k1 : Star C ⟨6, [], [X (f : Nat), X (L.length : Nat), X (k : Nat), 0, 0], L.take k, mem, u, 0⟩ ⟨10, [], [X (f : Nat), X (L.length : Nat), X (k : Nat), 0, 0], L.take k, mem, u + 4, 0⟩ := by
      refine .head (.get 2 _ b1 rfl (by simp)) ?_
      refine .head (.get 1 _ b2 rfl (by simp)) ?_
      refine .head (.two (yesB true) b3 ((X_less (by omega) (by omega)).trans (by rw [decide_eq_true (by omega)])) (by simp)) ?_
      refine .head (.unT b4 (true_yes true) (by simp)) ?_
      exact .refl _
    have k2 := tell_at (st := []) (lc := [X (f : Nat), X (L.length : Nat), X (k : Nat), 0, 0]) (out := L.take k) (mem := mem) (u := u + 4) (nw := 0) (i := k) (y := X (k : Nat)) (z := L.getD k 0) hF s3 (f := f) rfl hf (by omega) ((X_add (by omega) (by omega)).trans rfl) (.get 2 _ s3.1 rfl (by simp)) (h.it k (by omega)) (by simp)
    have k3 : Star C ⟨19, [], [X (f : Nat), X (L.length : Nat), X (k : Nat), 0, 0], L.take k ++ [L.getD k 0], mem, u + 13, 0⟩ ⟨6, [], [X (f : Nat), X (L.length : Nat), X ((k + 1 : Nat) : Int), 0, 0], L.take k ++ [L.getD k 0], mem, u + 18, 0⟩ := by
      refine .head (.get 2 _ c1 rfl (by simp)) ?_
      refine .head (.push _ c2 (P_push (by decide)) (by simp)) ?_
      refine .head (.two (X ((k + 1 : Nat) : Int)) c3 ((X_add (by omega) (by omega)).trans rfl) (by simp)) ?_
      refine .head (.set 2 c4 (by simp) (by simp)) ?_
      refine .head (.jump 6 c5 (by simp)) ?_
      exact .refl _
    have e : L.take (k + 1) = L.take k ++ [L.getD k 0] := by
      rw [List.take_succ_eq_append_getElem (by omega), List.getD_eq_getElem?_getD, List.getElem?_eq_getElem (by omega)]
      rfl
    rw [e] at k4
    exact k1.trans (k2.trans (k3.trans k4))
theorem all_ends (hF : Fit C B R) (hC : C.code = allC B R) (h : Ring B R f L (v0 s).mem) :
    Tr.Ends C s 1 0 fun v => v.out = L ∧ v.mem = (v0 s).mem ∧ v.nw = 0 := by
  have hl := h.hl
  have hr := hF.r16
  have hseg : Seg C.code 0 (allC B R) := by rw [hC]; exact seg_whole _
  obtain ⟨s1, hseg⟩ := seg_cut 6 6 rfl rfl hseg
  obtain ⟨s2, hseg⟩ := seg_cut 4 10 rfl rfl hseg
  obtain ⟨s3, hseg⟩ := seg_cut 9 19 rfl rfl hseg
  obtain ⟨s4, s6⟩ := seg_cut 5 24 rfl rfl hseg
  have k1 := load_at (out := []) (u := 0) (nw := 0) hF s1 h
  obtain ⟨u', hu, k2⟩ := all_walk hF s2 s3 s4 h L.length 0 6 (by omega)
  have e : X ((0 : Nat) : Int) = 0 := X_zero
  rw [e] at k2
  exact ⟨_, _, k1.trans k2, s6.1, .inl ⟨rfl, rfl, rfl⟩, by simp, by show u' < 1024; omega, by show 0 ≤ 8; omega, rfl, rfl, rfl⟩
end
end Go.Proofs.YtaliehikdidiaaaGreatDoor.Dq
namespace Go.Proofs.YtaliehikdidiaaaGreatDoor.Dq
open Num Tr
def Has (B R : Nat) (s : List Nat) (L : List Nat) : Prop := ∃ f, Ring B R f L (v0 s).mem
structure Lies (a b e : Int) (B R cells n : Nat) : Prop where
  cfg : Md.cfgB a b 1024 e = true
  n : (n : Int) = a
  e : 8 ≤ e
  room : (R : Int) = min 16 ((cells : Int) - 2)
  c3 : 3 ≤ cells
  fit : (B : Int) + cells ≤ a
structure Ran (s : List Nat) (m : Mac) (B cells : Nat) (how cod : Int) (out : List Nat) : Prop where
  how : m.how = how
  cod : m.cod = cod
  err : m.err = 0
  out : m.out = out
  used : m.used ≤ 1024
  few : m.buf.length ≤ 8
  rd : ∀ t ∈ m.reads, (B : Int) ≤ t.1 ∧ t.1 < (B : Int) + cells
  bf : ∀ t ∈ m.buf, (B : Int) ≤ t.1 ∧ t.1 < (B : Int) + cells
  rest : Rest m
theorem v0_mem {s : List Nat} {i : Nat} (hi : i < s.length) : (v0 s).mem i = s.getD i 0 := by
  show Sx.getV s (i : Nat) = _
  unfold Sx.getV
  rw [Sx.hasN_nat, decide_eq_true hi, if_pos rfl, Int.toNat_natCast]
theorem arg_ok {l : List Nat} (hl : ∀ x ∈ l, x < 18446744073709551616) (k : Nat) : okN (argF l k) := by
  refine okN_fix ?_
  rw [List.getD_eq_getElem?_getD]
  rcases Nat.lt_or_ge k l.length with h | h
  · rw [List.getElem?_eq_getElem h]; exact hl _ (List.getElem_mem h)
  · rw [List.getElem?_eq_none h]; decide
structure Fine (t : Int) (cs : List Ins) : Prop where
  chk : checkB t cs = true
  x : ∀ k, k < cs.length → (ci cs k).x < 18446744073709551616
def Outside (s s' : List Nat) (B cells : Nat) : Prop := s'.length = s.length ∧ ∀ i, i < s.length → i < B ∨ B + cells ≤ i → s'.getD i 0 = s.getD i 0
theorem Outside.refl (s : List Nat) (B cells : Nat) : Outside s s B cells := ⟨rfl, fun _ _ _ => rfl⟩
def fullS (k : Int) (L : List Nat) (R : Nat) : Bool := decide (k ≤ 2) && decide (R ≤ L.length)
def outS (k : Int) (L : List Nat) (R x : Nat) : List Nat :=
  if k ≤ 2 then (if R ≤ L.length then [] else [X ((L.length + 1 : Nat) : Int)]) else if k = 3 then L.take 1 else if k = 4 then L.drop (L.length - 1) else if k = 5 then atS L x else if k = 6 then [X (L.length : Nat)] else L
def nxtS (k : Int) (L : List Nat) (R x : Nat) : List Nat :=
  if k ≤ 2 then (if R ≤ L.length then L else if k = 1 then x :: L else L ++ [x]) else if k = 3 then L.drop 1 else if k = 4 then L.dropLast else L
def howS (k : Int) (L : List Nat) (R : Nat) : Int := if fullS k L R then 2 else 1
def codS (k : Int) (L : List Nat) (R : Nat) : Int := if fullS k L R then 1 else 0
def tagS (k : Int) : Int := if k ≤ 4 then 2 else 1
theorem kinds {k : Int} (h1 : 1 ≤ k) (h7 : k ≤ 7) : k = 1 ∨ k = 2 ∨ k = 3 ∨ k = 4 ∨ k = 5 ∨ k = 6 ∨ k = 7 := by omega
section
variable {a b e : Int} {B R cells : Nat} {s l : List Nat} {L : List Nat}
theorem Lies.r (h : Lies a b e B R cells s.length) : 1 ≤ R ∧ R ≤ 16 ∧ B + R + 1 < B + cells ∧ (B : Int) + cells ≤ 256 := by
  have h1 := h.room
  have h2 := h.c3
  have h3 := h.fit
  have h4 := (Md.cfgB_iff.1 h.cfg).1
  omega
theorem Lies.good (h : Lies a b e B R cells s.length) (hl : l.length ≤ 8) : goodB a b 1024 e s.length l.length = true := by
  unfold goodB
  rw [h.cfg, decide_eq_true h.n, decide_eq_true hl]
  rfl
theorem Lies.fits (h : Lies a b e B R cells s.length) (t : Int) (cs : List Ins) : Fit (cxOf a 1024 e t cs l B (B + cells)) B R := by
  have h1 := h.r
  have h3 := h.fit
  have h4 := (Md.cfgB_iff.1 h.cfg).1
  refine ⟨⟨?_, h4.2⟩, Nat.le_refl _, ?_, h1.1, h1.2.1⟩
  · show ((B + cells : Nat) : Int) ≤ a
    omega
  · show B + R + 1 < B + cells
    exact h1.2.2.1
theorem ran_of (h : Lies a b e B R cells s.length) (hl8 : l.length ≤ 8) (hl : ∀ x ∈ l, x < 18446744073709551616) (hs : okS s) {t : Int} {cs : List Ins} (hk : Fine t cs) {how cod : Int} {Q : Vm → Prop} (hE : Tr.Ends (cxOf a 1024 e t cs l B (B + cells)) s how cod Q) :
    ∃ v, Q v ∧ Ran s (runR a b 1024 e t cs l s) B cells how cod v.out ∧ (runR a b 1024 e t cs l s).buf.length ≤ v.nw ∧ (how = 1 → ∀ i, i < s.length → (aftS s (runR a b 1024 e t cs l s)).getD i 0 = if i < B + cells then v.mem i else s.getD i 0) := by
  obtain ⟨v, i, h1, h2, h3, h4, h5, h6, h7⟩ := hE
  have hr := run_res (h.good hl8) hk.chk hk.x hl hs (h.fits t cs).ok h1 h2 h3 h4 (by omega) (by have := h.e; omega)
  have e1 : ((cxOf a 1024 e t cs l B (B + cells)).hi : Int) = (B : Int) + cells := by show ((B + cells : Nat) : Int) = _; omega
  refine ⟨v, h7, ⟨hr.how, hr.cod, hr.err, hr.out, by rw [hr.used]; omega, Nat.le_trans hr.few h6, fun q hq => ?_, fun q hq => ?_, hr.rest⟩, hr.few, fun hh i hi => ?_⟩
  · have := hr.rd q hq
    rw [e1] at this
    exact this
  · have := hr.bf q hq
    rw [e1] at this
    exact this
  · subst hh
    exact hr.aft hi
theorem aft_quiet {m : Mac} (h : m.buf.length ≤ 0) : aftS s m = s := by
  have : m.buf = [] := List.length_eq_zero_iff.1 (by omega)
  unfold aftS
  rw [this]
  split <;> rfl
theorem has_aft (h : Lies a b e B R cells s.length) {m : Mac} {v : Vm} {L' : List Nat} (ha : ∀ i, i < s.length → (aftS s m).getD i 0 = if i < B + cells then v.mem i else s.getD i 0) (ho : Far B R (v0 s).mem v.mem) (hT : ∃ f', Ring B R f' L' v.mem) : Has B R (aftS s m) L' ∧ Outside s (aftS s m) B cells := by
  have hr := h.r
  have hfit := h.fit
  have hn := h.n
  have hlen := aftS_len s m
  obtain ⟨f', hT⟩ := hT
  refine ⟨⟨f', hT.congr (fun c h1 h2 => ?_) hr.1⟩, hlen, fun i hi hio => ?_⟩
  · rw [v0_mem (by rw [hlen]; omega), ha c (by omega), if_pos (by omega)]
  · rw [ha i hi]
    split
    · rw [ho i (by omega), v0_mem hi]
    · rfl
theorem kind_ran (h : Lies a b e B R cells s.length) (hs : okS s) (hH : Has B R s L) (hk : ∀ i, i < 7 → Fine (tagS ((i : Nat) + 1)) (codeOf B R i)) (hl8 : l.length ≤ 8) (hl : ∀ x ∈ l, x < 18446744073709551616) {k : Int} (h1 : 1 ≤ k) (h7 : k ≤ 7) :
    Ran s (runR a b 1024 e (tagS k) (codeOf B R (k - 1).toNat) l s) B cells (howS k L R) (codS k L R) (outS k L R (argF l 0)) ∧ Has B R (aftS s (runR a b 1024 e (tagS k) (codeOf B R (k - 1).toNat) l s)) (nxtS k L R (argF l 0)) ∧ Outside s (aftS s (runR a b 1024 e (tagS k) (codeOf B R (k - 1).toNat) l s)) B cells := by
  have hx := arg_ok hl 0
  obtain ⟨f, hR⟩ := hH
  rcases kinds h1 h7 with rfl | rfl | rfl | rfl | rfl | rfl | rfl
  · have hk := hk 0 (by decide)
    rcases pf_ends (h.fits 2 (pfC B R)) rfl rfl hR hx with ⟨k1, k2⟩ | ⟨k1, k2⟩
    · obtain ⟨v, ⟨q1, q2⟩, r1, r2, _⟩ := ran_of h hl8 hl hs hk k2
      have e1 : fullS 1 L R = true := by unfold fullS; rw [decide_eq_true k1]; rfl
      have e2 : aftS s (runR a b 1024 e 2 (pfC B R) l s) = s := aft_quiet (q2 ▸ r2)
      refine ⟨?_, ?_, ?_⟩
      · unfold howS codS outS
        rw [e1, if_pos k1]
        exact q1 ▸ r1
      · show Has B R (aftS s (runR a b 1024 e 2 (pfC B R) l s)) _
        rw [e2]
        unfold nxtS
        rw [if_pos k1]
        exact ⟨f, hR⟩
      · show Outside s (aftS s (runR a b 1024 e 2 (pfC B R) l s)) B cells
        rw [e2]
        exact Outside.refl ..
    · obtain ⟨v, ⟨q1, q2, q3⟩, r1, r2, r3⟩ := ran_of h hl8 hl hs hk k2
      have e0 : ¬ R ≤ L.length := by omega
      have e1 : fullS 1 L R = false := by unfold fullS; rw [decide_eq_false e0]; rfl
      obtain ⟨r4, r5⟩ := has_aft h (r3 rfl) q2 q3
      refine ⟨?_, ?_, r5⟩
      · unfold howS codS outS
        rw [e1, if_neg e0]
        exact q1 ▸ r1
      · unfold nxtS
        rw [if_neg e0]
        exact r4
  · have hk := hk 1 (by decide)
    rcases pb_ends (h.fits 2 (pbC B R)) rfl rfl hR hx with ⟨k1, k2⟩ | ⟨k1, k2⟩
    · obtain ⟨v, ⟨q1, q2⟩, r1, r2, _⟩ := ran_of h hl8 hl hs hk k2
      have e1 : fullS 2 L R = true := by unfold fullS; rw [decide_eq_true k1]; rfl
      have e2 : aftS s (runR a b 1024 e 2 (pbC B R) l s) = s := aft_quiet (q2 ▸ r2)
      refine ⟨?_, ?_, ?_⟩
      · unfold howS codS outS
        rw [e1, if_pos k1]
        exact q1 ▸ r1
      · show Has B R (aftS s (runR a b 1024 e 2 (pbC B R) l s)) _
        rw [e2]
        unfold nxtS
        rw [if_pos k1]
        exact ⟨f, hR⟩
      · show Outside s (aftS s (runR a b 1024 e 2 (pbC B R) l s)) B cells
        rw [e2]
        exact Outside.refl ..
    · obtain ⟨v, ⟨q1, q2, q3⟩, r1, r2, r3⟩ := ran_of h hl8 hl hs hk k2
      have e0 : ¬ R ≤ L.length := by omega
      have e1 : fullS 2 L R = false := by unfold fullS; rw [decide_eq_false e0]; rfl
      obtain ⟨r4, r5⟩ := has_aft h (r3 rfl) q2 q3
      refine ⟨?_, ?_, r5⟩
      · unfold howS codS outS
        rw [e1, if_neg e0]
        exact q1 ▸ r1
      · unfold nxtS
        rw [if_neg e0]
        exact r4
  · have hk := hk 2 (by decide)
    obtain ⟨v, ⟨q1, q2, q3⟩, r1, r2, r3⟩ := ran_of h hl8 hl hs hk (of_ends (h.fits 2 (ofC B R)) rfl rfl hR)
    obtain ⟨r4, r5⟩ := has_aft h (r3 rfl) q2 q3
    exact ⟨(q1 ▸ r1 : Ran s (runR a b 1024 e 2 (ofC B R) l s) B cells 1 0 (L.take 1)), r4, r5⟩
  · have hk := hk 3 (by decide)
    obtain ⟨v, ⟨q1, q2, q3⟩, r1, r2, r3⟩ := ran_of h hl8 hl hs hk (ob_ends (h.fits 2 (obC B R)) rfl rfl hR)
    obtain ⟨r4, r5⟩ := has_aft h (r3 rfl) q2 q3
    exact ⟨(q1 ▸ r1 : Ran s (runR a b 1024 e 2 (obC B R) l s) B cells 1 0 (L.drop (L.length - 1))), r4, r5⟩
  · have hk := hk 4 (by decide)
    obtain ⟨v, ⟨q1, _, q3⟩, r1, r2, _⟩ := ran_of h hl8 hl hs hk (at_ends (h.fits 1 (atC B R)) rfl hR hx)
    have e2 : aftS s (runR a b 1024 e 1 (atC B R) l s) = s := aft_quiet (q3 ▸ r2)
    exact ⟨(q1 ▸ r1 : Ran s (runR a b 1024 e 1 (atC B R) l s) B cells 1 0 (atS L (argF l 0))), by show Has B R (aftS s (runR a b 1024 e 1 (atC B R) l s)) L; rw [e2]; exact ⟨f, hR⟩, by show Outside s (aftS s (runR a b 1024 e 1 (atC B R) l s)) B cells; rw [e2]; exact Outside.refl ..⟩
  · have hk := hk 5 (by decide)
    obtain ⟨v, ⟨q1, _, q3⟩, r1, r2, _⟩ := ran_of h hl8 hl hs hk (len_ends (h.fits 1 (lenC B)) rfl hR)
    have e2 : aftS s (runR a b 1024 e 1 (lenC B) l s) = s := aft_quiet (q3 ▸ r2)
    exact ⟨(q1 ▸ r1 : Ran s (runR a b 1024 e 1 (lenC B) l s) B cells 1 0 [X (L.length : Nat)]), by show Has B R (aftS s (runR a b 1024 e 1 (lenC B) l s)) L; rw [e2]; exact ⟨f, hR⟩, by show Outside s (aftS s (runR a b 1024 e 1 (lenC B) l s)) B cells; rw [e2]; exact Outside.refl ..⟩
  · have hk := hk 6 (by decide)
    obtain ⟨v, ⟨q1, _, q3⟩, r1, r2, _⟩ := ran_of h hl8 hl hs hk (all_ends (h.fits 1 (allC B R)) rfl hR)
    have e2 : aftS s (runR a b 1024 e 1 (allC B R) l s) = s := aft_quiet (q3 ▸ r2)
    exact ⟨(q1 ▸ r1 : Ran s (runR a b 1024 e 1 (allC B R) l s) B cells 1 0 L), by show Has B R (aftS s (runR a b 1024 e 1 (allC B R) l s)) L; rw [e2]; exact ⟨f, hR⟩, by show Outside s (aftS s (runR a b 1024 e 1 (allC B R) l s)) B cells; rw [e2]; exact Outside.refl ..⟩
theorem has_new (h : Lies a b e B R cells s.length) (h0 : ∀ i, B ≤ i → i < B + cells → s.getD i 0 = 0) : Has B R s [] := by
  have hr := h.r
  have hfit := h.fit
  have hn := h.n
  have key : ∀ c, B ≤ c → c ≤ B + R + 1 → (v0 s).mem c = X (0 : Nat) := fun c h1 h2 => by rw [v0_mem (by omega), h0 c h1 (by omega)]; exact X_zero.symm
  exact ⟨0, key _ (by omega) (by omega), key _ (by omega) (by omega), fun i hi => absurd hi (Nat.not_lt_zero i), by omega, Nat.zero_le _, fun x hx => (by cases hx)⟩
end
end Go.Proofs.YtaliehikdidiaaaGreatDoor.Dq
namespace Go.Proofs.YtaliehikdidiaaaGreatDoor.Dq
open Num As Tr
theorem addB_small (s : Bs) (o : Dq.O) (h : ∀ i ∈ s.code, i.x < 18446744073709551616) : ∀ i ∈ (Dq.addB s o).code, i.x < 18446744073709551616 := by
  unfold Dq.addB
  have key : ∀ (j : Ins), j.x < 18446744073709551616 → ∀ q, ∀ i ∈ (s.add j q).code, i.x < 18446744073709551616 := fun j hj q i hi => by
    rcases List.mem_append.1 (show i ∈ s.code ++ [j] from hi) with hi | hi
    · exact h i hi
    · rw [List.mem_singleton.1 hi]; exact hj
  split
  · exact key _ (floatInt_lt _) _
  · split
    · exact key ⟨o.code, 0, 0⟩ (by show (0 : Nat) < _; decide) _
    · split
      · exact h
      · exact key ⟨o.code, o.n, 0⟩ (by show (0 : Nat) < _; decide) _
theorem foldB_small : ∀ (l : List Dq.O) (s : Bs), (∀ i ∈ s.code, i.x < 18446744073709551616) → ∀ i ∈ (l.foldl Dq.addB s).code, i.x < 18446744073709551616
  | [], _, h => h
  | o :: l, s, h => foldB_small l (Dq.addB s o) (Dq.addB_small s o h)
theorem filled_small (s : Bs) (h : ∀ i ∈ s.code, i.x < 18446744073709551616) : ∀ i ∈ s.filled, i.x < 18446744073709551616 := by
  intro i hi
  obtain ⟨k, hk, rfl⟩ := List.mem_map.1 hi
  have hk := List.mem_range.1 hk
  have hm : (ci s.code k).x < 18446744073709551616 := h _ (by unfold ci; rw [List.getD_eq_getElem?_getD, List.getElem?_eq_getElem hk]; exact List.getElem_mem hk)
  unfold Bs.fin
  split
  · exact hm
  · exact hm
theorem check_of {t : Int} {ops : List Dq.O} {cs : List Ins} (h1 : (Dq.bsOf t ops).filled.map fixI = cs) (h2 : (Dq.bsOf t ops).ans = 0) : checkB t cs = true := by
  have ht : (Dq.bsOf t ops).tag = t := (Dq.fold_tag ops _).trans (Dq.labs_len 3 t).2.2
  unfold Bs.ans at h2
  split at h2
  · rw [ht, ← checkE_fix, h1] at h2
    unfold checkE at h2
    split at h2
    · assumption
    · cases h2
  · cases h2
theorem code_small {t : Int} {ops : List Dq.O} {cs : List Ins} (h1 : (Dq.bsOf t ops).filled.map fixI = cs) : ∀ k, k < cs.length → (ci cs k).x < 18446744073709551616 := by
  have hb := filled_small (Dq.bsOf t ops) (Dq.foldB_small _ _ fun i hi => by rw [(Dq.labs_len 3 t).1] at hi; cases hi)
  intro k hk
  have hm : ci cs k ∈ cs := by unfold ci; rw [List.getD_eq_getElem?_getD, List.getElem?_eq_getElem hk]; exact List.getElem_mem hk
  rw [← h1] at hm
  obtain ⟨i, hi, e⟩ := List.mem_map.1 hm
  rw [← h1, ← e]
  exact fixB_lt (hb i hi)
theorem Good.fine {t : Int} {l : List Dq.O} {cs : List Ins} (h : Good t l cs) : Fine t cs := ⟨check_of h.code h.ans, code_small h.code⟩
theorem all_fine (B R : Int) : ∀ i, i < 7 → Fine (tagS ((i : Nat) + 1)) (codeOf B R i) := fun i hi =>
  match i, hi with
  | 0, _ => (pf_good B R).fine
  | 1, _ => (pb_good B R).fine
  | 2, _ => (of_good B R).fine
  | 3, _ => (ob_good B R).fine
  | 4, _ => (at_good B R).fine
  | 5, _ => (len_good B).fine
  | 6, _ => (all_good B R).fine
theorem codes_len (B R : Int) {k : Nat} : k < 7 → (codeOf B R k).length ≤ 1000 := by
  intro hk
  match k, hk with
  | 0, _ | 1, _ | 2, _ | 3, _ | 4, _ | 5, _ | 6, _ => exact Nat.le_of_ble_eq_true rfl
theorem codes_small (B R : Int) {k : Nat} (hk : k < 7) : ∀ i ∈ codeOf B R k, i.x < 18446744073709551616 := by
  intro i hi
  obtain ⟨j, hj, rfl⟩ := List.mem_iff_getElem.1 hi
  have := (all_fine B R k hk).x j hj
  unfold ci at this
  rwa [List.getD_eq_getElem?_getD, List.getElem?_eq_getElem hj] at this
end Go.Proofs.YtaliehikdidiaaaGreatDoor.Dq
namespace Go.Proofs.YtaliehikdidiaaaGreatDoor
open Go.ChangeShapes Go.WideShapes Go.ChangeAt Go.RowKit Num
attribute [local go_sem] run_store_float
theorem row_at {w : World} {p : Option Addr} {c n : Nat} {l : List Nat} (h : RowAt 74 w p c (fls l)) (hn : l.length = n) (i : Nat) (hi : i < n) : ∃ g, p = some ⟨g, 0, none⟩ ∧ g < w.heap.size ∧ w.cell? ⟨g, i, none⟩ = some (.float .f64 (l.getD i 0)) := by
  rcases h.own.2 with ⟨hv, _⟩ | ⟨g, cap, cur, hv, _⟩
  · injection hv with _ h2 _
    rw [fls_len] at h2
    omega
  · injection hv with h1 _ _
    subst h1
    obtain ⟨r1, _, r2⟩ := row_get h (j := i) (v := .float .f64 (l.getD i 0)) (by simp [fls, show i < l.length by omega])
    exact ⟨g, rfl, r2, r1⟩
end Go.Proofs.YtaliehikdidiaaaGreatDoor
namespace Go.Proofs.YtaliehikdidiaaaGreatDoor.Dq
open Go.ChangeShapes Go.WideShapes Go.ChangeAt Go.RowKit Num Go.Maps As
open Go.ChangeMaps Go.MapKept
theorem cell_sm {w u : World} (h : Same w u) (p : Addr) : u.cell? p = w.cell? p := by unfold World.cell?; rw [h.heap]
theorem row_fl {w : World} {p : Option Addr} {c : Nat} {l : List Nat} (h : RowAt 74 w p c (fls l)) : FlAt w p l := fun k hk => by
  obtain ⟨g, e, hg, c⟩ := row_at h rfl k hk
  exact ⟨g, 0, e, hg, by rw [Nat.zero_add]; exact c⟩
section
variable {w : World}
attribute [local go_sem] bits_run
set_option maxRecDepth 100000 in
set_option maxHeartbeats 2000000 in
theorem exact_any {pa pb : Option Addr} {ca cb n : Nat} {l : List Nat} (hn : l.length = n) (hm : n ≤ 9223372036854775807) (ha : FlAt w pa l) (hb : FlAt w pb l) : Calls Tryz.prog 24 #[.slice pa n ca, .slice pb n cb] w fun e w' => e = .returned (.bool true) ∧ Same w w' := by
  have HA := Lib.hid ha
  have HB := Lib.hid hb
  have HN := Lib.hid hn
  have hmi : (n : Int) ≤ 9223372036854775807 := by omega
  clear ha hb hn
  go_enter Tryz.func24, Tryz.ntmps24
  go_wp2_with fail
  go_loopw [4, 5] (fun v4 v13 u => ∃ k : Nat, v13 = .int .i64 (k : Int) ∧ v4 = .bool false ∧ k ≤ n ∧ Hid (Same w u)) (fun _ v13 _ => n - (intOf v13).toNat)
  case atStart => exact ⟨0, rfl, rfl, Nat.zero_le _, Same.refl w⟩
  case round =>
    obtain ⟨k, rfl, rfl, hk, HR⟩ := hrel
    by_cases hlt : k < n
    · have hlt' : (k : Int) < (n : Int) := by omega
      obtain ⟨g1, o1, e1, l1, c1⟩ := HA.out k (by rw [HN.out]; exact hlt)
      obtain ⟨g2, o2, e2, l2, c2⟩ := HB.out k (by rw [HN.out]; exact hlt)
      obtain ⟨x, hx⟩ : ∃ x, l.getD k 0 = x := ⟨_, rfl⟩
      rw [hx] at c1 c2
      clear hx
      replace c1 := (cell_sm HR.out _).trans c1
      replace c2 := (cell_sm HR.out _).trans c2
      rw [← HR.out.heap] at l1 l2
      subst e1 e2
      clear HA HB HN
      go_upto_region 6 with fail
      refine wp_region_seq (fun u => u.cell? ⟨g1, o1 + k, none⟩ = some (.float .f64 x) ∧ u.cell? ⟨g2, o2 + k, none⟩ = some (.float .f64 x) )  ((0, true) :: (1, true) :: (2, true) :: (3, true) :: (5, true) :: (6, true) :: (7, true) :: (8, true) :: (4, false) :: (9, false) :: (10, true) :: [])  follows (by kernel_rfl) (fun _ _ _ _ _ h => h)  ⟨c1, c2⟩ ?_
      (repeat ((first | (refine wpSeq_take (v := ?_) rfl (by rfl) (fun wq hSq => ?_) ?_; rotate_left; (focus ((try dsimp only at hSq); go_simp; try with_reducible rfl))) | refine wpSeq_skip rfl (by rfl) ?_); simp only [Act.put, List.setIfInBounds_toArray, List.set_cons_zero, List.set_cons_succ]))
      (refine wpSeq_do rfl (by rfl) (fun KK hK => ?_); go_simp)
      refine hK.out _ _ ⟨c1, c2⟩ ?_
      (clear hK KK; try simp only [Act.put, List.setIfInBounds_toArray, List.set_cons_zero, List.set_cons_succ])
      (repeat ((first | (refine wpSeq_take (v := ?_) rfl (by rfl) (fun wq hSq => ?_) ?_; rotate_left; (focus ((try dsimp only at hSq); go_simp; try with_reducible rfl))) | refine wpSeq_skip rfl (by rfl) ?_); simp only [Act.put, List.setIfInBounds_toArray, List.set_cons_zero, List.set_cons_succ]))
      (refine wpSeq_do rfl (by rfl) (fun KK hK => ?_); go_simp)
      refine hK.out _ _ ⟨c1, c2⟩ ?_
      (clear hK KK; try simp only [Act.put, List.setIfInBounds_toArray, List.set_cons_zero, List.set_cons_succ])
      (repeat ((first | (refine wpSeq_take (v := ?_) rfl (by rfl) (fun wq hSq => ?_) ?_; rotate_left; (focus ((try dsimp only at hSq); go_simp; try with_reducible rfl))) | refine wpSeq_skip rfl (by rfl) ?_); simp only [Act.put, List.setIfInBounds_toArray, List.set_cons_zero, List.set_cons_succ]))
      refine wpSeq_nil ?_
      go_wp2_with fail
      exact ⟨⟨k + 1, by first | rfl | (congr 1), rfl, by omega, HR.out.trans (Same.drew _)⟩, by simp [intOf]; omega⟩
    · have hlt' : ¬ (k : Int) < (n : Int) := by omega
      go_wp2_with fail
      go_ret
      exact ⟨rfl, HR.out⟩
end
abbrev five : Nat := 4617315517961601024
abbrev four : Nat := 4616189618054758400
abbrev twoF : Nat := 4611686018427387904
abbrev one1 : Nat := 4607182418800017408
def z24 : List Nat := List.replicate 24 0
theorem z24_ok : okS z24 := fun x hx => by
  have : x = 0 := (List.mem_replicate.1 hx).2
  exact this ▸ okN_zero
theorem lies16 : Lies 24 1 8 2 16 20 24 := ⟨by decide, by decide, by decide, by decide, by decide, by decide⟩
theorem has16 : Has 2 16 z24 [] := has_new (s := z24) lies16 fun i h1 h2 => by
  unfold z24
  rw [List.getD_eq_getElem?_getD, List.getElem?_replicate]
  split <;> rfl
theorem l4 : ∀ x ∈ [four], x < 18446744073709551616 := by decide
theorem l5 : ∀ x ∈ [five], x < 18446744073709551616 := by decide
structure Aft (s L : List Nat) : Prop where
  len : s.length = 24
  ok : okS s
  has : Has 2 16 s L
theorem X_two : Tr.X 2 = twoF := by decide +kernel
set_option maxHeartbeats 1000000 in
theorem any_run {u : World} {q : Nat → Ptr} {bs co n o : Nat} {po : Option Addr} {F s l L : List Nat} (k : Int) (h1 : 1 ≤ k) (h7 : k ≤ 7) (hT : Shaped5 u) (hq : DqAt u 2 16 q) (hn : l.length = n) (h8 : n ≤ 8) (hl : ∀ x ∈ l, x < 18446744073709551616) (hL : FlAt u po l) (hS : Sx.Cel 98 u bs F s) (hs : Aft s L) {out L' : List Nat} (hf : fullS k L 16 = false) (ho : outS k L 16 (argF l 0) = out) (hx : nxtS k L 16 (argF l 0) = L') (hol : out.length = o) : Calls Tryz.prog 23 #[cfgV 24 1 1024 8, .agg #[.int .i64 (tagS k), .slice (q (k - 1).toNat).p (q (k - 1).toNat).n (q (k - 1).toNat).c], .slice po n co, .pointer (some ⟨bs, 0, none⟩)] u fun r w' => ∃ (s' : List Nat) (p3 : Option Addr) (c3 : Nat) (p4 : Option Addr) (n4 c4 : Nat) (p5 : Option Addr) (n5 c5 : Nat) (us : Int), r = .returned (.tuple #[.agg #[.int .i64 1, .int .i64 0, .int .i64 0, .slice p3 o c3, .slice p4 n4 c4, .slice p5 n5 c5, .int .i64 us], .int .i64 0]) ∧ Hid (((RowAt 74 w' p3 c3 (fls out) ∧ Abv u.heap.size (fpR p3)) ∧ Sx.Cel 98 w' bs F s' ∧ Turn F F u w') ∧ Aft s' L') := by
  have hlt : (k - 1).toNat < 7 := by omega
  have hrow := hq.row _ hlt
  have hlies := lies16
  rw [← hs.len] at hlies
  obtain ⟨hr, r2, _⟩ := kind_ran hlies hs.ok hs.has (all_fine 2 16) (by omega) hl h1 h7
  have hg := hlies.good (l := l) (by omega)
  rw [ho, howS, codS, hf] at hr
  rw [hx] at r2
  replace hr : Ran s (runR 24 1 1024 8 (tagS k) (codeOf 2 16 (k - 1).toNat) l s) 2 20 1 0 out := hr
  replace r2 : Has 2 16 (aftS s (runR 24 1 1024 8 (tagS k) (codeOf 2 16 (k - 1).toNat) l s)) L' := r2
  have hcl := codes_len 2 16 hlt
  refine (run_any (a := 24) (b := 1) (c := 1024) (e := 8) (t := tagS k) (cap := (q (k - 1).toNat).c) (co := co) hT hrow.1.symm hn (hrow.2.code hrow.1.symm) (codes_small 2 16 hlt) hL hl (by omega) hS hs.ok).mono fun r w' ⟨R, q1, q2, q3, q4⟩ => ?_
  have ho := q2.out
  have hao := q2.ao
  unfold resV resC at q1
  have e0 : runE 24 1 1024 8 s.length n = 0 := by unfold runE; rw [← hn, hg]; rfl
  rw [hr.how, hr.cod, hr.err, hr.out, e0, hol] at q1
  rw [hr.out] at ho
  exact ⟨_, _, _, _, _, _, _, _, _, _, q1, ⟨⟨ho, hao⟩, q3, q4⟩, ⟨by rw [aftS_len]; exact hs.len, aftS_ok hs.ok hr.rest, r2⟩⟩
end Go.Proofs.YtaliehikdidiaaaGreatDoor.Dq
namespace Go.Proofs.YtaliehikdidiaaaGreatDoor.Dq
open Go.ChangeShapes Go.WideShapes Go.ChangeAt Go.RowKit Num Go.Maps As
open Go.ChangeMaps Go.MapKept
attribute [local go_sem] run_store_float
theorem config_any (a b c : Int) (w : World) : Calls Tryz.prog 17 #[.int .i64 a, .int .i64 b, .int .i64 c] w fun e w' => e = .returned (cfgV a 1 b c) ∧ Below w.heap.size w w' := by
  go_enter Tryz.func17, Tryz.ntmps17
  go_wp2
  exact bodyPost_ret (results_cell_row rfl _ _ w.heap.size _ _ _ _ rfl (heap_alloc_new w (cfgO a 1 b c)) Tryz.underlying48 rfl (by kernel_rfl)) rfl ⟨rfl, below_alloc w _⟩
theorem cells14 {w : World} {x : Nat} {v0 v1 v2 v3 v4 v5 v6 v7 v8 v9 v10 v11 v12 v13 : Value} {T : TypeId} (h : w.heap[x]? = some (.cells #[v0, v1, v2, v3, v4, v5, v6, v7, v8, v9, v10, v11, v12, v13] T (0, 0))) : w.cell? ⟨x, 0, none⟩ = some v0 ∧ w.cell? ⟨x, 1, none⟩ = some v1 ∧ w.cell? ⟨x, 2, none⟩ = some v2 ∧ w.cell? ⟨x, 3, none⟩ = some v3 ∧ w.cell? ⟨x, 12, none⟩ = some v12 ∧ w.cell? ⟨x, 13, none⟩ = some v13 ∧ x < w.heap.size :=
  ⟨(cell_of_row w x 0 _ _ _ h).trans rfl, (cell_of_row w x 1 _ _ _ h).trans rfl, (cell_of_row w x 2 _ _ _ h).trans rfl, (cell_of_row w x 3 _ _ _ h).trans rfl, (cell_of_row w x 12 _ _ _ h).trans rfl, (cell_of_row w x 13 _ _ _ h).trans rfl, lt_of_block h⟩
theorem fl_one1 (w : World) (x : Nat) : FlAt (w.alloc (.cells #[.float .f64 x] 74)) (some ⟨w.heap.size, 0, none⟩) [x] := fun k hk => by
  have h0 : k = 0 := by simp at hk; exact hk
  subst h0
  exact ⟨_, 0, rfl, by simp, (cell_of_row _ _ _ _ _ _ (heap_alloc_new w _)).trans rfl⟩
theorem fl_two2 (w : World) (x y : Nat) : FlAt (w.alloc (.cells #[.float .f64 x, .float .f64 y] 74)) (some ⟨w.heap.size, 0, none⟩) [x, y] := fun k hk => by
  refine ⟨_, 0, rfl, by simp, ?_⟩
  rw [cell_of_row _ _ _ _ _ _ (heap_alloc_new w _)]
  match k, hk with
  | 0, _ => rfl
  | 1, _ => rfl
  | q + 2, h => exact absurd h (by simp)
theorem fl_one3 (u : World) (o : Obj) (x : Nat) : FlAt ((u.alloc o).alloc (.cells #[.float .f64 x] 74)) (some ⟨u.heap.size + 1, 0, none⟩) [x] := by
  have h := fl_one1 (u.alloc o) x
  rwa [World.size_alloc] at h
theorem two_al (u : World) (o o2 : Obj) : Below u.heap.size u ((u.alloc o).alloc o2) := (below_alloc u _).trans ((below_alloc _ _).mono (by simp))
abbrev tO (q : Nat → Ptr) : Obj := .cells #[.int .i64 2, .slice (q 0).p (q 0).n (q 0).c, .int .i64 2, .slice (q 1).p (q 1).n (q 1).c, .int .i64 2, .slice (q 2).p (q 2).n (q 2).c, .int .i64 2, .slice (q 3).p (q 3).n (q 3).c, .int .i64 1, .slice (q 4).p (q 4).n (q 4).c, .int .i64 1, .slice (q 5).p (q 5).n (q 5).c, .int .i64 1, .slice (q 6).p (q 6).n (q 6).c] 28
theorem keepsT {F F' : List Nat} {u v : World} {g : Nat} {o : Obj} (t : Turn F F' u v) (h : u.heap[g]? = some o) (hn : g ∉ F) : v.heap[g]? = some o := (t.block g (lt_of_block h) hn).trans h
structure Lv (W u1 : World) (q : Nat → Ptr) (b : Nat) (F s : List Nat) (u : World) : Prop where
  b0 : Below W.heap.size W u1
  tq : DqAt u1 2 16 q
  bl : Below u1.heap.size u1 u
  tr : u.heap[u1.heap.size]? = some (tO q)
  cel : Sx.Cel 98 u b F s
  abv : Abv (u1.heap.size + 1) F
section
variable {W u1 u u' : World} {q : Nat → Ptr} {b : Nat} {F s s' : List Nat}
theorem Lv.on (h : Lv W u1 q b F s u) (k : Below u.heap.size u u') : Lv W u1 q b F s u' := ⟨h.b0, h.tq, h.bl.trans (k.mono h.bl.size), (k.block _ (lt_of_block h.tr)).trans h.tr, h.cel.on k, h.abv⟩
theorem Lv.turn (h : Lv W u1 q b F s u) (k : Turn F F u u') (hc : Sx.Cel 98 u' b F s') : Lv W u1 q b F s' u' := ⟨h.b0, h.tq, h.bl.trans (k.below (h.abv.mono (by omega)) h.bl.size), keepsT k h.tr fun hx => by have := h.abv _ hx; omega, hc, h.abv⟩
theorem Lv.bw (h : Lv W u1 q b F s u) : Below W.heap.size W u := h.b0.trans (h.bl.mono h.b0.size)
theorem Lv.rows (h : Lv W u1 q b F s u) : DqAt u 2 16 q := h.tq.on h.bl
theorem Lv.nf (h : Lv W u1 q b F s u) {g : Nat} (hg : u.heap.size ≤ g) : g ∉ F := fun hx => by have := h.cel.blw _ hx; omega
theorem row_keep {a : World} {p : Option Addr} {c : Nat} {l : List Value} {n : Nat} (h : RowAt 74 u p c l) (hA : Abv n (fpR p)) (hF : ∀ x ∈ F, x < n) (k : Below u.heap.size u a) (t : Turn F F a u') : RowAt 74 u' p c l := (h.on k).turn t (abv_blw hA hF)
end
set_option maxHeartbeats 8000000 in
set_option maxRecDepth 100000 in
theorem live_any {W : World} (hT : Shaped5 W) : Calls Tryz.prog 8 #[] W fun e w' => e = .returned (.bool true) ∧ Below W.heap.size W w' := by
  have HSH : Hid (∀ u, Below W.heap.size W u → Shaped5 u) := fun u hb => hT.on hb
  have HM : Hid (Calls Tryz.prog 10 #[.int .i64 2, .int .i64 20] W fun e w' => ∃ q, e = .returned (.tuple #[.agg #[.int .i64 2, .slice (q 0).p (q 0).n (q 0).c, .int .i64 2, .slice (q 1).p (q 1).n (q 1).c, .int .i64 2, .slice (q 2).p (q 2).n (q 2).c, .int .i64 2, .slice (q 3).p (q 3).n (q 3).c, .int .i64 1, .slice (q 4).p (q 4).n (q 4).c, .int .i64 1, .slice (q 5).p (q 5).n (q 5).c, .int .i64 1, .slice (q 6).p (q 6).n (q 6).c], .int .i64 0]) ∧ Hid (DqAt w' 2 16 q ∧ Below W.heap.size W w')) := by
    have h := make_yes hT (b := 2) (c := 20) (by decide) (by decide) (by decide) (by decide)
    rw [show roomV 20 = 16 by decide] at h
    exact h
  have HN : Hid (∀ w : World, Calls Tryz.prog 31 #[.int .i64 24] w fun e w' => ∃ b F, e = .returned (.tuple #[.pointer (some ⟨b, 0, none⟩), .int .i64 0]) ∧ Sx.Cel 98 w' b F z24 ∧ Abv w.heap.size F ∧ Below w.heap.size w w') := fun w => Sx.new_some (n := 24) (by decide) w
  have HC : Hid (∀ w : World, Calls Tryz.prog 17 #[.int .i64 24, .int .i64 1024, .int .i64 8] w fun e w' => e = .returned (cfgV 24 1 1024 8) ∧ Below w.heap.size w w') := fun w => config_any 24 1024 8 w
  clear hT
  go_enter Tryz.func8, Tryz.ntmps8
  go_upto_region 6 with (first
    | (go_at_call 10; refine HM.out.mono ?_; rintro e u1 ⟨q, rfl, K1⟩; clear HM)
    | (go_at_call 31; refine (HN.out _).mono ?_; rintro e u2 ⟨b, F, rfl, q1, q2, q3⟩; have Q2 := Lib.hid (And.intro q1 (And.intro q2 q3)); clear q1 q2 q3)
    | (go_at_call 17; refine (HC.out _).mono ?_; rintro e u3 ⟨rfl, q1⟩; have Q3 := Lib.hid q1; clear q1))
  have L3 : Hid (Lv W u1 q b F z24 u3) := (Lv.on ⟨K1.out.2, K1.out.1, (below_alloc u1 _).trans (Q2.out.2.2.mono (by simp)), (Q2.out.2.2.block _ (by simp)).trans (heap_alloc_new u1 _), Q2.out.1, Q2.out.2.1.mono (by simp)⟩ Q3.out)
  have HR1 : Hid (∀ u s co po, Lv W u1 q b F s u → Aft s [] → FlAt u po [five] → Calls Tryz.prog 23 #[cfgV 24 1 1024 8, .agg #[.int .i64 2, .slice (q 1).p (q 1).n (q 1).c], .slice po 1 co, .pointer (some ⟨b, 0, none⟩)] u fun r w' => ∃ (s' : List Nat) (p3 : Option Addr) (c3 : Nat) (p4 : Option Addr) (n4 c4 : Nat) (p5 : Option Addr) (n5 c5 : Nat) (us : Int), r = .returned (.tuple #[.agg #[.int .i64 1, .int .i64 0, .int .i64 0, .slice p3 1 c3, .slice p4 n4 c4, .slice p5 n5 c5, .int .i64 us], .int .i64 0]) ∧ Hid (((RowAt 74 w' p3 c3 (fls [one1]) ∧ Abv u.heap.size (fpR p3)) ∧ Sx.Cel 98 w' b F s' ∧ Turn F F u w') ∧ Aft s' [five])) := fun u s co po h1 h3 h2 => any_run (l := [five]) 2 (by decide) (by decide) (HSH.out _ h1.bw) h1.rows rfl (by decide) l5 h2 h1.cel h3 (by decide) (congrArg (fun x => [x]) Tr.X_one) rfl rfl
  have HR2 : Hid (∀ u s co po, Lv W u1 q b F s u → Aft s [five] → FlAt u po [four] → Calls Tryz.prog 23 #[cfgV 24 1 1024 8, .agg #[.int .i64 2, .slice (q 0).p (q 0).n (q 0).c], .slice po 1 co, .pointer (some ⟨b, 0, none⟩)] u fun r w' => ∃ (s' : List Nat) (p3 : Option Addr) (c3 : Nat) (p4 : Option Addr) (n4 c4 : Nat) (p5 : Option Addr) (n5 c5 : Nat) (us : Int), r = .returned (.tuple #[.agg #[.int .i64 1, .int .i64 0, .int .i64 0, .slice p3 1 c3, .slice p4 n4 c4, .slice p5 n5 c5, .int .i64 us], .int .i64 0]) ∧ Hid (((RowAt 74 w' p3 c3 (fls [twoF]) ∧ Abv u.heap.size (fpR p3)) ∧ Sx.Cel 98 w' b F s' ∧ Turn F F u w') ∧ Aft s' [four, five])) := fun u s co po h1 h3 h2 => any_run (l := [four]) 1 (by decide) (by decide) (HSH.out _ h1.bw) h1.rows rfl (by decide) l4 h2 h1.cel h3 (by decide) (congrArg (fun x => [x]) X_two) rfl rfl
  have HR3 : Hid (∀ u s co po, Lv W u1 q b F s u → Aft s [four, five] → FlAt u po [] → Calls Tryz.prog 23 #[cfgV 24 1 1024 8, .agg #[.int .i64 1, .slice (q 6).p (q 6).n (q 6).c], .slice po 0 co, .pointer (some ⟨b, 0, none⟩)] u fun r w' => ∃ (s' : List Nat) (p3 : Option Addr) (c3 : Nat) (p4 : Option Addr) (n4 c4 : Nat) (p5 : Option Addr) (n5 c5 : Nat) (us : Int), r = .returned (.tuple #[.agg #[.int .i64 1, .int .i64 0, .int .i64 0, .slice p3 2 c3, .slice p4 n4 c4, .slice p5 n5 c5, .int .i64 us], .int .i64 0]) ∧ Hid (((RowAt 74 w' p3 c3 (fls [four, five]) ∧ Abv u.heap.size (fpR p3)) ∧ Sx.Cel 98 w' b F s' ∧ Turn F F u w') ∧ Aft s' [four, five])) := fun u s co po h1 h3 h2 => any_run (l := []) 7 (by decide) (by decide) (HSH.out _ h1.bw) h1.rows rfl (by decide) (fun x hx => by cases hx) h2 h1.cel h3 (by decide) rfl rfl rfl
  clear HSH K1 Q2 Q3 HN HC
  obtain ⟨t0, t1, t2, t3, t4, t5, t6⟩ := cells14 L3.out.tr
  go_upto_region 7 with (go_at_call 23; refine (HR1.out _ _ 1 (some ⟨u3.heap.size + 1, 0, none⟩) (L3.out.on (two_al u3 _ _)) ⟨by decide, z24_ok, has16⟩ (fl_one3 u3 _ five)).mono ?_; rintro e u4 ⟨s, p3, c3, p4, n4, c4, p5, n5, c5, us, rfl, R1⟩; clear HR1)
  have L4 : Hid (Lv W u1 q b F s u4 ∧ Aft s [five]) := ⟨(L3.out.on (two_al u3 _ _)).turn R1.out.1.2.2 R1.out.1.2.1, R1.out.2⟩
  have hN : Hid (∀ g, u3.heap.size ≤ g → g ∉ F) := fun g hg => L3.out.nf hg
  have hB : Hid (∀ x ∈ F, x < u3.heap.size) := fun x hx => L3.out.cel.blw x hx
  have X4 : Hid (u4.heap[u3.heap.size]? = some (cfgO 24 1 1024 8)) := keepsT R1.out.1.2.2 ((heap_alloc_old _ _ (by simp)).trans (heap_alloc_new u3 _)) (hN.out _ (Nat.le_refl _))
  have S4 := Lib.hid (show u3.heap.size + 2 ≤ u4.heap.size by have := R1.out.1.2.2.size; simp at this; omega)
  have W4 : Hid (RowAt 74 u4 p3 c3 (fls [one1]) ∧ Abv (u3.heap.size + 2) (fpR p3)) := ⟨R1.out.1.1.1, R1.out.1.1.2.mono (by simp)⟩
  clear R1 L3 t0 t1 t2 t3 t4 t5 t6
  obtain ⟨t0, t1, t2, t3, t4, t5, t6⟩ := cells14 L4.out.1.tr
  obtain ⟨x0, x1, x2, x3, x4⟩ := Md.cells4 X4.out
  go_upto_region 8 with (go_at_call 23; refine (HR2.out _ _ 1 (some ⟨u4.heap.size + 1, 0, none⟩) (L4.out.1.on (two_al u4 _ _)) L4.out.2 (fl_one3 u4 _ four)).mono ?_; rintro e u5 ⟨s5, p6, c6, p7, n7, c7, p8, n8, c8, vs, rfl, R2⟩; clear HR2)
  have L5 : Hid (Lv W u1 q b F s5 u5 ∧ Aft s5 [four, five]) := ⟨(L4.out.1.on (two_al u4 _ _)).turn R2.out.1.2.2 R2.out.1.2.1, R2.out.2⟩
  have X5 : Hid (u5.heap[u3.heap.size]? = some (cfgO 24 1 1024 8)) := keepsT R2.out.1.2.2 (((two_al u4 _ _).block _ x4).trans X4.out) (hN.out _ (Nat.le_refl _))
  have Y5 := Lib.hid (keepsT R2.out.1.2.2 ((heap_alloc_old _ _ (by simp)).trans (heap_alloc_new u4 _)) (hN.out u4.heap.size (by have := S4.out; omega)))
  have S5 := Lib.hid (show u4.heap.size + 2 ≤ u5.heap.size by have := R2.out.1.2.2.size; simp at this; omega)
  have W5 : Hid (RowAt 74 u5 p3 c3 (fls [one1])) := row_keep W4.out.1 W4.out.2 (fun x hx => by have := hB.out x hx; omega) (two_al u4 _ _) R2.out.1.2.2
  have V5 : Hid (RowAt 74 u5 p6 c6 (fls [twoF]) ∧ Abv (u4.heap.size + 2) (fpR p6)) := ⟨R2.out.1.1.1, R2.out.1.1.2.mono (by simp)⟩
  clear R2 t0 t1 t2 t3 t4 t5 t6 x0 x1 x2 x3 x4
  obtain ⟨t0, t1, t2, t3, t4, t5, t6⟩ := cells14 L5.out.1.tr
  obtain ⟨x0, x1, x2, x3, x4⟩ := Md.cells4 X5.out
  go_upto_region 9 with (go_at_call 23; refine (HR3.out _ _ 0 none (L5.out.1.on (below_alloc u5 _)) L5.out.2 (fun k hk => absurd hk (Nat.not_lt_zero k))).mono ?_; rintro e u6 ⟨s6, p9, c9, pa, na, ca, pb, nb, cb, ws, rfl, R3⟩; clear HR3)
  have L6 : Hid (Lv W u1 q b F s6 u6) := (L5.out.1.on (below_alloc u5 _)).turn R3.out.1.2.2 R3.out.1.2.1
  have Y6 := Lib.hid (keepsT R3.out.1.2.2 ((heap_alloc_old _ _ (lt_of_block Y5.out)).trans Y5.out) (hN.out u4.heap.size (by have := S4.out; omega)))
  have Z6 := Lib.hid (keepsT R3.out.1.2.2 (heap_alloc_new u5 _) (hN.out u5.heap.size (by have := S4.out; have := S5.out; omega)))
  have W6 : Hid (RowAt 74 u6 p3 c3 (fls [one1])) := row_keep W5.out W4.out.2 (fun x hx => by have := hB.out x hx; omega) (below_alloc u5 _) R3.out.1.2.2
  have V6 : Hid (RowAt 74 u6 p6 c6 (fls [twoF])) := row_keep V5.out.1 V5.out.2 (fun x hx => by have := hB.out x hx; have := S4.out; omega) (below_alloc u5 _) R3.out.1.2.2
  have U6 : Hid (RowAt 74 u6 p9 c9 (fls [four, five])) := R3.out.1.1.1
  clear R3 t0 t1 t2 t3 t4 t5 t6 x0 x1 x2 x3 x4 L4 L5 hN hB X4 X5 W4 W5 V5 S4 S5
  obtain ⟨⟨y0, y1, y2, y3, y4, y5, y6, y7⟩, _⟩ := cells7_of Y6.out
  obtain ⟨⟨z0, z1, z2, z3, z4, z5, z6, z7⟩, _⟩ := cells7_of Z6.out
  clear Y5
  go_wp2_with (first
    | (go_at_call 24; refine (exact_any (l := [four, five]) (n := 2) rfl (by decide) (row_fl ((U6.out.on B8.out).on (below_alloc u8 _))) (fl_two2 u8 four five)).mono ?_; rintro e u9 ⟨rfl, qs⟩; have B9 := Lib.hid (B8.out.trans (((below_alloc u8 (.cells #[.float .f64 four, .float .f64 five] 74)).trans (qs.below _)).mono B8.out.size)); clear qs U6)
    | (go_at_call 24; refine (exact_any (l := [twoF]) (n := 1) rfl (by decide) (row_fl ((V6.out.on B7.out).on (below_alloc u7 _))) (fl_one1 u7 twoF)).mono ?_; rintro e u8 ⟨rfl, qs⟩; have k8 := (below_alloc u7 (.cells #[.float .f64 twoF] 74)).trans (qs.below _); have B8 := Lib.hid (B7.out.trans (k8.mono B7.out.size)); have T8 := Lib.hid ((k8.block _ (lt_of_block T7.out)).trans T7.out); obtain ⟨⟨x0, x1, x2, x3, x4, x5, x6, x7⟩, _⟩ := cells7_of T8.out; clear qs k8 V6)
    | (go_at_call 24; refine (exact_any (l := [one1]) (n := 1) rfl (by decide) (row_fl (W6.out.on (two_al u6 _ _))) (fl_one3 u6 _ one1)).mono ?_; rintro e u7 ⟨rfl, qs⟩; have B7 := Lib.hid ((two_al u6 _ _).trans (qs.below u6.heap.size)); have T7 := Lib.hid ((congrArg (fun h => h[u6.heap.size]?) qs.heap).trans ((heap_alloc_old _ _ (by simp)).trans (heap_alloc_new u6 _))); have Z7 := Lib.hid ((B7.out.block _ z7).trans Z6.out); clear y0 y1 y2 y3 y4 y5 y6 y7 z0 z1 z2 z3 z4 z5 z6 z7; obtain ⟨⟨z0, z1, z2, z3, z4, z5, z6, z7⟩, _⟩ := cells7_of Z7.out; clear qs W6))
  go_ret
  exact ⟨rfl, L6.out.bw.trans (B9.out.mono L6.out.bw.size)⟩
end Go.Proofs.YtaliehikdidiaaaGreatDoor.Dq
namespace Go.Proofs.YtaliehikdidiaaaGreatDoor.Dq
open Go.ChangeShapes Go.WideShapes Go.ChangeAt Go.RowKit Num Go.Maps As
open Go.ChangeMaps Go.MapKept
attribute [local go_sem] run_store_float frombits_run bits_run
theorem int_of {z : Int} (h : (Lit.int .i64 z).wf = true) : -9223372036854775808 ≤ z ∧ z ≤ 9223372036854775807 := by
  simp [Lit.wf, IntKind.min, IntKind.max, IntKind.signed, IntKind.bits] at h
  exact ⟨by omega, by omega⟩
abbrev dequeT (t : Nat → Int) (q : Nat → Ptr) : Value := .agg #[.int .i64 (t 0), .slice (q 0).p (q 0).n (q 0).c, .int .i64 (t 1), .slice (q 1).p (q 1).n (q 1).c, .int .i64 (t 2), .slice (q 2).p (q 2).n (q 2).c, .int .i64 (t 3), .slice (q 3).p (q 3).n (q 3).c, .int .i64 (t 4), .slice (q 4).p (q 4).n (q 4).c, .int .i64 (t 5), .slice (q 5).p (q 5).n (q 5).c, .int .i64 (t 6), .slice (q 6).p (q 6).n (q 6).c]
theorem prog_back {fn : Func} {p r : Tmp} (h : fn.results = #[.cell p 26, .tmp r]) {Q : Ending → World → Prop} {a : Act} {w : World} (g : Nat) (b : Bool) {arr : Array Value} (hp : a.tmps.getD p undef = .pointer (some ⟨g, 0, none⟩)) (hu : a.tmps.getD r undef = .bool b)
    (hg : w.heap[g]? = some (.cells arr 26 (0, 0))) (ha : arr.size = 2) (hd : a.defers = []) (hR : Q (.returned (.tuple #[.agg arr, .bool b])) w) : bodyPost Tryz.prog fn Q .ret a w := by
  refine bodyPost_ret (v := .tuple #[.agg arr, .bool b]) ?_ hd hR
  rw [results_cell_tmp h, hp, hu]
  have hl := run_loadVar_row (P := Tryz.prog) w g 26 26 arr (0, 0) _ hg Tryz.underlying26 rfl (by rw [ha]; kernel_rfl)
  simp [asAddr, hl, Result.andThen]
section
variable {w : World}
theorem two_last (w : World) (o : Obj) (x y : Value) (T : TypeId) : ((w.alloc o).alloc (.cells #[x, y] T)).heap[w.heap.size + 1]? = some (.cells #[x, y] T (0, 0)) := by
  have h := heap_alloc_new (w.alloc o) (.cells #[x, y] T)
  rwa [World.size_alloc] at h
set_option maxRecDepth 100000 in
set_option maxHeartbeats 2000000 in
theorem program_yes (t : Nat → Int) (q : Nat → Ptr) {k : Int} (h1 : 1 ≤ k) (h7 : k ≤ 7) (w : World) : Calls Tryz.prog 13 #[dequeT t q, .int .i64 k] w fun e w' => e = .returned (.tuple #[.agg #[.int .i64 (t (k - 1).toNat), .slice (q (k - 1).toNat).p (q (k - 1).toNat).n (q (k - 1).toNat).c], .bool true]) ∧ Below w.heap.size w w' := by
  have hb := two_al w
  have hl := two_last w
  rcases kinds h1 h7 with rfl | rfl | rfl | rfl | rfl | rfl | rfl
  all_goals
    clear h1 h7
    go_enter Tryz.func13, Tryz.ntmps13
    go_wp2
    refine prog_back rfl (w.heap.size + 1) true rfl rfl (hl ..) rfl rfl ?_
    exact ⟨rfl, hb ..⟩
set_option maxRecDepth 100000 in
set_option maxHeartbeats 2000000 in
theorem program_no (t : Nat → Int) (q : Nat → Ptr) {k : Int} (h : ¬ (1 ≤ k ∧ k ≤ 7)) (w : World) : Calls Tryz.prog 13 #[dequeT t q, .int .i64 k] w fun e w' => e = .returned (.tuple #[.agg #[.int .i64 0, .slice none 0 0], .bool false]) ∧ Below w.heap.size w w' := by
  have hb := two_al w
  have hl := two_last w
  have h1 : (k == 1) = false := by simp; omega
  have h2 : (k == 2) = false := by simp; omega
  have h3 : (k == 3) = false := by simp; omega
  have h4 : (k == 4) = false := by simp; omega
  have h5 : (k == 5) = false := by simp; omega
  have h6 : (k == 6) = false := by simp; omega
  have h7 : (k == 7) = false := by simp; omega
  clear h
  go_enter Tryz.func13, Tryz.ntmps13
  go_wp2
  refine prog_back rfl (w.heap.size + 1) false rfl rfl (hl ..) rfl rfl ?_
  exact ⟨rfl, hb ..⟩
end
abbrev dequeA (q : Nat → Ptr) : Value := .agg #[.int .i64 2, .slice (q 0).p (q 0).n (q 0).c, .int .i64 2, .slice (q 1).p (q 1).n (q 1).c, .int .i64 2, .slice (q 2).p (q 2).n (q 2).c, .int .i64 2, .slice (q 3).p (q 3).n (q 3).c, .int .i64 1, .slice (q 4).p (q 4).n (q 4).c, .int .i64 1, .slice (q 5).p (q 5).n (q 5).c, .int .i64 1, .slice (q 6).p (q 6).n (q 6).c]
def tagN (i : Nat) : Int := [2, 2, 2, 2, 1, 1, 1].getD i 0
theorem tagN_k {k : Int} (h1 : 1 ≤ k) (h7 : k ≤ 7) : tagN (k - 1).toNat = tagS k := by
  rcases kinds h1 h7 with rfl | rfl | rfl | rfl | rfl | rfl | rfl <;> rfl
theorem prog_deque (q : Nat → Ptr) {k : Int} (h1 : 1 ≤ k) (h7 : k ≤ 7) (w : World) : Calls Tryz.prog 13 #[dequeA q, .int .i64 k] w fun e w' => e = .returned (.tuple #[.agg #[.int .i64 (tagS k), .slice (q (k - 1).toNat).p (q (k - 1).toNat).n (q (k - 1).toNat).c], .bool true]) ∧ Below w.heap.size w w' := by
  have h := program_yes tagN q h1 h7 w
  rw [tagN_k h1 h7] at h
  exact h
theorem prog_none (q : Nat → Ptr) {k : Int} (h : ¬ (1 ≤ k ∧ k ≤ 7)) (w : World) : Calls Tryz.prog 13 #[dequeA q, .int .i64 k] w fun e w' => e = .returned (.tuple #[.agg #[.int .i64 0, .slice none 0 0], .bool false]) ∧ Below w.heap.size w w' := program_no tagN q h w
section
variable {w : World}
theorem rroom_any (c : Int) (hc : c ≤ 9223372036854775807) (w : World) : Calls Tryz.prog 9 #[.int .i64 c] w fun e w' => e = .returned (.int .i64 (roomV c)) ∧ w' = w := by
  unfold roomV
  by_cases h : c < 3
  · rw [if_pos h]
    go_enter Tryz.func9, Tryz.ntmps9
    go_wp2
    go_ret
    exact ⟨rfl, rfl⟩
  · rw [if_neg h]
    by_cases h5 : 18 ≤ c
    · rw [if_pos h5]
      go_enter Tryz.func9, Tryz.ntmps9
      go_wp2
      go_ret
      exact ⟨rfl, rfl⟩
    · rw [if_neg h5]
      have h1 : wrap64 (c - 2) = c - 2 := by unfold wrap64; omega
      go_enter Tryz.func9, Tryz.ntmps9
      go_wp2
      go_ret
      exact ⟨rfl, rfl⟩
theorem fits_yes {b c : Int} (h7 : 3 ≤ c) (h0 : 0 ≤ b) (hf : b + c ≤ 256) (w : World) : Calls Tryz.prog 11 #[.int .i64 b, .int .i64 c] w fun e w' => e = .returned (.bool true) ∧ w' = w := by
  have HR := Lib.hid (rroom_any c (by omega) w)
  have hr : 0 < roomV c := by unfold roomV; rw [if_neg (by omega)]; split <;> omega
  generalize roomV c = r at *
  have e2 : wrap64 (256 - c) = 256 - c := by unfold wrap64; omega
  have e1 : b ≤ 256 - c := by omega
  have e3 : c ≤ 256 := by omega
  go_enter Tryz.func11, Tryz.ntmps11
  go_wp2_with (go_at_call 9; refine HR.out.mono ?_; rintro e u ⟨rfl, hu⟩; subst u)
  go_ret
  exact ⟨rfl, rfl⟩
theorem fits_no {b c : Int} (hc : c ≤ 9223372036854775807) (hc0 : -9223372036854775808 ≤ c) (hf : ¬ (3 ≤ c ∧ 0 ≤ b ∧ b + c ≤ 256)) (w : World) : Calls Tryz.prog 11 #[.int .i64 b, .int .i64 c] w fun e w' => e = .returned (.bool false) ∧ w' = w := by
  have HR := Lib.hid (rroom_any c hc w)
  by_cases h7 : c < 3
  · have hr : roomV c = 0 := by unfold roomV; rw [if_pos h7]
    rw [hr] at HR
    clear hf
    go_enter Tryz.func11, Tryz.ntmps11
    go_wp2_with (go_at_call 9; refine HR.out.mono ?_; rintro e u ⟨rfl, hu⟩; subst u)
    go_ret
    exact ⟨rfl, rfl⟩
  · have hr : 0 < roomV c := by unfold roomV; rw [if_neg (by omega)]; split <;> omega
    generalize roomV c = r at *
    by_cases hb : 0 ≤ b
    · by_cases hc2 : c ≤ 256
      · have e2 : wrap64 (256 - c) = 256 - c := by unfold wrap64; omega
        have e1 : ¬ b ≤ 256 - c := by omega
        clear hf h7
        go_enter Tryz.func11, Tryz.ntmps11
        go_wp2_with (go_at_call 9; refine HR.out.mono ?_; rintro e u ⟨rfl, hu⟩; subst u)
        go_ret
        exact ⟨congrArg (fun x => Ending.returned (.bool x)) (decide_eq_false (Int.not_le.2 e1)), rfl⟩
      · clear hf h7
        go_enter Tryz.func11, Tryz.ntmps11
        go_wp2_with (go_at_call 9; refine HR.out.mono ?_; rintro e u ⟨rfl, hu⟩; subst u)
        go_ret
        exact ⟨rfl, rfl⟩
    · clear hf h7
      go_enter Tryz.func11, Tryz.ntmps11
      go_wp2_with (go_at_call 9; refine HR.out.mono ?_; rintro e u ⟨rfl, hu⟩; subst u)
      go_ret
      exact ⟨rfl, rfl⟩
end
theorem make_A {w : World} (hT : Shaped5 w) {b c : Int} (hc : c ≤ 9223372036854775807) (h7 : 3 ≤ c) (h0 : 0 ≤ b) (hf : b + c ≤ 256) : Calls Tryz.prog 10 #[.int .i64 b, .int .i64 c] w fun e w' => ∃ q, e = .returned (.tuple #[dequeA q, .int .i64 0]) ∧ Hid (DqAt w' b (roomV c) q ∧ Below w.heap.size w w') := make_yes hT hc h7 h0 hf
abbrev tZ : Array Value := #[.int .i64 0, .slice none 0 0, .int .i64 0, .slice none 0 0, .int .i64 0, .slice none 0 0, .int .i64 0, .slice none 0 0, .int .i64 0, .slice none 0 0, .int .i64 0, .slice none 0 0, .int .i64 0, .slice none 0 0]
theorem make_Z {w : World} {b c : Int} (hc : c ≤ 9223372036854775807) (hc0 : -9223372036854775808 ≤ c) (hf : ¬ (3 ≤ c ∧ 0 ≤ b ∧ b + c ≤ 256)) : Calls Tryz.prog 10 #[.int .i64 b, .int .i64 c] w fun e w' => e = .returned (.tuple #[.agg tZ, .int .i64 200]) ∧ Below w.heap.size w w' := make_no hc hc0 hf
end Go.Proofs.YtaliehikdidiaaaGreatDoor.Dq
namespace Go.Proofs.YtaliehikdidiaaaGreatDoor.Dq
open Go.ChangeShapes Go.WideShapes Go.ChangeAt Go.RowKit Go.Deep Num
theorem cellsU : Tryz.prog.cellsOf 70 = 1 := by kernel_rfl
theorem cellsN : Tryz.prog.cellsOf 3 = 1 := by kernel_rfl
theorem cellsBo : Tryz.prog.cellsOf 4 = 1 := by kernel_rfl
theorem cellsLU : Tryz.prog.cellsOf 37 = 1 := by kernel_rfl
theorem cellsOp : Tryz.prog.cellsOf 52 = 3 := by kernel_rfl
theorem cellsLO : Tryz.prog.cellsOf 38 = 1 := by kernel_rfl
theorem cellsWd : Tryz.prog.cellsOf 40 = 5 := by kernel_rfl
theorem nat_of_u {z : Int} (h : (Lit.int .u64 z).wf = true) : ∃ n : Nat, z = n ∧ n < 18446744073709551616 := by
  simp [Lit.wf, IntKind.min, IntKind.max, IntKind.signed, IntKind.bits] at h
  exact ⟨z.toNat, by omega, by omega⟩
def BtAt (w : World) (p : Option Addr) (l : List Nat) : Prop := ∀ i, i < l.length → ∃ g o, p = some ⟨g, o, none⟩ ∧ g < w.heap.size ∧ w.cell? ⟨g, o + i, none⟩ = some (.int .u64 ((l.getD i 0 : Nat) : Int))
theorem BtAt.on {w w' : World} {p : Option Addr} {l : List Nat} (h : BtAt w p l) (k : Below w.heap.size w w') : BtAt w' p l := fun i hi => by
  obtain ⟨g, o, h1, h2, h3⟩ := h i hi
  exact ⟨g, o, h1, Nat.lt_of_lt_of_le h2 k.size, (k.cell (p := ⟨g, o + i, none⟩) h2).trans h3⟩
structure Cal where
  k : Int
  o : Bool
  p : Option Addr
  c : Nat
  l : List Nat
def cal0 : Cal := ⟨0, false, none, 0, []⟩
def CalsAt (w : World) (p : Option Addr) (L : List Cal) : Prop := ∀ i, i < L.length → ∃ g o, p = some ⟨g, o, none⟩ ∧ g < w.heap.size ∧ w.cell? ⟨g, o + i * 3, none⟩ = some (.int .i64 (L.getD i cal0).k) ∧ w.cell? ⟨g, o + i * 3 + 1, none⟩ = some (.bool (L.getD i cal0).o) ∧ w.cell? ⟨g, o + i * 3 + 2, none⟩ = some (.slice (L.getD i cal0).p (L.getD i cal0).l.length (L.getD i cal0).c) ∧ BtAt w (L.getD i cal0).p (L.getD i cal0).l
theorem CalsAt.on {w w' : World} {p : Option Addr} {L : List Cal} (h : CalsAt w p L) (k : Below w.heap.size w w') : CalsAt w' p L := fun i hi => by
  obtain ⟨g, o, h1, h2, h3, h4, h5, h6⟩ := h i hi
  exact ⟨g, o, h1, Nat.lt_of_lt_of_le h2 k.size, (k.cell (p := ⟨g, o + i * 3, none⟩) h2).trans h3, (k.cell (p := ⟨g, o + i * 3 + 1, none⟩) h2).trans h4, (k.cell (p := ⟨g, o + i * 3 + 2, none⟩) h2).trans h5, h6.on k⟩
def okC (c : Cal) : Prop := (∀ x ∈ c.l, x < 18446744073709551616) ∧ c.l.length ≤ 9223372036854775807
section
variable {H : Type} {enc : TypeId × Value → H}
set_option maxRecDepth 100000 in
theorem open_bitsT {W : World} {fuel : Nat} {cs : List Value} {x : DataW H × List MemPlace} (hf : DataW.trod enc Tryz.prog W 0 (fun _ => true) true fuel 37 cs = some x) :
    ∃ (ao : Option Addr) (l : List Nat) (cap : Nat), cs = [.slice ao l.length cap] ∧ (∀ y ∈ l, y < 18446744073709551616) ∧ BtAt W ao l ∧ l.length ≤ 9223372036854775807 := by
  rcases open_slice1 Tryz.underlying37 cellsU hf with ⟨hcs, _⟩ | ⟨a, len, cap, m, n, V, D, Pl, hcs, _, hl, hm, hmm, hd, hx⟩
  · exact ⟨none, [], 0, hcs, fun y hy => (by cases hy), fun i hi => absurd hi (Nat.not_lt_zero i), Nat.zero_le _⟩
  · simp only [if_true] at hmm
    obtain ⟨b, off, spot⟩ := a
    have hs : 0 < len → spot = none := by
      intro h0
      obtain ⟨h1, _⟩ := hx 0 (by omega)
      simpa [Addr.add] using World.cell?_spot h1
    have each : ∀ i, i < len → ∃ q : Nat, spot = none ∧ b < W.heap.size ∧ q < 18446744073709551616 ∧ W.cell? ⟨b, off + i, none⟩ = some (.int .u64 ((q : Nat) : Int)) := by
      intro i hi
      obtain ⟨h1, h2⟩ := hx i (by omega)
      obtain ⟨z, e, _, hq⟩ := DataW.trod_int Tryz.underlying70 h2
      obtain ⟨q, rfl, hq2⟩ := nat_of_u hq
      simp at e
      rw [e] at h1
      have hs := hs (by omega)
      subst hs
      rw [Go.WideShapes.add_plain] at h1
      exact ⟨q, rfl, World.block_lt_of_cell? W _ h1, hq2, h1⟩
    obtain ⟨q, hq⟩ := choose_lt each
    have hlen : ((List.range len).map q).length = len := by simp
    have hget : ∀ i, i < len → ((List.range len).map q).getD i 0 = q i := fun i hi => by simp [hi]
    refine ⟨some ⟨b, off, spot⟩, (List.range len).map q, cap, by rw [hlen]; exact hcs, fun y hy => ?_, fun i hi => ?_, by rw [hlen]; exact Nat.le_trans hl hm⟩
    · obtain ⟨j, hj, rfl⟩ := List.mem_map.1 hy
      exact (hq j (List.mem_range.1 hj)).2.2.1
    · rw [hlen] at hi
      obtain ⟨rfl, r1, _, r3⟩ := hq i hi
      exact ⟨b, off, rfl, r1, by rw [hget i hi]; exact r3⟩
set_option maxRecDepth 100000 in
theorem open_cals {W : World} {fuel : Nat} {cs : List Value} {x : DataW H × List MemPlace} (hf : DataW.trod enc Tryz.prog W 0 (fun _ => true) true fuel 38 cs = some x) :
    ∃ (ao : Option Addr) (L : List Cal) (cap : Nat), cs = [.slice ao L.length cap] ∧ (∀ c ∈ L, okC c) ∧ CalsAt W ao L ∧ L.length ≤ 9223372036854775807 := by
  rcases open_slice Tryz.underlying38 hf with ⟨hcs, _⟩ | ⟨a, len, cap, m, n, D, Pl, hcs, _, hl, hm, hmm, hd, hx⟩
  · exact ⟨none, [], 0, hcs, fun i hi => (by cases hi), fun i hi => absurd hi (Nat.not_lt_zero i), Nat.zero_le _⟩
  · simp only [if_true] at hmm
    obtain ⟨b, off, spot⟩ := a
    have hs : 0 < len → spot = none := by
      intro h0
      obtain ⟨cs', h1, _⟩ := hx 0 (by omega)
      rw [cellsOp] at h1
      obtain ⟨_, hlen, hcell⟩ := World.cells?_some h1
      match cs', hlen with
      | [c0, c1, c2], _ =>
        have f0 := hcell 0 (by omega)
        simpa [Addr.add] using World.cell?_spot f0
    have each : ∀ i, i < len → ∃ q : Cal, spot = none ∧ b < W.heap.size ∧ okC q ∧ W.cell? ⟨b, off + i * 3, none⟩ = some (.int .i64 q.k) ∧ W.cell? ⟨b, off + i * 3 + 1, none⟩ = some (.bool q.o) ∧ W.cell? ⟨b, off + i * 3 + 2, none⟩ = some (.slice q.p q.l.length q.c) ∧ BtAt W q.p q.l := by
      intro i hi
      obtain ⟨cs', h1, h2⟩ := hx i (by omega)
      rw [cellsOp] at h1
      obtain ⟨_, hlen, hcell⟩ := World.cells?_some h1
      obtain ⟨xs, k, _, _, _, hxl, hg⟩ := DataW.trod_struct Tryz.underlying52 h2
      match xs, hxl, cs', hlen with
      | [y0, y1, y2], _, [c0, c1, c2], _ =>
        have g0 := hg 0 _ rfl
        have g1 := hg 1 _ rfl
        have g2 := hg 2 _ rfl
        simp [cellsN, cellsBo, cellsLU] at g0 g1 g2
        obtain ⟨x0, e0, _, _⟩ := DataW.trod_int Tryz.underlying3 g0
        obtain ⟨x1, e1, _⟩ := DataW.trod_bool Tryz.underlying4 g1
        obtain ⟨po, l, co, e2, r1, r2, r3⟩ := open_bitsT g2
        simp at e0 e1 e2
        subst e0 e1 e2
        have f0 := hcell 0 (by omega)
        have f1 := hcell 1 (by omega)
        have f2 := hcell 2 (by omega)
        rw [add_add] at f0 f1 f2
        have hspot := hs (by omega)
        subst hspot
        rw [Go.WideShapes.add_plain] at f0 f1 f2
        exact ⟨⟨x0, x1, po, co, l⟩, rfl, World.block_lt_of_cell? W _ f0, ⟨r1, r3⟩, f0, f1, f2, r2⟩
    have : Inhabited Cal := ⟨cal0⟩
    obtain ⟨q, hq⟩ := choose_lt each
    have hcl : ((List.range len).map q).length = len := by simp
    have hget : ∀ i, i < len → ((List.range len).map q).getD i cal0 = q i := fun i hi => by simp [hi]
    refine ⟨some ⟨b, off, spot⟩, (List.range len).map q, cap, by rw [hcl]; exact hcs, fun i hi => ?_, fun i hi => ?_, by rw [hcl]; exact Nat.le_trans hl hm⟩
    · obtain ⟨j, hj, rfl⟩ := List.mem_map.1 hi
      exact (hq j (List.mem_range.1 hj)).2.2.1
    · rw [hcl] at hi
      rw [hget i hi]
      obtain ⟨rfl, h2, _, r⟩ := hq i hi
      exact ⟨b, off, rfl, h2, r⟩
structure Wd where
  B : Int
  C : Int
  M : Int
  pn : Option Addr
  ln : List Nat
  cn : Nat
  pc : Option Addr
  L : List Cal
  cc : Nat
abbrev wdV (d : Wd) : Value := .agg #[.int .i64 d.B, .int .i64 d.C, .int .i64 d.M, .slice d.pn d.ln.length d.cn, .slice d.pc d.L.length d.cc]
structure WdIn (w : World) (d : Wd) : Prop where
  B : -9223372036854775808 ≤ d.B ∧ d.B ≤ 9223372036854775807
  C : -9223372036854775808 ≤ d.C ∧ d.C ≤ 9223372036854775807
  M : -9223372036854775808 ≤ d.M ∧ d.M ≤ 9223372036854775807
  lx : ∀ x ∈ d.ln, x < 18446744073709551616
  ll : d.ln.length ≤ 9223372036854775807
  nz : BtAt w d.pn d.ln
  cx : ∀ c ∈ d.L, okC c
  cl : d.L.length ≤ 9223372036854775807
  cs : CalsAt w d.pc d.L
theorem WdIn.on {w w' : World} {d : Wd} (h : WdIn w d) (k : Below w.heap.size w w') : WdIn w' d := ⟨h.B, h.C, h.M, h.lx, h.ll, h.nz.on k, h.cx, h.cl, h.cs.on k⟩
set_option maxRecDepth 100000 in
theorem open_world {W : World} {base : Nat} {v : Value} {d : DataW H} {ps : List MemPlace} (hval : Value.okWide Tryz.prog W .any base 40 v) (h : DataW.Trod enc Tryz.prog W 0 (fun _ => true) true 40 v d ps) :
    ∃ q : Wd, v = wdV q ∧ WdIn W q := by
  obtain ⟨csv, rfl, hsz⟩ := okWide_struct Tryz.underlying40 hval
  rw [cellsWd] at hsz
  obtain ⟨lv⟩ := csv
  match lv, hsz with
  | [c0, c1, c2, c3, c4], _ =>
    obtain ⟨fuel, hf⟩ := h
    obtain ⟨xs, n, _, _, _, hlen, hg⟩ := DataW.trod_struct Tryz.underlying40 hf
    match xs, hlen with
    | [y0, y1, y2, y3, y4], _ =>
      have g0 := hg 0 _ rfl
      have g1 := hg 1 _ rfl
      have g2 := hg 2 _ rfl
      have g3 := hg 3 _ rfl
      have g4 := hg 4 _ rfl
      simp [cellsN, cellsLU, cellsLO, Value.cells] at g0 g1 g2 g3 g4
      obtain ⟨a0, e0, _, w0⟩ := DataW.trod_int Tryz.underlying3 g0
      obtain ⟨a1, e1, _, w1⟩ := DataW.trod_int Tryz.underlying3 g1
      obtain ⟨a2, e2, _, w2⟩ := DataW.trod_int Tryz.underlying3 g2
      obtain ⟨pn, ln, cn, e3, q1, q2, q3⟩ := open_bitsT g3
      obtain ⟨pc, L, cc, e4, r1, r2, r3⟩ := open_cals g4
      simp at e0 e1 e2 e3 e4
      exact ⟨⟨a0, a1, a2, pn, ln, cn, pc, L, cc⟩, by rw [e0, e1, e2, e3, e4], int_of w0, int_of w1, int_of w2, q1, q3, q2, r1, r3, r2⟩
set_option maxRecDepth 100000 in
theorem open_u64 {W : World} {base : Nat} {v : Value} {d : DataW H} {ps : List MemPlace} (hval : Value.okWide Tryz.prog W .any base 70 v) (h : DataW.Trod enc Tryz.prog W 0 (fun _ => true) true 70 v d ps) : ∃ n : Nat, v = .int .u64 (n : Int) ∧ n < 18446744073709551616 := by
  obtain ⟨n, h1, _, _, h4⟩ := open_int Tryz.underlying70 hval h
  obtain ⟨m, rfl, hm⟩ := nat_of_u h4
  exact ⟨m, h1, hm⟩
end
end Go.Proofs.YtaliehikdidiaaaGreatDoor.Dq
namespace Go.Proofs.YtaliehikdidiaaaGreatDoor.Dq
open Go.ChangeShapes Go.WideShapes Go.ChangeAt Go.RowKit Num Go.Maps As
open Go.ChangeMaps Go.MapKept
attribute [local go_sem] run_store_float frombits_run bits_run
section
variable {w : World}
theorem raw_n (n : Nat) (w : World) : Calls Tryz.prog 30 #[.int .u64 n] w fun e w' => e = .returned (.float .f64 n) ∧ w' = w := by
  go_enter Tryz.func30, Tryz.ntmps30
  go_wp2
  go_ret
  exact ⟨by simp, rfl⟩
structure Grf (B : Nat) (W w : World) (p : Option Addr) (c : Nat) (l : List Nat) : Prop where
  own : w.ownsRow B 74 1 (.slice p l.length c) l.length (fls l)
  below : Below B W w
section
variable {B : Nat} {W w : World} {p : Option Addr} {c : Nat} {l : List Nat}
theorem grf_no (h : Below B W w) : Grf B W w none 0 [] := ⟨World.ownsRow_nil _ _ _ _, h⟩
theorem Grf.app {o : Obj} {w3 : World} {v : Value} {x : Nat} (h : Grf B W w p c l) (hB : B ≤ w.heap.size) (hown : w3.ownsRow B 74 1 v (l.length + 1) (fls l ++ [.float .f64 x])) (hg : (w.alloc o).grownBy w3 (Value.slice p l.length c).ownBlock) : ∃ p' c', v = .slice p' (l.length + 1) c' ∧ Grf B W w3 p' c' (l ++ [x]) := by
  have e : l.length + 1 = (l ++ [x]).length := by simp
  have hown' := hown
  rw [← fls_snoc] at hown'
  obtain ⟨p', c', rfl, hr, ha⟩ := ownsRow_based hown'
  rw [fls_len] at hown' ⊢
  rw [e] at hown' ⊢
  refine ⟨p', c', rfl, hown', ?_⟩
  exact (h.below.alloc hB o).grown hg (by simp; omega) (fun j hj => (h.own.lt j hj).1)
theorem Grf.row (h : Grf B W w p c l) : RowAt 74 w p c (fls l) ∧ Abv B (fpR p) := by
  have q := h.own
  obtain ⟨p', c', e, hr, ha⟩ := ownsRow_based q
  injection e with e1 e2 e3
  subst e1 e3
  exact ⟨hr, ha⟩
theorem Grf.on {w' : World} (h : Grf B W w p c l) (k : Below w.heap.size w w') (hB : B ≤ w.heap.size) : Grf B W w' p c l := by
  refine ⟨⟨h.own.1, ?_⟩, h.below.trans (k.mono hB)⟩
  rcases h.own.2 with q | ⟨g, cap, cur, hv, hb, hg, rest⟩
  · exact .inl q
  · exact .inr ⟨g, cap, cur, hv, hb, (k.block g (lt_of_block hg)).trans hg, rest⟩
end
theorem take_snoc (l : List Nat) (k : Nat) (h : k < l.length) : l.take (k + 1) = l.take k ++ [l.getD k 0] := by
  rw [List.take_succ_eq_append_getElem h]
  simp [h]
set_option maxHeartbeats 2000000 in
set_option maxRecDepth 100000 in
theorem floats_any {p : Option Addr} {n cap : Nat} {l : List Nat} (hn : l.length = n) (h : BtAt w p l) (hm : n ≤ 9223372036854775807) : Calls Tryz.prog 22 #[.slice p n cap] w fun e w' => ∃ q k c, e = .returned (.slice q k c) ∧ Hid (k = min 8 l.length ∧ RowAt 74 w' q c (fls (l.take 8)) ∧ Abv w.heap.size (fpR q) ∧ Below w.heap.size w w') := by
  have HX : Hid (∀ wr, Below w.heap.size w wr → ∀ k, k < n → ∃ g o, p = some ⟨g, o, none⟩ ∧ g < wr.heap.size ∧ wr.cell? ⟨g, o + k, none⟩ = some (.int .u64 ((l.getD k 0 : Nat) : Int))) := fun wr hb k hk => (h.on hb) k (by omega)
  have HT : Hid (∀ k, k < n → l.take (k + 1) = l.take k ++ [l.getD k 0]) := fun k hk => take_snoc l k (by omega)
  have HLN : Hid (l.length = n) := hn
  obtain ⟨i0, hi, hz0, hz1, hz2⟩ := info_parts fInfo
  have HZI := Lib.hid (And.intro hi (And.intro hz0 (And.intro hz1 hz2)))
  have HM := Lib.hid hm
  have hm2 : (n : Int) ≤ 9223372036854775807 := by omega
  clear hi hz0 hz1 hz2 hn h hm
  go_enter Tryz.func22, Tryz.ntmps22
  go_wp2
  go_loopw [3, 4] (fun v vi wr => ∃ (k : Nat) (p' : Option Addr) (c' : Nat), vi = .int .i64 k ∧ v = .slice p' k c' ∧ k ≤ n ∧ k ≤ 8 ∧ Hid (Grf w.heap.size w wr p' c' (l.take k))) (fun _ vi _ => n - (intOf vi).toNat)
  case atStart => exact ⟨0, none, 0, rfl, rfl, Nat.zero_le _, Nat.zero_le _, grf_no (Below.refl _ _)⟩
  case round =>
    obtain ⟨k, p', c', rfl, rfl, hk, hk8, HR⟩ := hrel
    by_cases hlt : k < n
    · by_cases h8 : k < 8
      · have hlt' : (k : Int) < (n : Int) := by omega
        have h8' : (k : Int) < 8 := by omega
        obtain ⟨g, o, hpg, hg, hx⟩ := HX.out _ HR.out.below k hlt
        subst hpg
        have HTK := Lib.hid (HT.out k hlt)
        have HLEN := Lib.hid (show (l.take k).length = k by rw [List.length_take, HLN.out]; omega)
        generalize l.getD k 0 = y at hx HTK
        have HS : Hid (w.heap.size ≤ wr.heap.size) := HR.out.below.size
        have HOW : Hid (wr.ownsRow w.heap.size 74 1 (.slice p' k c') k (fls (l.take k))) := by
          have := HR.out.own
          rw [HLEN.out] at this
          exact this
        clear HX HT
        go_wp2_with (first
          | (go_at_call 30; refine (raw_n _ _).mono ?_; rintro e w' ⟨rfl, hw⟩; subst w')
          | (at_builtin; refine wpList_append_own _ rfl _ _ 44 rfl w.heap.size 74 i0 (.float .f64 0) 1 8 Tryz.underlying44 HZI.out.1 HZI.out.2.1 HZI.out.2.2.1 HZI.out.2.2.2 rfl (by decide) _ k _ rfl (World.ownsRow.alloc HOW.out _) ⟨wr.heap.size, 0, none⟩ 1 1 [.float .f64 y] rfl rfl (cell_one_new _ _ _) (fun u hu => by simp at hu; subst hu; rfl) (by unfold maxLen; omega) (by omega) (by have := HS.out; simp; omega) ?_; intro v3 w3 hown3 hgrow3 hnil3; replace hown3 := Lib.hid hown3; replace hgrow3 := Lib.hid hgrow3; clear hnil3))
        have hap := HR.out.app (o := .cells #[.float .f64 y] 74) (v := v3) (x := y) HS.out (by rw [HLEN.out]; exact hown3.out) (by rw [HLEN.out]; exact hgrow3.out)
        obtain ⟨q2, c2, e2, hap⟩ := hap
        rw [HLEN.out] at e2
        subst e2
        rw [← HTK.out] at hap
        exact ⟨⟨k + 1, q2, c2, by first | rfl | (congr 1), rfl, by omega, by omega, hap⟩, by simp [intOf]; omega⟩
      · have hlt' : (k : Int) < (n : Int) := by omega
        have h8' : ¬ (k : Int) < 8 := by omega
        have e8 : k = 8 := by omega
        have HLEN := Lib.hid (show k = min 8 l.length by rw [HLN.out]; omega)
        have HRR := Lib.hid HR.out.row
        have HBB := Lib.hid HR.out.below
        have HE8 := Lib.hid e8
        clear e8 HR HX HT
        go_wp2
        go_ret
        have hr := HRR.out
        rw [show l.take k = l.take 8 by rw [HE8.out]] at hr
        exact ⟨p', k, c', rfl, HLEN.out, hr.1, hr.2, HBB.out⟩
    · have hlt' : ¬ (k : Int) < (n : Int) := by omega
      have hkn : k = n := by omega
      have HLEN := Lib.hid (show k = min 8 l.length by rw [HLN.out]; omega)
      have HRR := Lib.hid HR.out.row
      have HBB := Lib.hid HR.out.below
      have HE8 := Lib.hid (show l.take k = l.take 8 by rw [List.take_of_length_le (by rw [HLN.out]; omega), List.take_of_length_le (by rw [HLN.out]; omega)])
      clear hkn HR HX HT
      go_wp2
      go_ret
      have hr := HRR.out
      rw [HE8.out] at hr
      exact ⟨p', k, c', rfl, HLEN.out, hr.1, hr.2, HBB.out⟩
def moreV (M : Int) : Int := if M.tmod 4 < 0 then 0 else M.tmod 4
theorem moreV_in (M : Int) : 0 ≤ moreV M ∧ moreV M ≤ 3 := by
  unfold moreV
  have := Int.tmod_lt_of_pos M (b := 4) (by decide)
  split <;> omega
theorem wrap_rem (M : Int) : wrap64 (M.tmod 4) = M.tmod 4 := by
  have := Int.tmod_lt_of_pos M (b := 4) (by decide)
  have := Int.lt_tmod_of_pos M (b := 4) (by decide)
  unfold wrap64
  omega
def totV (d : Wd) (m : Int) : Int := if 256 < d.B + m * d.C + moreV d.M then 256 else d.B + m * d.C + moreV d.M
abbrev wdO (d : Wd) : Obj := .cells #[.int .i64 d.B, .int .i64 d.C, .int .i64 d.M, .slice d.pn d.ln.length d.cn, .slice d.pc d.L.length d.cc] 40
theorem total_any (d : Wd) {m : Int} (hm : m = 1 ∨ m = 2) (hB : 0 ≤ d.B) (hC : 0 ≤ d.C) (hf : d.B + m * d.C ≤ 256) (w : World) : Calls Tryz.prog 18 #[wdV d, .int .i64 m] w fun e w' => e = .returned (.int .i64 (totV d m)) ∧ Below w.heap.size w w' := by
  have h2 := moreV_in d.M
  obtain ⟨B, C, M, pn, ln, cn, pc, L, cc⟩ := d
  simp only at *
  have h1 := wrap_rem M
  obtain ⟨p, hp⟩ : ∃ p, m * C = p := ⟨_, rfl⟩
  have h0 : 0 ≤ p := by rcases hm with rfl | rfl <;> omega
  obtain ⟨t, ht⟩ : ∃ t, totV ⟨B, C, M, pn, ln, cn, pc, L, cc⟩ m = t := ⟨_, rfl⟩
  rw [ht]
  unfold totV at ht
  simp only at ht
  rw [hp] at ht hf
  have h3 : wrap64 p = p := by unfold wrap64; omega
  have h4 : wrap64 (B + p) = B + p := by unfold wrap64; omega
  obtain ⟨r, hr⟩ : ∃ r, M.tmod 4 = r := ⟨_, rfl⟩
  rw [hr] at h1
  by_cases g : r < 0
  · have e : moreV M = 0 := by unfold moreV; rw [hr, if_pos g]
    rw [e, if_neg (by omega)] at ht
    rw [Int.add_zero] at ht
    have h6 : ¬ 256 < B + p := by omega
    subst ht
    clear hm hB hC hf h2 e h0
    go_enter Tryz.func18, Tryz.ntmps18
    go_wp2
    go_ret
    exact ⟨rfl, below_alloc _ _⟩
  · have e : moreV M = r := by unfold moreV; rw [hr, if_neg g]
    rw [e] at ht h2
    have h5 : wrap64 (B + p + r) = B + p + r := by unfold wrap64; omega
    by_cases h6 : 256 < B + p + r
    · rw [if_pos h6] at ht
      subst ht
      clear hm hB hC hf h2 e h0
      go_enter Tryz.func18, Tryz.ntmps18
      go_wp2
      go_ret
      exact ⟨rfl, below_alloc _ _⟩
    · rw [if_neg h6] at ht
      subst ht
      clear hm hB hC hf h2 e h0
      go_enter Tryz.func18, Tryz.ntmps18
      go_wp2
      go_ret
      exact ⟨rfl, below_alloc _ _⟩
end
end Go.Proofs.YtaliehikdidiaaaGreatDoor.Dq
namespace Go.Proofs.YtaliehikdidiaaaGreatDoor.Dq
open Go.ChangeShapes Go.WideShapes Go.ChangeAt Go.RowKit Num Go.Maps As
open Go.ChangeMaps Go.MapKept
attribute [local go_sem] run_store_float frombits_run bits_run
def sB (d : Wd) (m : Int) (i : Nat) : Nat := if ((i : Int) < d.B ∨ d.B + m * d.C ≤ (i : Int)) ∧ 0 < d.ln.length then d.ln.getD (i % d.ln.length) 0 else 0
def lB (d : Wd) (m : Int) : List Nat := (List.range (totV d m).toNat).map (sB d m)
theorem lB_len (d : Wd) (m : Int) : (lB d m).length = (totV d m).toNat := by simp [lB]
theorem lB_take (d : Wd) (m : Int) (k : Nat) (h : k < (totV d m).toNat) : (lB d m).take (k + 1) = (lB d m).take k ++ [sB d m k] := by
  have h2 : k < (lB d m).length := by rw [lB_len]; exact h
  rw [take_snoc _ _ h2]
  congr 2
  simp [lB, h]
theorem lB_at (d : Wd) (m : Int) (k : Nat) (h : k < (totV d m).toNat) : (lB d m).getD k 0 = sB d m k := by simp [lB, h]
theorem owns_drew {B : Nat} {E : TypeId} {s : Nat} {w : World} {v : Value} {n : Nat} {xs : List Value} (h : w.ownsRow B E s v n xs) : w.drew.ownsRow B E s v n xs := h
section
variable {w : World}
set_option maxHeartbeats 4000000 in
set_option maxRecDepth 100000 in
theorem begins_any {d : Wd} (h : WdIn w d) {m : Int} (hm : m = 1 ∨ m = 2) (hB : 0 ≤ d.B) (hC : 1 ≤ d.C) (hf : d.B + m * d.C ≤ 256) : Calls Tryz.prog 16 #[wdV d, .int .i64 m] w fun e w' => ∃ b F, e = .returned (.pointer (some ⟨b, 0, none⟩)) ∧ Hid (Sx.Cel 98 w' b F ((lB d m).map fixB) ∧ Abv w.heap.size F ∧ Below w.heap.size w w') := by
  have HTOT := Lib.hid (total_any d hm hB (by omega) hf)
  have htk : Hid (∀ k, k < (totV d m).toNat → (lB d m).take (k + 1) = (lB d m).take k ++ [sB d m k]) := fun k hk => lB_take d m k hk
  have htl : Hid ((lB d m).take (totV d m).toNat = lB d m) := by show _ = _; rw [List.take_of_length_le (by rw [lB_len]; exact Nat.le_refl _)]
  have hll : Hid ((lB d m).length = (totV d m).toNat) := lB_len d m
  have hsb : Hid (∀ k, sB d m k = if ((k : Int) < d.B ∨ d.B + m * d.C ≤ (k : Int)) ∧ 0 < d.ln.length then d.ln.getD (k % d.ln.length) 0 else 0) := fun k => rfl
  have h2 := moreV_in d.M
  have htv : 1 ≤ totV d m ∧ totV d m ≤ 256 := by
    unfold totV
    have : 1 ≤ m * d.C := by rcases hm with rfl | rfl <;> omega
    split <;> omega
  have HN1 := Lib.hid h.nz
  have HLL := Lib.hid h.ll
  have h0 : 1 ≤ m * d.C := by rcases hm with rfl | rfl <;> omega
  obtain ⟨B, C, M, pn, ln, cn, pc, L, cc⟩ := d
  simp only at *
  generalize lB _ m = l at *
  generalize sB _ m = f at *
  generalize totV _ m = t at *
  obtain ⟨n, rfl⟩ : ∃ n : Nat, t = (n : Int) := ⟨t.toNat, by omega⟩
  rw [Int.toNat_natCast] at *
  obtain ⟨p, hp⟩ : ∃ p, m * C = p := ⟨_, rfl⟩
  have H3 : Hid (wrap64 (m * C) = p) := by show _ = _; rw [hp]; unfold wrap64; omega
  have H4 : Hid (wrap64 (B + p) = B + p) := by show _ = _; rw [← hp]; unfold wrap64; omega
  rw [hp] at hsb hf h0
  obtain ⟨i0, hi, hz0, hz1, hz2⟩ := info_parts fInfo
  have HZI := Lib.hid (And.intro hi (And.intro hz0 (And.intro hz1 hz2)))
  have HX : Hid (∀ wr, Below (w.alloc (.cells #[.int .i64 B, .int .i64 C, .int .i64 M, .slice pn ln.length cn, .slice pc L.length cc] 40)).heap.size (w.alloc (.cells #[.int .i64 B, .int .i64 C, .int .i64 M, .slice pn ln.length cn, .slice pc L.length cc] 40)) wr → wr.cell? ⟨w.heap.size, 0, none⟩ = some (.int .i64 B) ∧ wr.cell? ⟨w.heap.size, 1, none⟩ = some (.int .i64 C) ∧ wr.cell? ⟨w.heap.size, 3, none⟩ = some (.slice pn ln.length cn) ∧ w.heap.size < wr.heap.size) := fun wr k => by
    have hb := (k.block w.heap.size (by simp)).trans (heap_alloc_new w _)
    exact ⟨(cell_of_row _ _ 0 _ _ _ hb).trans rfl, (cell_of_row _ _ 1 _ _ _ hb).trans rfl, (cell_of_row _ _ 3 _ _ _ hb).trans rfl, lt_of_block hb⟩
  clear hi hz0 hz1 hz2 h hp
  go_enter Tryz.func16, Tryz.ntmps16
  go_upto_region 2 with (go_at_call 18; refine (HTOT.out _).mono ?_; rintro e u0 ⟨rfl, HU⟩; have HU := Lib.hid HU)
  obtain ⟨u1, hu1⟩ : ∃ u1, u1 = w.alloc (.cells #[.int .i64 B, .int .i64 C, .int .i64 M, .slice pn ln.length cn, .slice pc L.length cc] 40) := ⟨_, rfl⟩
  have HW1 : Hid (Below w.heap.size w u1 ∧ Below u1.heap.size u1 u0 ∧ u1.heap.size = w.heap.size + 1) := by rw [hu1]; exact ⟨below_alloc _ _, HU.out, by simp⟩
  rw [← hu1] at HX
  clear HU hu1
  go_wp2_with fail
  go_loopw [6, 7] (fun v vi wr => ∃ (k : Nat) (p' : Option Addr) (c' : Nat), vi = .int .i64 k ∧ v = .slice p' k c' ∧ k ≤ n ∧ Hid (Grf u1.heap.size u1 wr p' c' (l.take k))) (fun _ vi _ => n - (intOf vi).toNat)
  case atStart => exact ⟨0, none, 0, rfl, rfl, Nat.zero_le _, grf_no HW1.out.2.1⟩
  case round =>
    obtain ⟨k, p', c', rfl, rfl, hk, HR⟩ := hrel
    have HB : Hid (u1.heap.size ≤ wr.heap.size) := HR.out.below.size
    obtain ⟨x0, x1, x3, x4⟩ := HX.out wr HR.out.below
    by_cases hlt : k < n
    · have hlt' : (k : Int) < (n : Int) := by omega
      have HLEN := Lib.hid (show (l.take k).length = k by rw [List.length_take, hll.out]; omega)
      obtain ⟨y, hy⟩ : ∃ y, f k = y := ⟨_, rfl⟩
      have HTK := Lib.hid (htk.out k hlt)
      rw [hy] at HTK
      have hfk := hsb.out k
      rw [hy] at hfk
      have HOW : Hid (wr.ownsRow u1.heap.size 74 1 (.slice p' k c') k (fls (l.take k))) := by
        have := HR.out.own
        rw [HLEN.out] at this
        exact this
      have h3 := H3.out
      have h4 := H4.out
      by_cases ho : ((k : Int) < B ∨ B + p ≤ (k : Int)) ∧ 0 < ln.length
      · rw [if_pos ho] at hfk
        have hl1 : (0 : Int) < (ln.length : Int) := by omega
        have hl2 : ¬ (ln.length : Int) = 0 := by omega
        have hml : k % ln.length < ln.length := Nat.mod_lt _ ho.2
        obtain ⟨g, o, rfl, hg, hcell⟩ := (HN1.out.on (HW1.out.1.trans (HR.out.below.mono HW1.out.1.size))) (k % ln.length) hml
        rw [← hfk] at hcell
        have hrem : (k : Int).tmod (ln.length : Int) = ((k % ln.length : Nat) : Int) := by rw [Int.tmod_eq_emod_of_nonneg (by omega)]; rfl
        obtain ⟨j, hj⟩ : ∃ j, k % ln.length = j := ⟨_, rfl⟩
        rw [hj] at hrem hcell hml
        have hbd : (j : Int) ≤ 9223372036854775807 := by have := HLL.out; omega
        have HHO := ho.1
        clear ho hfk HTOT hy htk htl hsb hll H3 H4 hj
        have HL1 : Hid (ln.length = ln.length) := rfl
        generalize ln.length = z at *
        have hl3 : ¬ z = 0 := by omega
        clear HL1
        rcases HHO with hc | hc
        all_goals go_upto_region 8 with fail
        all_goals refine wp_region_seq (fun u => u.cell? ⟨w.heap.size, 3, none⟩ = some (.slice (some ⟨g, o, none⟩) z cn) ∧ u.cell? ⟨g, o + j, none⟩ = some (.int .u64 (y : Int))) ((0, true) :: (1, true) :: (2, true) :: (3, true) :: (4, true) :: (5, true) :: (6, true) :: (7, true) :: (8, true) :: (9, false) :: (10, true) :: []) follows (by kernel_rfl) (fun _ _ _ _ _ h => h) ⟨x3, hcell⟩ ?_
        all_goals (repeat ((first | (refine wpSeq_take (v := ?_) rfl (by rfl) (fun wq hSq => ?_) ?_; rotate_left; (focus ((try dsimp only at hSq); go_simp; try with_reducible rfl))) | refine wpSeq_skip rfl (by rfl) ?_); simp only [Act.put, List.setIfInBounds_toArray, List.set_cons_zero, List.set_cons_succ]))
        all_goals (refine wpSeq_do rfl (by rfl) (fun KK hK => ?_); go_simp)
        all_goals refine (raw_n _ _).mono ?_
        all_goals rintro e w5 ⟨rfl, hw5⟩
        all_goals subst w5
        all_goals refine hK.out _ _ ⟨x3, hcell⟩ ?_
        all_goals (clear hK KK; try simp only [Act.put, List.setIfInBounds_toArray, List.set_cons_zero, List.set_cons_succ])
        all_goals (repeat ((first | (refine wpSeq_take (v := ?_) rfl (by rfl) (fun wq hSq => ?_) ?_; rotate_left; (focus ((try dsimp only at hSq); go_simp; try with_reducible rfl))) | refine wpSeq_skip rfl (by rfl) ?_); simp only [Act.put, List.setIfInBounds_toArray, List.set_cons_zero, List.set_cons_succ]))
        all_goals refine wpSeq_nil ?_
        all_goals go_wp2_with (at_builtin; refine wpList_append_own _ rfl _ _ 44 rfl u1.heap.size 74 i0 (.float .f64 0) 1 8 Tryz.underlying44 HZI.out.1 HZI.out.2.1 HZI.out.2.2.1 HZI.out.2.2.2 rfl (by decide) _ k _ rfl (World.ownsRow.alloc (owns_drew HOW.out) _) ⟨wr.heap.size, 0, none⟩ 1 1 [.float .f64 y] rfl rfl (cell_one_new _ _ _) (fun u hu => by simp at hu; subst hu; rfl) (by unfold maxLen; omega) (by omega) (by have := HB.out; simp; omega) ?_; intro v3 w3 hown3 hgrow3 hnil3; replace hown3 := Lib.hid hown3; replace hgrow3 := Lib.hid hgrow3; clear hnil3)
        all_goals obtain ⟨q2, c2, e2, hap⟩ := (HR.out.on ((Same.drew wr).below _) HB.out).app (o := .cells #[.float .f64 y] 74) (v := v3) (x := y) HB.out (by rw [HLEN.out]; exact hown3.out) (by rw [HLEN.out]; exact hgrow3.out)
        all_goals rw [HLEN.out] at e2
        all_goals subst e2
        all_goals rw [← HTK.out] at hap
        all_goals exact ⟨⟨k + 1, q2, c2, by first | rfl | (congr 1), rfl, by omega, hap⟩, by simp [intOf]; omega⟩
      · rw [if_neg ho] at hfk
        subst hfk
        have hc : ¬ (k : Int) < B ∧ ¬ B + p ≤ (k : Int) ∨ ¬ (0 : Int) < (ln.length : Int) := by omega
        clear ho HTOT hy htk htl hsb hll H3 H4
        rcases hc with ⟨hc1, hc2⟩ | hc
        · go_wp2_with (at_builtin; refine wpList_append_own _ rfl _ _ 44 rfl u1.heap.size 74 i0 (.float .f64 0) 1 8 Tryz.underlying44 HZI.out.1 HZI.out.2.1 HZI.out.2.2.1 HZI.out.2.2.2 rfl (by decide) _ k _ rfl (World.ownsRow.alloc HOW.out _) ⟨wr.heap.size, 0, none⟩ 1 1 [.float .f64 0] rfl rfl (cell_one_new _ _ _) (fun u hu => by simp at hu; subst hu; rfl) (by unfold maxLen; omega) (by omega) (by have := HB.out; simp; omega) ?_; intro v3 w3 hown3 hgrow3 hnil3; replace hown3 := Lib.hid hown3; replace hgrow3 := Lib.hid hgrow3; clear hnil3)
          obtain ⟨q2, c2, e2, hap⟩ := HR.out.app (o := .cells #[.float .f64 0] 74) (v := v3) (x := 0) HB.out (by rw [HLEN.out]; exact hown3.out) (by rw [HLEN.out]; exact hgrow3.out)
          rw [HLEN.out] at e2
          subst e2
          rw [← HTK.out] at hap
          first | exact ⟨⟨k + 1, q2, c2, by first | rfl | (congr 1), rfl, by omega, hap⟩, by simp [intOf]; omega⟩ | exact ⟨⟨k + 1, by omega, ⟨q2, c2, rfl, by omega, hap⟩⟩, by simp [intOf]; omega⟩
        · have hc0 : ln.length = 0 := by omega
          by_cases hc1 : (k : Int) < B ∨ B + p ≤ (k : Int)
          · rcases hc1 with hc1 | hc1
            · go_wp2_with (at_builtin; refine wpList_append_own _ rfl _ _ 44 rfl u1.heap.size 74 i0 (.float .f64 0) 1 8 Tryz.underlying44 HZI.out.1 HZI.out.2.1 HZI.out.2.2.1 HZI.out.2.2.2 rfl (by decide) _ k _ rfl (World.ownsRow.alloc HOW.out _) ⟨wr.heap.size, 0, none⟩ 1 1 [.float .f64 0] rfl rfl (cell_one_new _ _ _) (fun u hu => by simp at hu; subst hu; rfl) (by unfold maxLen; omega) (by omega) (by have := HB.out; simp; omega) ?_; intro v3 w3 hown3 hgrow3 hnil3; replace hown3 := Lib.hid hown3; replace hgrow3 := Lib.hid hgrow3; clear hnil3)
              obtain ⟨q2, c2, e2, hap⟩ := HR.out.app (o := .cells #[.float .f64 0] 74) (v := v3) (x := 0) HB.out (by rw [HLEN.out]; exact hown3.out) (by rw [HLEN.out]; exact hgrow3.out)
              rw [HLEN.out] at e2
              subst e2
              rw [← HTK.out] at hap
              first | exact ⟨⟨k + 1, q2, c2, by first | rfl | (congr 1), rfl, by omega, hap⟩, by simp [intOf]; omega⟩ | exact ⟨⟨k + 1, by omega, ⟨q2, c2, rfl, by omega, hap⟩⟩, by simp [intOf]; omega⟩
            · go_wp2_with (at_builtin; refine wpList_append_own _ rfl _ _ 44 rfl u1.heap.size 74 i0 (.float .f64 0) 1 8 Tryz.underlying44 HZI.out.1 HZI.out.2.1 HZI.out.2.2.1 HZI.out.2.2.2 rfl (by decide) _ k _ rfl (World.ownsRow.alloc HOW.out _) ⟨wr.heap.size, 0, none⟩ 1 1 [.float .f64 0] rfl rfl (cell_one_new _ _ _) (fun u hu => by simp at hu; subst hu; rfl) (by unfold maxLen; omega) (by omega) (by have := HB.out; simp; omega) ?_; intro v3 w3 hown3 hgrow3 hnil3; replace hown3 := Lib.hid hown3; replace hgrow3 := Lib.hid hgrow3; clear hnil3)
              obtain ⟨q2, c2, e2, hap⟩ := HR.out.app (o := .cells #[.float .f64 0] 74) (v := v3) (x := 0) HB.out (by rw [HLEN.out]; exact hown3.out) (by rw [HLEN.out]; exact hgrow3.out)
              rw [HLEN.out] at e2
              subst e2
              rw [← HTK.out] at hap
              first | exact ⟨⟨k + 1, q2, c2, by first | rfl | (congr 1), rfl, by omega, hap⟩, by simp [intOf]; omega⟩ | exact ⟨⟨k + 1, by omega, ⟨q2, c2, rfl, by omega, hap⟩⟩, by simp [intOf]; omega⟩
          · have hc2 : ¬ (k : Int) < B ∧ ¬ B + p ≤ (k : Int) := by omega
            obtain ⟨hc3, hc4⟩ := hc2
            go_wp2_with (at_builtin; refine wpList_append_own _ rfl _ _ 44 rfl u1.heap.size 74 i0 (.float .f64 0) 1 8 Tryz.underlying44 HZI.out.1 HZI.out.2.1 HZI.out.2.2.1 HZI.out.2.2.2 rfl (by decide) _ k _ rfl (World.ownsRow.alloc HOW.out _) ⟨wr.heap.size, 0, none⟩ 1 1 [.float .f64 0] rfl rfl (cell_one_new _ _ _) (fun u hu => by simp at hu; subst hu; rfl) (by unfold maxLen; omega) (by omega) (by have := HB.out; simp; omega) ?_; intro v3 w3 hown3 hgrow3 hnil3; replace hown3 := Lib.hid hown3; replace hgrow3 := Lib.hid hgrow3; clear hnil3)
            obtain ⟨q2, c2, e2, hap⟩ := HR.out.app (o := .cells #[.float .f64 0] 74) (v := v3) (x := 0) HB.out (by rw [HLEN.out]; exact hown3.out) (by rw [HLEN.out]; exact hgrow3.out)
            rw [HLEN.out] at e2
            subst e2
            rw [← HTK.out] at hap
            first | exact ⟨⟨k + 1, q2, c2, by first | rfl | (congr 1), rfl, by omega, hap⟩, by simp [intOf]; omega⟩ | exact ⟨⟨k + 1, by omega, ⟨q2, c2, rfl, by omega, hap⟩⟩, by simp [intOf]; omega⟩
    · have hlt' : ¬ (k : Int) < (n : Int) := by omega
      obtain rfl : k = n := by omega
      have HRR := HR.out.row
      rw [htl.out] at HRR
      have hmay : Sx.mayN ((l.length : Nat) : Int) = true := by unfold Sx.mayN; rw [hll.out, decide_eq_true (by omega), decide_eq_true (by omega)]; rfl
      have HOF := Sx.of_some HRR.1 hmay
      rw [hll.out] at HOF
      have HOF := Lib.hid HOF
      have HBL := Lib.hid HR.out.below
      clear HRR hmay HTOT htk htl hsb hll H3 H4 HR
      go_wp2_with (go_at_call 42; refine HOF.out.mono ?_; rintro e u2 ⟨b, F, rfl, q1, q2, q3⟩; have HQ := Lib.hid (And.intro q1 (And.intro q2 q3)); clear q1 q2 q3)
      go_ret
      exact ⟨b, F, rfl, HQ.out.1, HQ.out.2.1.mono (by have := HBL.out.size; have := HW1.out.1.size; omega), (HW1.out.1.trans (HBL.out.mono HW1.out.1.size)).trans (HQ.out.2.2.mono (by have := HBL.out.size; have := HW1.out.1.size; omega))⟩
end
end Go.Proofs.YtaliehikdidiaaaGreatDoor.Dq
namespace Go.Proofs.YtaliehikdidiaaaGreatDoor.Dq
open Go.ChangeShapes Go.WideShapes Go.ChangeAt Go.RowKit Num Go.Maps As
open Go.ChangeMaps Go.MapKept
attribute [local go_sem] run_store_float frombits_run bits_run
end Go.Proofs.YtaliehikdidiaaaGreatDoor.Dq
namespace Go.Proofs.YtaliehikdidiaaaGreatDoor.Dq
open Go.ChangeShapes Go.WideShapes Go.ChangeAt Go.RowKit Num Go.Maps As
open Go.ChangeMaps Go.MapKept
attribute [local go_sem] run_store_float frombits_run bits_run
theorem cel_blk {w : World} {b : Nat} {F l : List Nat} (h : Sx.Cel 98 w b F l) {k : Nat} (hk : k ∈ F) : ∃ (arr : Array Value) (T : TypeId), w.heap[k]? = some (.cells arr T (0, 0)) ∧ (T = 98 ∨ T = 74) := by
  obtain ⟨p, c, h, rfl⟩ := h
  rcases List.mem_cons.1 hk with rfl | hk
  · exact ⟨_, _, h.box, .inl rfl⟩
  · rcases h.row.own.2 with ⟨q, _⟩ | ⟨g, cap, cur, hv, hb, hg, rest⟩
    · injection q with q1
      subst q1
      simp [fpR] at hk
    · cases hv
      obtain rfl : k = g := by simpa [fpR] using hk
      exact ⟨_, _, hg, .inr rfl⟩
theorem cel_no {w : World} {b : Nat} {F l : List Nat} (h : Sx.Cel 98 w b F l) {g : Nat} {arr : Array Value} {T : TypeId} {x : Nat × Nat} (hg : w.heap[g]? = some (.cells arr T x)) (h1 : (T == 98) = false) (h2 : (T == 74) = false) : g ∉ F := fun hk => by
  obtain ⟨arr', T', h3, h4⟩ := cel_blk h hk
  rw [hg] at h3
  injection h3 with h3
  injection h3 with _ h5
  subst h5
  rcases h4 with rfl | rfl
  · simp at h1
  · simp at h2
theorem DqAt.turn {w w' : World} {B R : Int} {q : Nat → Ptr} {b : Nat} {F F' l : List Nat} (h : DqAt w B R q) (hS : Sx.Cel 98 w b F l) (t : Turn F F' w w') : DqAt w' B R q := ⟨fun i hi => by
  have hr := h.row i hi
  refine ⟨hr.1, hr.2.keep (t.kept (fun k hk => ?_) hr.2.blw)⟩
  obtain ⟨arr, e⟩ := hr.2.blk hk
  exact cel_no hS e (by decide) (by decide)⟩
structure TW (W w : World) (q : Nat → Ptr) (b : Nat) (F s : List Nat) (a : Int) (B R cells : Nat) (L : List Nat) : Prop where
  sh : Shaped5 W
  bl : Below W.heap.size W w
  ab : Abv W.heap.size F
  tr : DqAt w B R q
  cel : Sx.Cel 98 w b F s
  ok : okS s
  has : Has B R s L
  lies : Lies a 1 8 B R cells s.length
section
variable {W w w' : World} {q : Nat → Ptr} {b : Nat} {F s : List Nat} {a : Int} {B R cells : Nat} {L : List Nat}
theorem TW.on (h : TW W w q b F s a B R cells L) (k : Below w.heap.size w w') : TW W w' q b F s a B R cells L := ⟨h.sh, h.bl.trans (k.mono h.bl.size), h.ab, h.tr.on k, h.cel.on k, h.ok, h.has, h.lies⟩
theorem TW.keep (h : TW W w q b F s a B R cells L) (t : Turn F F w w') {g : Nat} {arr : Array Value} {T : TypeId} {x : Nat × Nat} (hg : w.heap[g]? = some (.cells arr T x)) (h1 : (T == 98) = false) (h2 : (T == 74) = false) : w'.heap[g]? = some (.cells arr T x) := (t.block g (lt_of_block hg) (cel_no h.cel hg h1 h2)).trans hg
def mR (a : Int) (B R : Nat) (k : Int) (l s : List Nat) : Mac := runR a 1 1024 8 (tagS k) (codeOf B R (k - 1).toNat) l s
theorem TW.run (h : TW W w q b F s a B R cells L) {k : Int} (h1 : 1 ≤ k) (h7 : k ≤ 7) {po : Option Addr} {n co : Nat} {l : List Nat} (hn : l.length = n) (h8 : n ≤ 8) (hl : ∀ x ∈ l, x < 18446744073709551616) (hL : FlAt w po l) :
    Calls Tryz.prog 23 #[cfgV a 1 1024 8, .agg #[.int .i64 (tagS k), .slice (q (k - 1).toNat).p (q (k - 1).toNat).n (q (k - 1).toNat).c], .slice po n co, .pointer (some ⟨b, 0, none⟩)] w fun r w' => ∃ Rr m, r = .returned (.tuple #[resV Rr m, .int .i64 0]) ∧ Hid (m = mR a B R k l s ∧ ResAt w' w.heap.size Rr m ∧ TW W w' q b F (aftS s m) a B R cells (nxtS k L R (argF l 0)) ∧ Turn F F w w' ∧ Ran s m B cells (howS k L R) (codS k L R) (outS k L R (argF l 0)) ∧ Outside s (aftS s m) B cells) := by
  have hlt : (k - 1).toNat < 7 := by omega
  have hr := h.tr.row _ hlt
  obtain ⟨k1, k2, k3⟩ := kind_ran h.lies h.ok h.has (all_fine B R) (by omega) hl h1 h7
  refine (run_any (a := a) (b := 1) (c := 1024) (e := 8) (t := tagS k) (cap := (q (k - 1).toNat).c) (co := co) (h.sh.on h.bl) hr.1.symm hn (hr.2.code hr.1.symm) (codes_small B R hlt) hL hl (by rw [hr.1]; exact Nat.le_trans (codes_len B R hlt) (by decide)) h.cel h.ok).mono fun r w' ⟨Rr, q1, q2, q3, q4⟩ => ?_
  have e0 : runE a 1 1024 8 s.length n = 0 := by unfold runE; rw [← hn, h.lies.good (by omega)]; rfl
  rw [e0] at q1
  have hq2 := h.bl.trans (q4.below h.ab h.bl.size)
  exact ⟨Rr, _, q1, rfl, q2, ⟨h.sh, hq2, h.ab, h.tr.turn h.cel q4, q3, aftS_ok h.ok k1.rest, k2, by rw [k3.1]; exact h.lies⟩, q4, k1, k3⟩
end
end Go.Proofs.YtaliehikdidiaaaGreatDoor.Dq
namespace Go.Proofs.YtaliehikdidiaaaGreatDoor.Dq
open Go.ChangeShapes Go.WideShapes Go.ChangeAt Go.RowKit Num Go.Maps As
open Go.ChangeMaps Go.MapKept
attribute [local go_sem] run_store_float frombits_run bits_run
section
variable {W w : World} {q : Nat → Ptr} {b : Nat} {F s : List Nat} {a : Int} {B R cells : Nat} {L : List Nat}
set_option maxRecDepth 100000 in
set_option maxHeartbeats 2000000 in
theorem runs_yes (h : TW W w q b F s a B R cells L) {k : Int} (h1 : 1 ≤ k) (h7 : k ≤ 7) {po : Option Addr} {n co : Nat} {l : List Nat} (hn : l.length = n) (h8 : n ≤ 8) (hl : ∀ x ∈ l, x < 18446744073709551616) (hL : FlAt w po l) :
    Calls Tryz.prog 28 #[cfgV a 1 1024 8, dequeA q, .pointer (some ⟨b, 0, none⟩), .int .i64 k, .slice po n co] w fun r w' => ∃ p n' c', r = .returned (.slice p n' c') ∧ Hid (∃ m, m = mR a B R k l s ∧ n' = m.out.length ∧ RowAt 74 w' p c' (fls m.out) ∧ Abv w.heap.size (fpR p) ∧ TW W w' q b F (aftS s m) a B R cells (nxtS k L R (argF l 0)) ∧ Turn F F w w' ∧ Ran s m B cells (howS k L R) (codS k L R) (outS k L R (argF l 0)) ∧ Outside s (aftS s m) B cells) := by
  have HP : Hid (∀ u, _) := fun u => prog_deque q h1 h7 u
  have HR : Hid (∀ u, Below w.heap.size w u → _) := fun u hu => (h.on hu).run (co := co) h1 h7 hn h8 hl (hL.on hu)
  generalize tagS k = t at *
  generalize q (k - 1).toNat = z at *
  clear hL hl h8 hn h1 h7
  go_enter Tryz.func28, Tryz.ntmps28
  go_wp2_with (first
    | (go_at_call 23; refine (HR.out _ (below_chain (below_chain (two_al w _ _) B1.out) (below_alloc u1 _))).mono ?_; rintro e u2 ⟨Rr, m, rfl, HZ⟩; clear HR)
    | (go_at_call 13; refine (HP.out _).mono ?_; rintro e u1 ⟨rfl, k1⟩; have B1 := Lib.hid k1; have X1 : u1.heap[w.heap.size]? = some (cfgO a 1 1024 8) := (k1.block _ (by simp; omega)).trans ((heap_alloc_old _ _ (by simp)).trans (heap_alloc_new w _)); obtain ⟨x0, x1, x2, x3, x4⟩ := Md.cells4 X1; clear k1 HP X1))
  go_ret
  obtain ⟨z1, z2, z3, z4, z5, z6⟩ := HZ.out
  have kb := below_chain (below_chain (two_al w (cfgO a 1 1024 8) _) B1.out) (below_alloc u1 (.cells #[.int .i64 t, .slice z.p z.n z.c] 26))
  exact ⟨_, _, _, rfl, m, z1, rfl, z2.out.on (below_alloc u2 _), z2.ao.mono kb.size, z3.on (below_alloc u2 _), ((Below.turn kb F).trans z4).trans (Below.turn (below_alloc u2 _) F), z5, z6⟩
end
end Go.Proofs.YtaliehikdidiaaaGreatDoor.Dq
namespace Go.Proofs.YtaliehikdidiaaaGreatDoor.Dq
open Go.ChangeShapes Go.WideShapes Go.ChangeAt Go.RowKit Num Go.Maps As
open Go.ChangeMaps Go.MapKept
attribute [local go_sem] run_store_float frombits_run bits_run
def callS (R : Nat) (L : List Nat) (c : Cal) : List Nat := if 1 ≤ c.k ∧ c.k ≤ 7 then nxtS c.k L R (argF (c.l.take 8) 0) else L
def foldC (R : Nat) (l : List Cal) : List Nat := l.foldl (callS R) []
theorem foldC_take {R : Nat} {l : List Cal} {i : Nat} (h : i < l.length) : foldC R (l.take (i + 1)) = callS R (foldC R (l.take i)) (l.getD i cal0) := by
  unfold foldC
  rw [List.take_succ_eq_append_getElem h, List.foldl_append]
  simp [h]
def TW_new (d : Wd) : Prop := ∀ (W w : World) (q : Nat → Ptr) (b : Nat) (F : List Nat), Shaped5 W → Below W.heap.size W w → Abv W.heap.size F → DqAt w d.B (roomV d.C) q → Sx.Cel 98 w b F ((lB d 1).map fixB) → TW W w q b F ((lB d 1).map fixB) (totV d 1) d.B.toNat (roomV d.C).toNat d.C.toNat []
abbrev cfgZ : Obj := .cells #[.int .i64 0, .int .i64 0, .int .i64 0, .int .i64 0] 48
structure Bx (d : Wd) (q : Nat → Ptr) (n0 g5 g9 : Nat) (a : Int) (w : World) : Prop where
  b1 : w.heap[n0]? = some (wdO d)
  b2 : w.heap[n0 + 1]? = some dqZ
  b4 : w.heap[n0 + 2]? = some cfgZ
  b5 : w.heap[g5]? = some (tO q)
  b9 : w.heap[g9]? = some (cfgO a 1 1024 8)
theorem Bx.on {d : Wd} {q : Nat → Ptr} {n0 g5 g9 : Nat} {a : Int} {w w' : World} (h : Bx d q n0 g5 g9 a w) (k : Below w.heap.size w w') : Bx d q n0 g5 g9 a w' :=
  ⟨(k.block _ (lt_of_block h.b1)).trans h.b1, (k.block _ (lt_of_block h.b2)).trans h.b2, (k.block _ (lt_of_block h.b4)).trans h.b4, (k.block _ (lt_of_block h.b5)).trans h.b5, (k.block _ (lt_of_block h.b9)).trans h.b9⟩
theorem Bx.turn {d : Wd} {q q' : Nat → Ptr} {n0 g5 g9 : Nat} {a : Int} {w w' : World} (h : Bx d q n0 g5 g9 a w) {W : World} {b : Nat} {F s : List Nat} {a' : Int} {B R cells : Nat} {L : List Nat} (hT : TW W w q' b F s a' B R cells L) (t : Turn F F w w') : Bx d q n0 g5 g9 a w' :=
  ⟨hT.keep t h.b1 (by decide) (by decide), hT.keep t h.b2 (by decide) (by decide), hT.keep t h.b4 (by decide) (by decide), hT.keep t h.b5 (by decide) (by decide), hT.keep t h.b9 (by decide) (by decide)⟩
theorem cells5w {w : World} {x : Nat} {d : Wd} (h : w.heap[x]? = some (wdO d)) : w.cell? ⟨x, 0, none⟩ = some (.int .i64 d.B) ∧ w.cell? ⟨x, 1, none⟩ = some (.int .i64 d.C) ∧ w.cell? ⟨x, 2, none⟩ = some (.int .i64 d.M) ∧ w.cell? ⟨x, 3, none⟩ = some (.slice d.pn d.ln.length d.cn) ∧ w.cell? ⟨x, 4, none⟩ = some (.slice d.pc d.L.length d.cc) ∧ x < w.heap.size :=
  ⟨(cell_of_row w x 0 _ _ _ h).trans rfl, (cell_of_row w x 1 _ _ _ h).trans rfl, (cell_of_row w x 2 _ _ _ h).trans rfl, (cell_of_row w x 3 _ _ _ h).trans rfl, (cell_of_row w x 4 _ _ _ h).trans rfl, lt_of_block h⟩
structure Bx0 (d : Wd) (q : Nat → Ptr) (W : World) (g5 : Nat) (w : World) : Prop where
  bl : Below W.heap.size W w
  b1 : w.heap[W.heap.size]? = some (wdO d)
  b2 : w.heap[W.heap.size + 1]? = some dqZ
  b4 : w.heap[W.heap.size + 2]? = some cfgZ
  b5 : w.heap[g5]? = some (tO q)
  tr : DqAt w d.B (roomV d.C) q
theorem Bx0.on {d : Wd} {q : Nat → Ptr} {W : World} {g5 : Nat} {w w' : World} (h : Bx0 d q W g5 w) (k : Below w.heap.size w w') : Bx0 d q W g5 w' :=
  ⟨h.bl.trans (k.mono h.bl.size), (k.block _ (lt_of_block h.b1)).trans h.b1, (k.block _ (lt_of_block h.b2)).trans h.b2, (k.block _ (lt_of_block h.b4)).trans h.b4, (k.block _ (lt_of_block h.b5)).trans h.b5, h.tr.on k⟩
theorem Bx0.full {d : Wd} {q : Nat → Ptr} {W : World} {g5 : Nat} {w : World} (h : Bx0 d q W g5 w) (a : Int) : Bx d q W.heap.size g5 w.heap.size a (w.alloc (cfgO a 1 1024 8)) :=
  have k := h.on (below_alloc w (cfgO a 1 1024 8))
  ⟨k.b1, k.b2, k.b4, k.b5, heap_alloc_new _ _⟩
theorem bx0_new {W u1 : World} {d : Wd} {q : Nat → Ptr} (k : Below (((W.alloc (wdO d)).alloc dqZ).alloc cfgZ).heap.size (((W.alloc (wdO d)).alloc dqZ).alloc cfgZ) u1) (t : DqAt u1 d.B (roomV d.C) q) : Bx0 d q W u1.heap.size (u1.alloc (tO q)) := by
  have e1 : (((W.alloc (wdO d)).alloc dqZ).alloc cfgZ).heap[W.heap.size]? = some (wdO d) := (heap_alloc_old _ _ (by simp; omega)).trans ((heap_alloc_old _ _ (by simp)).trans (heap_alloc_new W _))
  have e2 : (((W.alloc (wdO d)).alloc dqZ).alloc cfgZ).heap[W.heap.size + 1]? = some dqZ := (heap_alloc_old _ _ (by simp)).trans (by have := heap_alloc_new (W.alloc (wdO d)) dqZ; rwa [World.size_alloc] at this)
  have e3 : (((W.alloc (wdO d)).alloc dqZ).alloc cfgZ).heap[W.heap.size + 2]? = some cfgZ := by have := heap_alloc_new ((W.alloc (wdO d)).alloc dqZ) cfgZ; rwa [World.size_alloc, World.size_alloc] at this
  have k0 : Below W.heap.size W (((W.alloc (wdO d)).alloc dqZ).alloc cfgZ) := (two_al W _ _).trans ((below_alloc _ _).mono (by simp; omega))
  have k2 := below_alloc u1 (tO q)
  have on : ∀ {g : Nat} {o : Obj}, (((W.alloc (wdO d)).alloc dqZ).alloc cfgZ).heap[g]? = some o → (u1.alloc (tO q)).heap[g]? = some o := fun {g o} h => (heap_alloc_old u1 _ (Nat.lt_of_lt_of_le (lt_of_block h) k.size)).trans ((k.block _ (lt_of_block h)).trans h)
  exact ⟨(k0.trans (k.mono k0.size)).trans (k2.mono (Nat.le_trans k0.size k.size)), on e1, on e2, on e3, heap_alloc_new _ _, t.on k2⟩
abbrev Sb (g9 g12 gw : Nat) (a t : Int) (z : Ptr) (c : Cal) (u : World) : Prop := u.cell? ⟨g9, 0, none⟩ = some (.int .i64 a) ∧ u.cell? ⟨g9, 1, none⟩ = some (.int .i64 1) ∧ u.cell? ⟨g9, 2, none⟩ = some (.int .i64 1024) ∧ u.cell? ⟨g9, 3, none⟩ = some (.int .i64 8) ∧ u.cell? ⟨g12, 0, none⟩ = some (.int .i64 t) ∧ u.cell? ⟨g12, 1, none⟩ = some (.slice z.p z.n z.c) ∧ u.cell? ⟨gw, 2, none⟩ = some (.slice c.p c.l.length c.c)
abbrev opO (c : Cal) : Obj := .cells #[.int .i64 c.k, .bool c.o, .slice c.p c.l.length c.c] 52
abbrev pgO (t : Int) (z : Ptr) : Obj := .cells #[.int .i64 t, .slice z.p z.n z.c] 26
theorem sb_of {u : World} {g9 g12 gw : Nat} {a t : Int} {z : Ptr} {c : Cal} {d : Wd} {q : Nat → Ptr} {n0 g5 : Nat} (h : Bx d q n0 g5 g9 a u) (h2 : u.heap[g12]? = some (pgO t z)) (h3 : u.heap[gw]? = some (opO c)) : Sb g9 g12 gw a t z c u := by
  obtain ⟨x0, x1, x2, x3, _⟩ := Md.cells4 h.b9
  obtain ⟨y0, y1, _⟩ := cells2_of h2
  exact ⟨x0, x1, x2, x3, y0, y1, (cell_of_row _ _ 2 _ _ _ h3).trans rfl⟩
theorem bx_three {wr v1 : World} {g9 : Nat} {a t : Int} {z : Ptr} {c : Cal} {d : Wd} {q : Nat → Ptr} {n0 g5 : Nat} (h : Bx d q n0 g5 g9 a wr) (k : Below (wr.alloc (opO c)).heap.size (wr.alloc (opO c)) v1) :
    Below wr.heap.size wr (v1.alloc (pgO t z)) ∧ Bx d q n0 g5 g9 a (v1.alloc (pgO t z)) ∧ (v1.alloc (pgO t z)).heap[v1.heap.size]? = some (pgO t z) ∧ (v1.alloc (pgO t z)).heap[wr.heap.size]? = some (opO c) := by
  have kb := below_chain (below_chain (below_alloc wr (opO c)) k) (below_alloc v1 (pgO t z))
  have hw := (k.block wr.heap.size (by simp)).trans (heap_alloc_new wr (opO c))
  exact ⟨kb, h.on kb, heap_alloc_new _ _, (heap_alloc_old v1 _ (lt_of_block hw)).trans hw⟩
theorem cfgInfo : (Tryz.prog.info? 48).map (·.size) = some 4 := by kernel_rfl
abbrev tA (q : Nat → Ptr) : Array Value := #[.int .i64 2, .slice (q 0).p (q 0).n (q 0).c, .int .i64 2, .slice (q 1).p (q 1).n (q 1).c, .int .i64 2, .slice (q 2).p (q 2).n (q 2).c, .int .i64 2, .slice (q 3).p (q 3).n (q 3).c, .int .i64 1, .slice (q 4).p (q 4).n (q 4).c, .int .i64 1, .slice (q 5).p (q 5).n (q 5).c, .int .i64 1, .slice (q 6).p (q 6).n (q 6).c]
abbrev cA (a : Int) : Array Value := #[.int .i64 a, .int .i64 1, .int .i64 1024, .int .i64 8]
theorem tA_one (q : Nat → Ptr) : (tA q).all (·.oneCell') = true := by simp [Value.oneCell']
theorem cA_one (a : Int) : (cA a).all (·.oneCell') = true := by simp [Value.oneCell']
abbrev Sc (g5 g9 : Nat) (a : Int) (q : Nat → Ptr) (u : World) : Prop := (u.cell? ⟨g5, 0, none⟩ = some (.int .i64 2) ∧ u.cell? ⟨g5, 1, none⟩ = some (.slice (q 0).p (q 0).n (q 0).c) ∧ u.cell? ⟨g5, 2, none⟩ = some (.int .i64 2) ∧ u.cell? ⟨g5, 3, none⟩ = some (.slice (q 1).p (q 1).n (q 1).c) ∧ u.cell? ⟨g5, 4, none⟩ = some (.int .i64 2) ∧ u.cell? ⟨g5, 5, none⟩ = some (.slice (q 2).p (q 2).n (q 2).c) ∧ u.cell? ⟨g5, 6, none⟩ = some (.int .i64 2) ∧ u.cell? ⟨g5, 7, none⟩ = some (.slice (q 3).p (q 3).n (q 3).c) ∧ u.cell? ⟨g5, 8, none⟩ = some (.int .i64 1) ∧ u.cell? ⟨g5, 9, none⟩ = some (.slice (q 4).p (q 4).n (q 4).c) ∧ u.cell? ⟨g5, 10, none⟩ = some (.int .i64 1) ∧ u.cell? ⟨g5, 11, none⟩ = some (.slice (q 5).p (q 5).n (q 5).c) ∧ u.cell? ⟨g5, 12, none⟩ = some (.int .i64 1) ∧ u.cell? ⟨g5, 13, none⟩ = some (.slice (q 6).p (q 6).n (q 6).c)) ∧ u.cell? ⟨g9, 0, none⟩ = some (.int .i64 a) ∧ u.cell? ⟨g9, 1, none⟩ = some (.int .i64 1) ∧ u.cell? ⟨g9, 2, none⟩ = some (.int .i64 1024) ∧ u.cell? ⟨g9, 3, none⟩ = some (.int .i64 8)
theorem sc_of2 {u : World} {g9 g5 : Nat} {a : Int} {q : Nat → Ptr} (h5 : u.heap[g5]? = some (tO q)) (h9 : u.heap[g9]? = some (cfgO a 1 1024 8)) : Sc g5 g9 a q u := by
  obtain ⟨x0, x1, x2, x3, _⟩ := Md.cells4 h9
  refine ⟨⟨?_, ?_, ?_, ?_, ?_, ?_, ?_, ?_, ?_, ?_, ?_, ?_, ?_, ?_⟩, x0, x1, x2, x3⟩
  all_goals exact (cell_of_row _ _ _ _ _ _ h5).trans rfl
theorem sc_of {u : World} {g9 : Nat} {a : Int} {d : Wd} {q : Nat → Ptr} {n0 g5 : Nat} (h : Bx d q n0 g5 g9 a u) : Sc g5 g9 a q u := sc_of2 h.b5 h.b9
theorem Bx.set2 {u : World} {g9 : Nat} {a : Int} {d : Wd} {q : Nat → Ptr} {n0 g5 : Nat} (h : Bx d q n0 g5 g9 a u) :
    (u.setRow (n0 + 1) (tA q)).heap[g5]? = some (tO q) ∧ (u.setRow (n0 + 1) (tA q)).heap[g9]? = some (cfgO a 1 1024 8) ∧ (u.setRow (n0 + 1) (tA q)).heap[n0 + 2]? = some cfgZ ∧ ((u.setRow (n0 + 1) (tA q)).setRow (n0 + 2) (cA a)).heap[g5]? = some (tO q) ∧ ((u.setRow (n0 + 1) (tA q)).setRow (n0 + 2) (cA a)).heap[g9]? = some (cfgO a 1 1024 8) ∧ ((u.setRow (n0 + 1) (tA q)).setRow (n0 + 2) (cA a)).heap[n0 + 1]? = some (tO q) ∧ ((u.setRow (n0 + 1) (tA q)).setRow (n0 + 2) (cA a)).heap[n0 + 2]? = some (cfgO a 1 1024 8) := by
  have n5 : g5 ≠ n0 + 1 := fun e => by
    have h5 := h.b5
    rw [e, h.b2] at h5
    injection h5 with h5
    injection h5 with h5
    have := congrArg (fun x : Array Value => x[0]?) h5
    simp at this
  have n9 : g9 ≠ n0 + 2 := fun e => by
    have h9 := h.b9
    rw [e, h.b4] at h9
    injection h9 with h9
    injection h9 with h9
    have := congrArg (fun x : Array Value => x[1]?) h9
    simp at this
  have n5b : g5 ≠ n0 + 2 := ne_ty h.b5 h.b4 (by decide)
  have n9b : g9 ≠ n0 + 1 := ne_ty h.b9 h.b2 (by decide)
  have a5 := (setRow_other u (n0 + 1) g5 (tA q) n5).trans h.b5
  have a9 := (setRow_other u (n0 + 1) g9 (tA q) n9b).trans h.b9
  have a4 := (setRow_other u (n0 + 1) (n0 + 2) (tA q) (by omega)).trans h.b4
  have a2 := setRow_heap u (n0 + 1) _ (tA q) _ _ h.b2
  exact ⟨a5, a9, a4, (setRow_other _ _ _ _ n5b).trans a5, (setRow_other _ _ _ _ n9).trans a9, (setRow_other _ _ _ _ (by omega)).trans a2, setRow_heap _ _ _ _ _ _ a4⟩
theorem TW.set {W w : World} {q : Nat → Ptr} {b : Nat} {F s : List Nat} {a : Int} {B R cells : Nat} {L : List Nat} (h : TW W w q b F s a B R cells L) {g : Nat} {old cs : Array Value} {T : TypeId} {x : Nat × Nat} (hW : W.heap.size ≤ g) (hb : w.heap[g]? = some (.cells old T x)) (h1 : (T == 98) = false) (h2 : (T == 74) = false) (h3 : (T == 90) = false) : TW W (w.setRow g cs) q b F s a B R cells L := by
  have ng := cel_no h.cel hb h1 h2
  refine ⟨h.sh, h.bl.trans ⟨rfl, rfl, rfl, by simp, fun k hk => setRow_other w g k cs (by omega)⟩, h.ab, ⟨fun i hi => ⟨(h.tr.row i hi).1, (h.tr.row i hi).2.keep ⟨by simp, fun k hk => setRow_other _ _ _ _ fun e => ?_⟩⟩⟩, h.cel.keep ⟨by simp, fun k hk => setRow_other _ _ _ _ fun e => ng (e ▸ hk)⟩, h.ok, h.has, h.lies⟩
  obtain ⟨arr, hk2⟩ := (h.tr.row i hi).2.blk hk
  exact ne_ty hb hk2 h3 e.symm
theorem results_ctc {fn : Func} {p u z : Tmp} {ty ty2 : TypeId} (h : fn.results = #[.cell p ty, .tmp u, .cell z ty2]) (tmps : Array Value) (P : Program) (w : World) :
    (results fn tmps).run P w = ((asAddr (tmps.getD p undef)).run P w).andThen fun a w₁ => ((loadVar ty a).run P w₁).andThen fun v w₂ => ((asAddr (tmps.getD z undef)).run P w₂).andThen fun b w₃ => ((loadVar ty2 b).run P w₃).andThen fun v2 w₄ => .ok (.tuple #[v, tmps.getD u undef, v2]) w₄ := by
  simp only [results, h]
  simp [Sem.run_bind, Result.andThen]
theorem after_back {fn : Func} {p r z : Tmp} (h : fn.results = #[.cell p 28, .tmp r, .cell z 48]) {Q : Ending → World → Prop} {a : Act} {w : World} (g : Nat) (v : Value) (g2 : Nat) {arr arr2 : Array Value} (hp : a.tmps.getD p undef = .pointer (some ⟨g, 0, none⟩)) (hu : a.tmps.getD r undef = v) (hz : a.tmps.getD z undef = .pointer (some ⟨g2, 0, none⟩))
    (hg : w.heap[g]? = some (.cells arr 28 (0, 0))) (ha : arr.size = 14) (hg2 : w.heap[g2]? = some (.cells arr2 48 (0, 0))) (ha2 : arr2.size = 4) (hd : a.defers = []) (hR : Q (.returned (.tuple #[.agg arr, v, .agg arr2])) w) : bodyPost Tryz.prog fn Q .ret a w := by
  refine bodyPost_ret (v := .tuple #[.agg arr, v, .agg arr2]) ?_ hd hR
  have hl := run_loadVar_row (P := Tryz.prog) w g 28 28 arr (0, 0) _ hg Tryz.underlying28 rfl (by rw [ha]; kernel_rfl)
  have hl2 := run_loadVar_row (P := Tryz.prog) w g2 48 48 arr2 (0, 0) _ hg2 Tryz.underlying48 rfl (by rw [ha2]; kernel_rfl)
  rw [results_ctc h, hp, hu, hz]
  simp [asAddr, hl, hl2, Result.andThen]
theorem sB_lt {W : World} {d : Wd} (hd : WdIn W d) (m : Int) (i : Nat) : sB d m i < 18446744073709551616 := by
  unfold sB
  split
  · rename_i h
    have hl : i % d.ln.length < d.ln.length := Nat.mod_lt _ h.2
    rw [List.getD_eq_getElem?_getD, List.getElem?_eq_getElem hl]
    exact hd.lx _ (List.getElem_mem hl)
  · decide
theorem lB_ok {W : World} {d : Wd} (hd : WdIn W d) (m : Int) : okS ((lB d m).map fixB) := okS_map fun x hx => by
  obtain ⟨i, _, rfl⟩ := List.mem_map.1 hx
  exact sB_lt hd m i
theorem roomV_eq {c : Int} (h7 : 3 ≤ c) : roomV c = min 16 (c - 2) := by
  unfold roomV
  rw [if_neg (by omega)]
  split <;> omega
theorem tw_new {W : World} {d : Wd} (hd : WdIn W d) (h7 : 3 ≤ d.C) (h0 : 0 ≤ d.B) (hf : d.B + d.C ≤ 256) : TW_new d := by
  intro W w q b F hT hb ha ht hc
  have htv : 1 ≤ totV d 1 ∧ totV d 1 ≤ 256 ∧ d.B + d.C ≤ totV d 1 := by
    unfold totV
    have := moreV_in d.M
    split <;> omega
  have hr := roomV_eq h7
  have hlen : ((lB d 1).map fixB).length = (totV d 1).toNat := by rw [List.length_map, lB_len]
  have hl : Lies (totV d 1) 1 8 d.B.toNat (roomV d.C).toNat d.C.toNat ((lB d 1).map fixB).length := by
    refine ⟨Md.cfgB_iff.2 ?_, by rw [hlen]; omega, by decide, by omega, by omega, by omega⟩
    omega
  refine ⟨hT, hb, ha, ?_, hc, lB_ok hd 1, has_new hl fun i h1 h2 => ?_, hl⟩
  · rw [show ((d.B.toNat : Nat) : Int) = d.B by omega, show (((roomV d.C).toNat : Nat) : Int) = roomV d.C by omega]
    exact ht
  · have hi : i < (totV d 1).toNat := by omega
    have e := lB_at d 1 i hi
    have e2 : sB d 1 i = 0 := if_neg (by omega)
    rw [e2] at e
    rw [List.getD_eq_getElem?_getD, List.getElem?_map, List.getElem?_eq_getElem (by rw [lB_len]; exact hi)]
    rw [List.getD_eq_getElem?_getD, List.getElem?_eq_getElem (by rw [lB_len]; exact hi)] at e
    simp only [Option.getD_some, Option.map_some] at e ⊢
    rw [e]
    rfl
section
variable {W : World}
set_option maxRecDepth 100000 in
set_option maxHeartbeats 4000000 in
theorem after_yes (hT : Shaped5 W) {d : Wd} (hd : WdIn W d) (h7 : 3 ≤ d.C) (h0 : 0 ≤ d.B) (hf : d.B + d.C ≤ 256) : Calls Tryz.prog 27 #[wdV d] W fun e w' => ∃ q b a, e = .returned (.tuple #[dequeA q, .pointer (some ⟨b, 0, none⟩), cfgV a 1 1024 8]) ∧ Hid (∃ F s, TW W w' q b F s a d.B.toNat (roomV d.C).toNat d.C.toNat (foldC (roomV d.C).toNat d.L)) := by
  have HMK : Hid (∀ u, Below W.heap.size W u → _) := fun u hu => make_A (hT.on hu) (b := d.B) (c := d.C) (by omega) h7 h0 hf
  have HFI : Hid (∀ u, _) := fun u => fits_yes (b := d.B) (c := d.C) h7 h0 hf u
  have HBE : Hid (∀ u, Below W.heap.size W u → _) := fun u hu => begins_any (m := 1) (hd.on hu) (.inl rfl) h0 (by omega) (by omega)
  have htv : 1 ≤ totV d 1 ∧ totV d 1 ≤ 256 ∧ d.B + d.C ≤ totV d 1 := by
    unfold totV
    have := moreV_in d.M
    split <;> omega
  have HNEW := Lib.hid (tw_new hd h7 h0 hf)
  unfold TW_new at HNEW
  obtain ⟨a, ha⟩ : ∃ a, totV d 1 = a := ⟨_, rfl⟩
  have HTO : Hid (∀ u, Calls Tryz.prog 18 #[wdV d, .int .i64 1] u fun e w' => e = .returned (.int .i64 a) ∧ Below u.heap.size u w') := fun u => by rw [← ha]; exact total_any d (m := 1) (.inl rfl) h0 (by omega) (by omega) u
  rw [ha] at HNEW
  have HT := Lib.hid hT
  have HCS := Lib.hid hd.cs
  have HCX := Lib.hid hd.cx
  have HCL := Lib.hid hd.cl
  obtain ⟨B, C, M, pn, ln, cn, pc, LL, cc⟩ := d
  simp only at *
  clear hd hT ha
  go_enter Tryz.func27, Tryz.ntmps27
  go_upto_region 2 with (go_at_call 10; refine (HMK.out _ ((two_al _ _ _).trans ((below_alloc _ _).mono (by simp; omega)))).mono ?_; rintro e u1 ⟨q, rfl, HQ⟩)
  have HX := Lib.hid (bx0_new (d := ⟨B, C, M, pn, ln, cn, pc, LL, cc⟩) HQ.out.2 HQ.out.1)
  obtain ⟨u2, hu2⟩ : ∃ u2, u2 = u1.alloc (tO q) := ⟨_, rfl⟩
  obtain ⟨g5, hg5⟩ : ∃ g5, u1.heap.size = g5 := ⟨_, rfl⟩
  rw [hg5] at HX ⊢
  rw [← hu2] at HX ⊢
  clear HQ hu2 hg5
  obtain ⟨y0, y1, y2, y3, y4, y5⟩ := cells5w HX.out.b1
  go_upto_region 9 with (first
    | (go_at_call 17; refine (config_any _ _ _ _).mono ?_; rintro e u5 ⟨rfl, k5⟩; have X5 := Lib.hid (X4.out.on k5); have C5 := Lib.hid (C4.out.on k5); clear k5)
    | (go_at_call 18; refine (HTO.out _).mono ?_; rintro e u4 ⟨rfl, k4⟩; have X4 := Lib.hid (X3.out.1.on k4); have C4 := Lib.hid (X3.out.2.1.on k4); clear k4 HTO)
    | (go_at_call 16; refine (HBE.out _ HX.out.bl).mono ?_; rintro e u3 ⟨b, F, rfl, HZ⟩; have X3 := Lib.hid (And.intro (HX.out.on HZ.out.2.2) (And.intro HZ.out.1 (HZ.out.2.1.mono HX.out.bl.size))); clear HBE y0 y1 y2 y3 y4 y5; obtain ⟨y0, y1, y2, y3, y4, y5⟩ := cells5w X3.out.1.b1)
    | (go_at_call 11; refine (HFI.out _).mono ?_; rintro e v2 ⟨rfl, hw⟩; subst v2; clear HFI))
  have HB := Lib.hid (X5.out.full a)
  have HS := Lib.hid (HNEW.out W (u5.alloc (cfgO a 1 1024 8)) q b F HT.out (X5.out.bl.trans ((below_alloc _ _).mono X5.out.bl.size)) X3.out.2.2 (X5.out.tr.on (below_alloc _ _)) (C5.out.on (below_alloc _ _)))
  clear HNEW C5 C4 X3 X4 y0 y1 y2 y3 y4 y5 HX HZ
  obtain ⟨u6, hu6⟩ : ∃ u6, u6 = u5.alloc (cfgO a 1 1024 8) := ⟨_, rfl⟩
  obtain ⟨g9, hg9⟩ : ∃ g9, u5.heap.size = g9 := ⟨_, rfl⟩
  rw [hg9] at HB ⊢
  rw [← hu6] at HB HS ⊢
  clear hu6 hg9 X5 HMK
  obtain ⟨y0, y1, y2, y3, y4, y5⟩ := cells5w HB.out.b1
  go_wp2_with fail
  clear y0 y1 y2 y3 y4 y5
  generalize (lB _ 1).map fixB = s0 at HS
  go_loopw [47] (fun v wr => ∃ k : Nat, v = .int .i64 k ∧ k ≤ LL.length ∧ Hid (Bx ⟨B, C, M, pn, ln, cn, pc, LL, cc⟩ q W.heap.size g5 g9 a wr ∧ ∃ s, TW W wr q b F s a B.toNat (roomV C).toNat C.toNat (foldC (roomV C).toNat (LL.take k)))) (fun v _ => LL.length - (intOf v).toNat)
  case atStart => exact ⟨0, rfl, Nat.zero_le _, HB.out, s0, HS.out⟩
  case round =>
    obtain ⟨k, rfl, hk, HR⟩ := hrel
    clear HB HS
    by_cases hlt : k < LL.length
    · obtain ⟨s, HS⟩ := HR.out.2
      have HB := Lib.hid HR.out.1
      replace HS := Lib.hid HS
      have hlt' : (k : Int) < (LL.length : Int) := by omega
      have hkb : (LL.length : Int) ≤ 9223372036854775807 := by have := HCL.out; omega
      obtain ⟨g, o, rfl, hg, x0, x1, x2, xb⟩ := (HCS.out.on HS.out.bl) k hlt
      have hcx := HCX.out (LL.getD k cal0) (by rw [List.getD_eq_getElem?_getD, List.getElem?_eq_getElem hlt]; exact List.getElem_mem hlt)
      have HFT := Lib.hid (foldC_take (R := (roomV C).toNat) hlt)
      obtain ⟨c, hc⟩ : ∃ c, LL.getD k cal0 = c := ⟨_, rfl⟩
      rw [hc] at x0 x1 x2 xb hcx HFT
      have HXB := Lib.hid xb
      have HCC := Lib.hid hcx
      clear xb hcx hc HR
      have h5 := HB.out.b5
      have h9 := HB.out.b9
      have hl5 := lt_of_block h5
      have hl9 := lt_of_block h9
      by_cases hk1 : 1 ≤ c.k ∧ c.k ≤ 7
      · have HP : Hid (∀ u, _) := fun u => prog_deque q hk1.1 hk1.2 u
        have HNX : Hid (callS (roomV C).toNat (foldC (roomV C).toNat (LL.take k)) c = nxtS c.k (foldC (roomV C).toNat (LL.take k)) (roomV C).toNat (argF (c.l.take 8) 0)) := if_pos hk1
        have HRUN : Hid (∀ (u : World) (po : Option Addr) (n co : Nat) (l : List Nat), TW W u q b F s a B.toNat (roomV C).toNat C.toNat (foldC (roomV C).toNat (LL.take k)) → l.length = n → n ≤ 8 → (∀ x ∈ l, x < 18446744073709551616) → FlAt u po l → _) := fun u po n co l hu h1 h2 h3 h4 => hu.run (po := po) (co := co) hk1.1 hk1.2 h1 h2 h3 h4
        obtain ⟨t, ht⟩ : ∃ t, tagS c.k = t := ⟨_, rfl⟩
        obtain ⟨z, hz⟩ : ∃ z, q (c.k - 1).toNat = z := ⟨_, rfl⟩
        rw [ht, hz] at HP
        simp only [ht, hz] at HRUN
        clear hk1 ht hz
        go_upto_region 14 with (first
          | (refine wpList_load_row rfl 28 _ rfl g5 rfl _ _ _ _ ((heap_alloc_old wr _ hl5).trans h5) Tryz.underlying28 rfl dqInfo ?_)
          | (go_at_call 13; refine (HP.out _).mono ?_; rintro e v1 ⟨rfl, k1⟩; have K1 := Lib.hid k1; clear k1 HP))
        have h3 := bx_three HB.out K1.out (t := t) (z := z)
        have HS2 := Lib.hid (HS.out.on h3.1)
        have HXB2 := Lib.hid (HXB.out.on h3.1)
        replace h3 := h3.2
        obtain ⟨v2, hv2⟩ : ∃ v2, v2 = v1.alloc (pgO t z) := ⟨_, rfl⟩
        obtain ⟨g12, hg12⟩ : ∃ g12, v1.heap.size = g12 := ⟨_, rfl⟩
        rw [hg12] at h3 ⊢
        rw [← hv2] at h3 HS2 HXB2 ⊢
        obtain ⟨gw, hgw⟩ : ∃ gw, wr.heap.size = gw := ⟨_, rfl⟩
        rw [hgw] at h3 ⊢
        have H3 := Lib.hid h3
        have hs3 := sb_of h3.1 h3.2.1 h3.2.2
        clear h3 hv2 hg12 hgw K1 h5 h9 hl5 hl9 x0 x1 x2 HB HS HXB
        refine wp_region_seq (Sb g9 g12 gw a t z c) ((0, true) :: (1, true) :: (2, true) :: (3, true) :: (5, true) :: (4, false) :: (6, false) :: []) follows (by kernel_rfl) (fun _ _ _ _ _ h => h) hs3 ?_
        (repeat ((first | (refine wpSeq_take (v := ?_) rfl (by rfl) (fun wq hSq => ?_) ?_; rotate_left; (focus ((try dsimp only at hSq); go_simp; try with_reducible rfl))) | refine wpSeq_skip rfl (by rfl) ?_); simp only [Act.put, List.setIfInBounds_toArray, List.set_cons_zero, List.set_cons_succ]))
        (refine wpSeq_do rfl (by rfl) (fun KK hK => ?_); go_simp)
        have kd := (Same.drew v2).below v2.heap.size
        refine (floats_any rfl (HXB2.out.on kd) HCC.out.2).mono ?_
        rintro e v3 ⟨p3, n3, c3, rfl, HF⟩
        have hb3 := (H3.out.1.on kd).on HF.out.2.2.2
        have hp3 := (HF.out.2.2.2.block _ (lt_of_block H3.out.2.1)).trans H3.out.2.1
        have hw3 := (HF.out.2.2.2.block _ (lt_of_block H3.out.2.2)).trans H3.out.2.2
        refine hK.out _ _ (sb_of hb3 hp3 hw3) ?_
        (clear hK KK; try simp only [Act.put, List.setIfInBounds_toArray, List.set_cons_zero, List.set_cons_succ])
        (repeat ((first | (refine wpSeq_take (v := ?_) rfl (by rfl) (fun wq hSq => ?_) ?_; rotate_left; (focus ((try dsimp only at hSq); go_simp; try with_reducible rfl))) | refine wpSeq_skip rfl (by rfl) ?_); simp only [Act.put, List.setIfInBounds_toArray, List.set_cons_zero, List.set_cons_succ]))
        (refine wpSeq_do rfl (by rfl) (fun KK hK => ?_); go_simp)
        refine (HRUN.out v3 p3 n3 c3 (c.l.take 8) ((HS2.out.on kd).on HF.out.2.2.2) (by rw [HF.out.1, List.length_take]) (by rw [HF.out.1]; omega) (fun x hx => HCC.out.1 x (List.mem_of_mem_take hx)) (row_fl HF.out.2.1)).mono ?_
        rintro e v4 ⟨Rr, m, rfl, HZ⟩
        obtain ⟨_, _, z3, z4, _, _⟩ := HZ.out
        have hT3 := (HS2.out.on kd).on HF.out.2.2.2
        refine hK.out _ _ (sb_of (hb3.turn hT3 z4) (hT3.keep z4 hp3 (by decide) (by decide)) (hT3.keep z4 hw3 (by decide) (by decide))) ?_
        (clear hK KK; try simp only [Act.put, List.setIfInBounds_toArray, List.set_cons_zero, List.set_cons_succ])
        (repeat ((first | (refine wpSeq_take (v := ?_) rfl (by rfl) (fun wq hSq => ?_) ?_; rotate_left; (focus ((try dsimp only at hSq); go_simp; try with_reducible rfl))) | refine wpSeq_skip rfl (by rfl) ?_); simp only [Act.put, List.setIfInBounds_toArray, List.set_cons_zero, List.set_cons_succ]))
        refine wpSeq_nil ?_
        go_wp2_with fail
        refine ⟨⟨k + 1, by first | rfl | (congr 1), by omega, hb3.turn hT3 z4, aftS s m, ?_⟩, by simp [intOf]; omega⟩
        rw [HFT.out, HNX.out]
        exact z3
      · have HP : Hid (∀ u, _) := fun u => prog_none q hk1 u
        have HNX : Hid (callS (roomV C).toNat (foldC (roomV C).toNat (LL.take k)) c = foldC (roomV C).toNat (LL.take k)) := if_neg hk1
        clear hk1
        go_wp2_with (first
          | (refine wpList_load_row rfl 28 _ rfl g5 rfl _ _ _ _ ((heap_alloc_old wr _ hl5).trans h5) Tryz.underlying28 rfl dqInfo ?_)
          | (go_at_call 13; refine (HP.out _).mono ?_; rintro e v1 ⟨rfl, k1⟩; have K1 := Lib.hid k1; clear k1 HP))
        have h3 := bx_three HB.out K1.out (t := 0) (z := ⟨none, 0, 0⟩)
        refine ⟨⟨k + 1, by first | rfl | (congr 1), by omega, h3.2.1, s, ?_⟩, by simp [intOf]; omega⟩
        rw [HFT.out, HNX.out]
        exact HS.out.on h3.1
    · obtain ⟨s, HS⟩ := HR.out.2
      have HB := Lib.hid HR.out.1
      replace HS := Lib.hid HS
      have hlt' : ¬ (k : Int) < (LL.length : Int) := by omega
      obtain rfl : k = LL.length := by omega
      rw [List.take_length] at HS
      clear HR hlt
      go_upto_region 16 with fail
      have hsc := sc_of HB.out
      refine wp_region_seq (Sc g5 g9 a q) ((0, true) :: (1, true) :: (2, true) :: (3, false) :: (4, true) :: (5, false) :: []) follows (by kernel_rfl) (fun _ _ _ _ _ h => h) hsc ?_
      (repeat ((first | (refine wpSeq_take (v := ?_) rfl (by rfl) (fun wq hSq => ?_) ?_; rotate_left; (focus ((try dsimp only at hSq); go_simp; try with_reducible rfl))) | refine wpSeq_skip rfl (by rfl) ?_); simp only [Act.put, List.setIfInBounds_toArray, List.set_cons_zero, List.set_cons_succ]))
      refine wpSeq_do rfl (by rfl) (fun KK hK => ?_)
      refine wp_store_row 28 _ _ rfl (W.heap.size + 1) (tA q) rfl rfl _ _ HB.out.b2 dqInfo rfl (tA_one q) ?_
      have HB2 := Lib.hid ((HB.out.on ((Same.drew wr).below _)).set2)
      have HS2 := Lib.hid ((HS.out.on ((Same.drew wr).below _)).set (g := W.heap.size + 1) (cs := tA q) (by omega) HB.out.b2 (by decide) (by decide) (by decide))
      refine hK.out _ _ (sc_of2 HB2.out.1 HB2.out.2.1) ?_
      (clear hK KK; try simp only [Act.put])
      (repeat ((first | (refine wpSeq_take (v := ?_) rfl (by rfl) (fun wq hSq => ?_) ?_; rotate_left; (focus ((try dsimp only at hSq); go_simp; try with_reducible rfl))) | refine wpSeq_skip rfl (by rfl) ?_); simp only [Act.put, List.setIfInBounds_toArray, List.set_cons_zero, List.set_cons_succ]))
      refine wpSeq_do rfl (by rfl) (fun KK hK => ?_)
      refine wp_store_row 48 _ _ rfl (W.heap.size + 2) (cA a) rfl rfl _ _ HB2.out.2.2.1 cfgInfo rfl (cA_one a) ?_
      refine hK.out _ _ (sc_of2 HB2.out.2.2.2.1 HB2.out.2.2.2.2.1) ?_
      (clear hK KK; try simp only [Act.put])
      refine wpSeq_nil ?_
      go_wp2_with fail
      refine after_back rfl (W.heap.size + 1) (.pointer (some ⟨b, 0, none⟩)) (W.heap.size + 2) rfl rfl rfl HB2.out.2.2.2.2.2.1 rfl HB2.out.2.2.2.2.2.2 rfl rfl ⟨q, b, a, rfl, F, s, ?_⟩
      exact HS2.out.set (g := W.heap.size + 2) (cs := cA a) (by omega) HB2.out.2.2.1 (by decide) (by decide) (by decide)
end
end Go.Proofs.YtaliehikdidiaaaGreatDoor.Dq
namespace Go.Proofs.YtaliehikdidiaaaGreatDoor.Dq
open Go.ChangeShapes Go.WideShapes Go.ChangeAt Go.RowKit Num Go.Maps As
open Go.ChangeMaps Go.MapKept
attribute [local go_sem] run_store_float frombits_run bits_run
abbrev cZ : Array Value := #[.int .i64 0, .int .i64 0, .int .i64 0, .int .i64 0]
theorem tZ_one : tZ.all (·.oneCell') = true := by simp [Value.oneCell']
theorem cZ_one : cZ.all (·.oneCell') = true := by simp [Value.oneCell']
section
variable {W : World}
structure BxZ (d : Wd) (W : World) (w : World) : Prop where
  bl : Below W.heap.size W w
  b1 : w.heap[W.heap.size]? = some (wdO d)
  b2 : w.heap[W.heap.size + 1]? = some dqZ
  b4 : w.heap[W.heap.size + 2]? = some cfgZ
theorem bxz_new {d : Wd} {u1 : World} (k : Below (((W.alloc (wdO d)).alloc dqZ).alloc cfgZ).heap.size (((W.alloc (wdO d)).alloc dqZ).alloc cfgZ) u1) (o : Obj) : BxZ d W (u1.alloc o) := by
  have e1 : (((W.alloc (wdO d)).alloc dqZ).alloc cfgZ).heap[W.heap.size]? = some (wdO d) := (heap_alloc_old _ _ (by simp; omega)).trans ((heap_alloc_old _ _ (by simp)).trans (heap_alloc_new W _))
  have e2 : (((W.alloc (wdO d)).alloc dqZ).alloc cfgZ).heap[W.heap.size + 1]? = some dqZ := (heap_alloc_old _ _ (by simp)).trans (by have := heap_alloc_new (W.alloc (wdO d)) dqZ; rwa [World.size_alloc] at this)
  have e3 : (((W.alloc (wdO d)).alloc dqZ).alloc cfgZ).heap[W.heap.size + 2]? = some cfgZ := by have := heap_alloc_new ((W.alloc (wdO d)).alloc dqZ) cfgZ; rwa [World.size_alloc, World.size_alloc] at this
  have k0 : Below W.heap.size W (((W.alloc (wdO d)).alloc dqZ).alloc cfgZ) := (two_al W _ _).trans ((below_alloc _ _).mono (by simp; omega))
  have k2 := below_alloc u1 o
  have on : ∀ {g : Nat} {x : Obj}, (((W.alloc (wdO d)).alloc dqZ).alloc cfgZ).heap[g]? = some x → (u1.alloc o).heap[g]? = some x := fun {g x} h => (heap_alloc_old u1 _ (Nat.lt_of_lt_of_le (lt_of_block h) k.size)).trans ((k.block _ (lt_of_block h)).trans h)
  exact ⟨(k0.trans (k.mono k0.size)).trans (k2.mono (Nat.le_trans k0.size k.size)), on e1, on e2, on e3⟩
set_option maxRecDepth 100000 in
set_option maxHeartbeats 4000000 in
theorem after_no {d : Wd} (hc : d.C ≤ 9223372036854775807) (hc0 : -9223372036854775808 ≤ d.C) (hf : ¬ (3 ≤ d.C ∧ 0 ≤ d.B ∧ d.B + d.C ≤ 256)) : Calls Tryz.prog 27 #[wdV d] W fun e w' => e = .returned (.tuple #[.agg tZ, .pointer none, .agg cZ]) ∧ Below W.heap.size W w' := by
  have HMK : Hid (∀ u, _) := fun u => make_Z (w := u) hc hc0 hf
  have HFI : Hid (∀ u, _) := fun u => fits_no (b := d.B) (c := d.C) hc hc0 hf u
  obtain ⟨B, C, M, pn, ln, cn, pc, LL, cc⟩ := d
  simp only at *
  clear hc hc0 hf
  go_enter Tryz.func27, Tryz.ntmps27
  go_upto_region 2 with (go_at_call 10; refine (HMK.out _).mono ?_; rintro e u1 ⟨rfl, HQ⟩; have HQ := Lib.hid HQ)
  have HX := Lib.hid (bxz_new (d := ⟨B, C, M, pn, ln, cn, pc, LL, cc⟩) HQ.out (.cells tZ 28))
  have H5 := Lib.hid (heap_alloc_new u1 (.cells tZ 28))
  obtain ⟨u2, hu2⟩ : ∃ u2, u2 = u1.alloc (.cells tZ 28) := ⟨_, rfl⟩
  obtain ⟨g5, hg5⟩ : ∃ g5, u1.heap.size = g5 := ⟨_, rfl⟩
  rw [hg5] at H5 ⊢
  rw [← hu2] at HX H5 ⊢
  clear HQ hu2 hg5
  obtain ⟨y0, y1, y2, y3, y4, y5⟩ := cells5w HX.out.b1
  go_upto_region 4 with (go_at_call 11; refine (HFI.out _).mono ?_; rintro e v2 ⟨rfl, hw⟩; subst v2; clear HFI)
  go_wp2_with (first
    | (refine wpList_load_row rfl 28 _ rfl g5 rfl _ tZ _ _ H5.out Tryz.underlying28 rfl dqInfo ?_)
    | (refine wpList_store_row rfl 28 _ _ rfl (W.heap.size + 1) tZ rfl rfl _ _ HX.out.b2 dqInfo rfl tZ_one ?_)
    | (refine wpList_store_row rfl 48 _ _ rfl (W.heap.size + 2) cZ rfl rfl _ _ ((setRow_other _ _ _ _ (by omega)).trans HX.out.b4) cfgInfo rfl cZ_one ?_))
  have h2 := setRow_heap u2 (W.heap.size + 1) _ tZ _ _ HX.out.b2
  have h4 := (setRow_other u2 (W.heap.size + 1) (W.heap.size + 2) tZ (by omega)).trans HX.out.b4
  refine after_back rfl (W.heap.size + 1) (.pointer none) (W.heap.size + 2) rfl rfl rfl ((setRow_other _ _ _ cZ (by omega)).trans h2) rfl (setRow_heap _ _ _ cZ _ _ h4) rfl rfl ⟨rfl, ?_⟩
  have ks : ∀ (v : World) (g : Nat) (c : Array Value), W.heap.size ≤ g → Below W.heap.size v (v.setRow g c) := fun v g c hg => ⟨rfl, rfl, rfl, by simp, fun k hk => setRow_other v g k c (by omega)⟩
  exact (HX.out.bl.trans (ks _ _ _ (by omega))).trans (ks _ _ _ (by omega))
end
end Go.Proofs.YtaliehikdidiaaaGreatDoor.Dq
namespace Go.Proofs.YtaliehikdidiaaaGreatDoor.Dq
open Go.ChangeShapes Go.WideShapes Go.ChangeAt Go.RowKit Num Go.Maps As
open Go.ChangeMaps Go.MapKept
attribute [local go_sem] run_store_float frombits_run bits_run
structure Rx (F : List Nat) (w : World) (r : Option Addr × Nat × List Nat) : Prop where
  row : RowAt 74 w r.1 r.2.1 (fls r.2.2)
  sep : Sep (fpR r.1) F
theorem Rx.on {F : List Nat} {w w' : World} {r : Option Addr × Nat × List Nat} (h : Rx F w r) (k : Below w.heap.size w w') : Rx F w' r := ⟨h.row.on k, h.sep⟩
theorem Rx.turn {F : List Nat} {w w' : World} {r : Option Addr × Nat × List Nat} (h : Rx F w r) (k : Turn F F w w') : Rx F w' r := ⟨h.row.turn k h.sep, h.sep⟩
structure Lay where
  n0 : Nat
  g4 : Nat
  g6 : Nat
  q : Nat → Ptr
  b : Nat
  F : List Nat
  a : Int
  B : Nat
  R : Nat
  C : Nat
structure St (W : World) (d : Wd) (y : Lay) (rows : List (Option Addr × Nat × List Nat)) (L : List Nat) (w : World) : Prop where
  b1 : w.heap[y.n0]? = some (wdO d)
  b4 : w.heap[y.g4]? = some (tO y.q)
  b6 : w.heap[y.g6]? = some (cfgO y.a 1 1024 8)
  tx : ∃ s, TW W w y.q y.b y.F s y.a y.B y.R y.C L
  rw_ : ∀ r ∈ rows, Rx y.F w r
section
variable {W w w' : World} {d : Wd} {y : Lay} {rows : List (Option Addr × Nat × List Nat)} {L L' : List Nat}
theorem St.on (h : St W d y rows L w) (k : Below w.heap.size w w') : St W d y rows L w' := by
  obtain ⟨s, ht⟩ := h.tx
  exact ⟨(k.block _ (lt_of_block h.b1)).trans h.b1, (k.block _ (lt_of_block h.b4)).trans h.b4, (k.block _ (lt_of_block h.b6)).trans h.b6, ⟨s, ht.on k⟩, fun r hr => (h.rw_ r hr).on k⟩
theorem St.turn (h : St W d y rows L w) (t : Turn y.F y.F w w') (hx : ∃ s, TW W w' y.q y.b y.F s y.a y.B y.R y.C L') : St W d y rows L' w' := by
  obtain ⟨s, ht⟩ := h.tx
  exact ⟨ht.keep t h.b1 (by decide) (by decide), ht.keep t h.b4 (by decide) (by decide), ht.keep t h.b6 (by decide) (by decide), hx, fun r hr => (h.rw_ r hr).turn t⟩
theorem St.bl (h : St W d y rows L w) : Below W.heap.size W w := by obtain ⟨s, ht⟩ := h.tx; exact ht.bl
theorem St.sc (h : St W d y rows L w) : Sc y.g4 y.g6 y.a y.q w := sc_of2 h.b4 h.b6
theorem St.sub {rows' : List (Option Addr × Nat × List Nat)} (h : St W d y rows L w) (k : ∀ r ∈ rows', r ∈ rows) : St W d y rows' L w := ⟨h.b1, h.b4, h.b6, h.tx, fun r hr => h.rw_ r (k r hr)⟩
theorem St.fl (h : St W d y rows L w) {r : Option Addr × Nat × List Nat} (hr : r ∈ rows) : FlAt w r.1 r.2.2 := row_fl (h.rw_ r hr).row
theorem St.runs (h : St W d y rows L w) {k : Int} (h1 : 1 ≤ k) (h7 : k ≤ 7) {po : Option Addr} {n co : Nat} {l : List Nat} (hn : l.length = n) (h8 : n ≤ 8) (hl : ∀ x ∈ l, x < 18446744073709551616) (hL : FlAt w po l) :
    Calls Tryz.prog 28 #[cfgV y.a 1 1024 8, dequeA y.q, .pointer (some ⟨y.b, 0, none⟩), .int .i64 k, .slice po n co] w fun r w' => ∃ p c, r = .returned (.slice p (outS k L y.R (argF l 0)).length c) ∧ Hid (St W d y ((p, c, outS k L y.R (argF l 0)) :: rows) (nxtS k L y.R (argF l 0)) w') := by
  obtain ⟨s, ht⟩ := h.tx
  refine (runs_yes ht h1 h7 hn h8 hl hL).mono ?_
  rintro r w' ⟨p, n', c, rfl, hz⟩
  obtain ⟨m, z1, z2, z3, z4, z5, z6, z7, z8⟩ := hz.out
  have ho := z7.out
  rw [ho] at z2 z3
  refine ⟨p, c, by rw [z2], ?_⟩
  have hs := h.turn z6 ⟨_, z5⟩
  refine ⟨hs.b1, hs.b4, hs.b6, hs.tx, fun r hr => ?_⟩
  rcases List.mem_cons.1 hr with rfl | hr
  · exact ⟨z3, z4.sep ht.cel.blw⟩
  · exact hs.rw_ r hr
theorem no_args (w : World) : FlAt w none [] := fun k hk => absurd hk (Nat.not_lt_zero k)
theorem St.all (h : St W d y rows L w) : Calls Tryz.prog 28 #[cfgV y.a 1 1024 8, dequeA y.q, .pointer (some ⟨y.b, 0, none⟩), .int .i64 7, .slice none 0 0] w fun r w' => ∃ p n c, r = .returned (.slice p n c) ∧ Hid (n = L.length ∧ St W d y ((p, c, L) :: rows) L w') := by
  refine (h.runs (k := 7) (by decide) (by decide) (l := []) rfl (by decide) (fun x hx => by cases hx) (no_args w)).mono ?_
  rintro r w' ⟨p, c, rfl, hz⟩
  exact ⟨p, _, c, rfl, rfl, hz.out⟩
theorem St.len (h : St W d y rows L w) : Calls Tryz.prog 28 #[cfgV y.a 1 1024 8, dequeA y.q, .pointer (some ⟨y.b, 0, none⟩), .int .i64 6, .slice none 0 0] w fun r w' => ∃ p c, r = .returned (.slice p 1 c) ∧ Hid (St W d y ((p, c, [Tr.X (L.length : Nat)]) :: rows) L w') := by
  refine (h.runs (k := 6) (by decide) (by decide) (l := []) rfl (by decide) (fun x hx => by cases hx) (no_args w)).mono ?_
  rintro r w' ⟨p, c, rfl, hz⟩
  exact ⟨p, c, rfl, hz.out⟩
theorem St.at_ (h : St W d y rows L w) {po : Option Addr} {co x : Nat} (hx : x < 18446744073709551616) (hL : FlAt w po [x]) : Calls Tryz.prog 28 #[cfgV y.a 1 1024 8, dequeA y.q, .pointer (some ⟨y.b, 0, none⟩), .int .i64 5, .slice po 1 co] w fun r w' => ∃ p n c, r = .returned (.slice p n c) ∧ Hid (n = (atS L (fixB x)).length ∧ St W d y ((p, c, atS L (fixB x)) :: rows) L w') := by
  refine (h.runs (k := 5) (by decide) (by decide) (l := [x]) (n := 1) (co := co) rfl (by decide) (fun z hz => by rw [List.mem_singleton.1 hz]; exact hx) hL).mono ?_
  rintro r w' ⟨p, c, rfl, hz⟩
  exact ⟨p, _, c, rfl, rfl, hz.out⟩
end
end Go.Proofs.YtaliehikdidiaaaGreatDoor.Dq
namespace Go.Proofs.YtaliehikdidiaaaGreatDoor.Dq
open Go.ChangeShapes Go.WideShapes Go.ChangeAt Go.RowKit Num Go.Maps As
open Go.ChangeMaps Go.MapKept
attribute [local go_sem] run_store_float frombits_run bits_run
theorem st_new {V u : World} {d : Wd} {n0 : Nat} {q : Nat → Ptr} {b : Nat} {F s : List Nat} {a : Int} {B R C : Nat} {L : List Nat} (h : TW V u q b F s a B R C L) (hb : u.heap[n0]? = some (wdO d)) : St V d ⟨n0, u.heap.size, u.heap.size + 1, q, b, F, a, B, R, C⟩ [] L ((u.alloc (tO q)).alloc (cfgO a 1 1024 8)) := by
  have k := two_al u (tO q) (cfgO a 1 1024 8)
  have e := heap_alloc_new (u.alloc (tO q)) (cfgO a 1 1024 8)
  rw [World.size_alloc] at e
  exact ⟨(k.block _ (lt_of_block hb)).trans hb, (heap_alloc_old _ _ (by simp)).trans (heap_alloc_new u _), e, ⟨s, h.on k⟩, fun r hr => by cases hr⟩
theorem row_cell {w : World} {g c : Nat} {l : List Nat} (h : RowAt 74 w (some ⟨g, 0, none⟩) c (fls l)) {i : Nat} (hi : i < l.length) : w.cell? ⟨g, i, none⟩ = some (.float .f64 (l.getD i 0)) := by
  obtain ⟨g', e, _, hc⟩ := row_at h rfl i hi
  injection e with e
  injection e with e
  subst e
  exact hc
theorem row_cap {w : World} {p : Option Addr} {c : Nat} {xs : List Value} (h : RowAt 74 w p c xs) : xs.length ≤ c ∧ c ≤ 9223372036854775807 := by
  rcases h.own.2 with ⟨q, h0⟩ | ⟨g, cap, cur, hv, hb, hg, hc, hm, _⟩
  · injection q with _ _ q3
    subst q3
    omega
  · injection hv with _ _ q3
    subst q3
    exact ⟨hc, hm⟩
theorem below_same {w w' : World} (h : Same w w') : Below w.heap.size w w' := h.below _
theorem room_le (c : Int) : (roomV c).toNat ≤ 16 := by have := roomV_in c; omega
theorem atS_X {L : List Nat} {k : Nat} (hk : k < L.length) (h16 : L.length ≤ 16) : atS L (fixB (Tr.X (k : Nat))) = [L.getD k 0] := by
  rw [Tr.X_fix (by omega)]
  obtain ⟨i1, i2⟩ := Tr.idx_X (n := k) (m := (L.length : Nat)) (by omega)
  have e : decide (((k : Nat) : Int) < (L.length : Nat)) = true := decide_eq_true (by omega)
  unfold atS
  rw [i1, e, if_pos rfl, i2 e, Int.toNat_natCast]
theorem idx_fix (x : Nat) (n : Int) : idxB (fixB x) n = idxB x n ∧ idxV (fixB x) n = idxV x n := by
  cases h : nan x
  · rw [fixB_num h]; exact ⟨rfl, rfl⟩
  · have e1 : ∀ b, nan b = true → idxB b n = false := fun b hb => by unfold idxB; rw [hb]; rfl
    have h2 : nan (fixB x) = true := by rw [fixB_nan h]; decide +kernel
    exact ⟨(e1 _ h2).trans (e1 _ h).symm, (idx_no (e1 _ h2)).1.trans (idx_no (e1 _ h)).1.symm⟩
theorem atS_no {L : List Nat} {x : Nat} (h : idxB x (L.length : Nat) = false) : atS L (fixB x) = [] := by
  unfold atS
  rw [(idx_fix x _).1, h]
  rfl
theorem atS_yes {L : List Nat} {x : Nat} (h : idxB x (L.length : Nat) = true) : ∃ i : Nat, idxV x (L.length : Nat) = i ∧ i < L.length ∧ atS L (fixB x) = [L.getD i 0] := by
  have e := (idx_yes h).1
  refine ⟨truncN x, e, ?_, ?_⟩
  · unfold idxB at h
    simp only [Bool.and_eq_true, decide_eq_true_eq] at h
    omega
  · unfold atS
    rw [(idx_fix x _).1, (idx_fix x _).2, h, if_pos rfl, e, Int.toNat_natCast]
section
variable {W : World}
set_option maxRecDepth 100000 in
set_option maxHeartbeats 2000000 in
theorem whole_yes (hT : Shaped5 W) {d : Wd} (hd : WdIn W d) {x : Nat} (hx : x < 18446744073709551616) (hf : 3 ≤ d.C ∧ 0 ≤ d.B ∧ d.B + d.C ≤ 256) : Calls Tryz.prog 7 #[wdV d, .int .u64 (x : Int)] W fun e w' => e = .returned (.bool true) ∧ Below W.heap.size W w' := by
  have HLV : Hid (∀ u, Below W.heap.size W u → _) := fun u hu => live_any (hT.on hu)
  have HAF : Hid (∀ u, Below W.heap.size W u → _) := fun u hu => after_yes (hT.on hu) (hd.on hu) hf.1 hf.2.1 hf.2.2
  have HRO : Hid (∀ u, _) := fun u => room_any d.C hd.C.2 u
  have HX : Hid (∀ u, Below (W.alloc (wdO d)).heap.size (W.alloc (wdO d)) u → Below W.heap.size W u ∧ u.heap[W.heap.size]? = some (wdO d)) := fun u k => ⟨(below_alloc W _).trans (k.mono (by simp)), (k.block _ (by simp)).trans (heap_alloc_new W _)⟩
  obtain ⟨B, C, M, pn, ln, cn, pc, LL, cc⟩ := d
  simp only at *
  have hRC := roomV_in C
  clear hf hd hT
  go_enter Tryz.func7, Tryz.ntmps7
  go_upto_region 5 with (first
    | (go_at_call 27; refine (HAF.out _ (HX.out _ K1.out).1).mono ?_; rintro e u2 ⟨q, b, a, rfl, HZ⟩; clear HAF)
    | (go_at_call 8; refine (HLV.out _ (below_alloc W _)).mono ?_; rintro e u1 ⟨rfl, k1⟩; have K1 := Lib.hid k1; obtain ⟨y0, y1, y2, y3, y4, y5⟩ := cells5w (HX.out _ k1).2; clear k1 HLV))
  obtain ⟨F, s, hz⟩ := HZ.out
  have H := Lib.hid (st_new hz ((hz.bl.block _ y5).trans (HX.out _ K1.out).2))
  have HBW := Lib.hid ((HX.out _ K1.out).1)
  have hS0 : (foldC (roomV C).toNat LL).length ≤ (roomV C).toNat := by obtain ⟨_, hring⟩ := hz.has; exact hring.hl
  clear hz y0 y1 y2 y3 y4 y5 HZ
  generalize foldC _ LL = L at *
  obtain ⟨v0, hv0⟩ : ∃ v0, v0 = (u2.alloc (tO q)).alloc (cfgO a 1 1024 8) := ⟨_, rfl⟩
  rw [← hv0] at H ⊢
  obtain ⟨g6, hg6⟩ : ∃ g6, u2.heap.size + 1 = g6 := ⟨_, rfl⟩
  rw [hg6] at H ⊢
  obtain ⟨g4, hg4⟩ : ∃ g4, u2.heap.size = g4 := ⟨_, rfl⟩
  rw [hg4] at H ⊢
  clear hv0 hg6 hg4
  obtain ⟨l, hl⟩ : ∃ l, L.length = l := ⟨_, rfl⟩
  have HL := Lib.hid hl
  have hl16 : l ≤ 16 := by rw [← hl]; exact Nat.le_trans hS0 (room_le _)
  have hlr : (l : Int) ≤ roomV C := by rw [hl] at hS0; omega
  clear hl hS0
  go_upto_region 7 with (first
    | (go_at_call 28; refine (H1.out.2.len).mono ?_; rintro e v2 ⟨p8, c8, rfl, H2⟩; have HN7 := Lib.hid H1.out.1; clear H1)
    | (go_at_call 28; refine (H.out.all).mono ?_; rintro e v1 ⟨p7, n7, c7, rfl, H1⟩; clear H)
    | (refine wpList_load_row rfl 28 _ rfl g4 rfl _ _ _ _ H1.out.2.b4 Tryz.underlying28 rfl dqInfo ?_)
    | (refine wpList_load_row rfl 48 _ rfl g6 rfl _ _ _ _ H1.out.2.b6 Tryz.underlying48 rfl cfgInfo ?_)
    | (refine wpList_load_row rfl 28 _ rfl g4 rfl _ _ _ _ H.out.b4 Tryz.underlying28 rfl dqInfo ?_)
    | (refine wpList_load_row rfl 48 _ rfl g6 rfl _ _ _ _ H.out.b6 Tryz.underlying48 rfl cfgInfo ?_))
  have e7 : n7 = l := by rw [HN7.out, HL.out]
  subst e7
  rw [HL.out] at H2
  clear HN7
  have hXL : Tr.X (n7 : Nat) = floatOfInt .f64 (n7 : Int) := rfl
  have hm5 : ¬ roomV C < (n7 : Int) := by omega
  have hbx : v2.heap[W.heap.size]? = some (wdO ⟨B, C, M, pn, ln, cn, pc, LL, cc⟩) := H2.out.b1
  obtain ⟨y0, y1, y2, y3, y4, y5⟩ := cells5w hbx
  simp only at y1
  clear hbx y0 y2 y3 y4
  go_upto_region 9 with (first
    | (go_at_call 12; refine (HRO.out _).mono ?_; rintro e z ⟨rfl, hz⟩; subst z; clear HRO)
    | (go_at_call 24; refine (exact_any (l := [Tr.X (n7 : Nat)]) (n := 1) rfl (by decide) ((H2.out.on (below_alloc v2 _)).fl (r := (p8, c8, [Tr.X (n7 : Nat)])) (by simp)) (fl_one1 v2 _)).mono ?_; rintro e v3 ⟨rfl, qs⟩; have H3 := Lib.hid ((H2.out.sub (rows' := [(p7, c7, L)]) (by simp)).on ((below_alloc v2 _).trans (qs.below _))); clear qs H2))
  clear hm5 hXL y1 y5
  go_wp2_with fail
  go_loopw [11] (fun v9 wr => ∃ k : Nat, v9 = .int .i64 (k : Int) ∧ k ≤ n7 ∧ Hid (St u1 ⟨B, C, M, pn, ln, cn, pc, LL, cc⟩ ⟨W.heap.size, g4, g6, q, b, F, a, B.toNat, (roomV C).toNat, C.toNat⟩ [(p7, c7, L)] L wr)) (fun v9 _ => n7 - (intOf v9).toNat)
  case atStart => exact ⟨0, rfl, Nat.zero_le _, H3.out⟩
  case round =>
    obtain ⟨k, rfl, hk, HR⟩ := hrel
    by_cases hlt : k < n7
    · have hlt' : (k : Int) < (n7 : Int) := by omega
      have hkL : k < L.length := by rw [HL.out]; exact hlt
      have hat := atS_X hkL (by rw [HL.out]; exact hl16)
      obtain ⟨vv, hv⟩ : ∃ v, L.getD k 0 = v := ⟨_, rfl⟩
      rw [hv] at hat
      have hst := HR.out
      obtain ⟨g, e7, hg, _⟩ := row_at (hst.rw_ (p7, c7, L) (by simp)).row HL.out k hlt
      simp only at e7
      subst e7
      have hcap := row_cap (hst.rw_ (some ⟨g, 0, none⟩, c7, L) (by simp)).row
      rw [fls_len, HL.out] at hcap
      have HCAP : Hid (n7 ≤ c7 ∧ c7 ≤ 9223372036854775807) := hcap
      have HAT := Lib.hid hat
      have HV := Lib.hid hv
      have HRR := Lib.hid hst
      have HKL := Lib.hid hkL
      clear hat hv hst hcap HR hg hkL
      go_upto_region 13 with (first
        | (go_at_call 28; refine ((HRR.out.on (below_alloc wr _)).at_ (floatInt_lt (k : Int)) (fl_one1 wr (floatOfInt .f64 (k : Int)))).mono ?_; rintro e w6 ⟨p6, n6, c6, rfl, HG⟩)
        | (refine wpList_load_row rfl 28 _ rfl g4 rfl _ _ _ _ HRR.out.b4 Tryz.underlying28 rfl dqInfo ?_)
        | (refine wpList_load_row rfl 48 _ rfl g6 rfl _ _ _ _ HRR.out.b6 Tryz.underlying48 rfl cfgInfo ?_))
      have hn6 : n6 = 1 := HG.out.1.trans (congrArg List.length HAT.out)
      subst hn6
      have hb1 : (k : Int) + 1 ≤ 32 := by omega
      have hb2 : (k : Int) + 1 ≤ (n7 : Int) := by omega
      have hb3 : k + 1 ≤ c7 := by have := HCAP.out.1; omega
      have hb4 : (k : Int) + 1 ≤ (c7 : Int) := by omega
      have hb5 : c7 ≤ 9223372036854775807 := HCAP.out.2
      have hb6 : (c7 : Int) ≤ 9223372036854775807 := by omega
      have HSL : Hid (FlAt w6 (some ⟨g, k, none⟩) [vv]) := fun i hi => by
        have hr := (HG.out.2.rw_ (some ⟨g, 0, none⟩, c7, L) (by simp)).row
        have c1 := row_cell hr HKL.out
        rw [HV.out] at c1
        match i, hi with
        | 0, _ => exact ⟨g, k, rfl, World.block_lt_of_cell? _ _ c1, c1⟩
        | i + 1, h => exact absurd h (by simp)
      go_wp2_with (go_at_call 24; refine (exact_any (l := [vv]) (n := 1) rfl (by decide) (by have := HG.out.2.fl (r := (p6, c6, atS L (fixB (floatOfInt .f64 (k : Int))))) (by simp); rwa [show (p6, c6, atS L (fixB (floatOfInt .f64 (k : Int)))).2.2 = [vv] from HAT.out] at this) HSL.out).mono ?_; rintro e w7 ⟨rfl, q7⟩; have Q7 := Lib.hid q7; clear q7)
      exact ⟨⟨k + 1, by first | rfl | (congr 1), by omega, (HG.out.2.sub (rows' := [(some ⟨g, 0, none⟩, c7, L)]) (by simp)).on (below_same Q7.out)⟩, by simp [intOf]; omega⟩
    · have hlt' : ¬ (k : Int) < (n7 : Int) := by omega
      have HIX : Hid (∀ u, _) := fun u => refIndex_any x (n7 : Int) u hx
      have hcs : (idxB x (n7 : Int) = false ∧ atS L (fixB x) = []) ∨ (idxB x (n7 : Int) = true ∧ ∃ i : Nat, idxV x (n7 : Int) = i ∧ i < n7 ∧ atS L (fixB x) = [L.getD i 0]) := by
        have hl := HL.out
        cases h : idxB x (n7 : Int)
        · rw [← hl] at h
          exact .inl ⟨rfl, atS_no h⟩
        · refine .inr ⟨rfl, ?_⟩
          have := atS_yes (L := L) (x := x) (by rw [hl]; exact h)
          rw [hl] at this
          exact this
      have HRR := Lib.hid HR.out
      clear HR
      rcases hcs with ⟨h1, h2⟩ | ⟨h1, i, h2, h3, h4⟩
      · rw [(idx_no h1).1, (idx_no h1).2] at HIX
        have HAT := Lib.hid h2
        clear h1 h2
        go_upto_region 16 with (first
          | (go_at_call 29; refine (HIX.out _).mono ?_; rintro e z ⟨rfl, hz⟩; subst z; clear HIX)
          | (go_at_call 30; refine (raw_n x _).mono ?_; rintro e z ⟨rfl, hz⟩; subst z))
        have HD := Lib.hid (HRR.out.on ((Same.drew wr).below wr.heap.size))
        refine wp_region_seq (fun u => Sc g4 g6 a q u) ((0, true) :: (1, true) :: (2, true) :: (3, true) :: (4, false) :: (5, false) :: (6, false) :: (7, true) :: []) follows (by kernel_rfl) (fun _ _ _ _ _ h => h) HD.out.sc ?_
        (repeat ((first | (refine wpSeq_take (v := ?_) rfl (by rfl) (fun wq hSq => ?_) ?_; rotate_left; (focus ((try dsimp only at hSq); go_simp; try with_reducible rfl))) | refine wpSeq_skip rfl (by rfl) ?_); simp only [Act.put, List.setIfInBounds_toArray, List.set_cons_zero, List.set_cons_succ]))
        (refine wpSeq_do rfl (by rfl) (fun KK hK => ?_); go_simp)
        refine (raw_n x _).mono ?_
        rintro e z ⟨rfl, hz⟩
        subst z
        refine hK.out _ _ HD.out.sc ?_
        (clear hK KK; try simp only [Act.put, List.setIfInBounds_toArray, List.set_cons_zero, List.set_cons_succ])
        (repeat ((first | (refine wpSeq_take (v := ?_) rfl (by rfl) (fun wq hSq => ?_) ?_; rotate_left; (focus ((try dsimp only at hSq); go_simp; try with_reducible rfl))) | refine wpSeq_skip rfl (by rfl) ?_); simp only [Act.put, List.setIfInBounds_toArray, List.set_cons_zero, List.set_cons_succ]))
        (refine wpSeq_do rfl (by rfl) (fun KK hK => ?_); go_simp)
        have HE := Lib.hid (HD.out.on (below_alloc wr.drew (.cells #[.float .f64 x] 74)))
        refine hK.out _ _ HE.out.sc ?_
        (clear hK KK; try simp only [Act.put, List.setIfInBounds_toArray, List.set_cons_zero, List.set_cons_succ])
        (repeat ((first | (refine wpSeq_take (v := ?_) rfl (by rfl) (fun wq hSq => ?_) ?_; rotate_left; (focus ((try dsimp only at hSq); go_simp; try with_reducible rfl))) | refine wpSeq_skip rfl (by rfl) ?_); simp only [Act.put, List.setIfInBounds_toArray, List.set_cons_zero, List.set_cons_succ]))
        (refine wpSeq_do rfl (by rfl) (fun KK hK => ?_); go_simp)
        refine (HE.out.at_ hx (fl_one1 wr.drew x)).mono ?_
        rintro e w6 ⟨p6, n6, c6, rfl, HG⟩
        refine hK.out _ _ HG.out.2.sc ?_
        (clear hK KK; try simp only [Act.put, List.setIfInBounds_toArray, List.set_cons_zero, List.set_cons_succ])
        (repeat ((first | (refine wpSeq_take (v := ?_) rfl (by rfl) (fun wq hSq => ?_) ?_; rotate_left; (focus ((try dsimp only at hSq); go_simp; try with_reducible rfl))) | refine wpSeq_skip rfl (by rfl) ?_); simp only [Act.put, List.setIfInBounds_toArray, List.set_cons_zero, List.set_cons_succ]))
        refine wpSeq_nil ?_
        clear HD HE
        have hn6 : n6 = 0 := HG.out.1.trans (congrArg List.length HAT.out)
        subst hn6
        have HEND := Lib.hid (HBW.out.trans (HG.out.2.bl.mono HBW.out.size))
        go_wp2_with fail
        go_ret
        exact ⟨rfl, HEND.out⟩
      · rw [(idx_yes h1).2, h2] at HIX
        have HAT := Lib.hid h4
        have hkL : i < L.length := by rw [HL.out]; exact h3
        obtain ⟨vv, hv⟩ : ∃ v, L.getD i 0 = v := ⟨_, rfl⟩
        rw [hv] at HAT
        obtain ⟨g, e7, hg, _⟩ := row_at (HRR.out.rw_ (p7, c7, L) (by simp)).row HL.out i h3
        simp only at e7
        subst e7
        have hcap := row_cap (HRR.out.rw_ (some ⟨g, 0, none⟩, c7, L) (by simp)).row
        rw [fls_len, HL.out] at hcap
        have HCAP : Hid (n7 ≤ c7 ∧ c7 ≤ 9223372036854775807) := hcap
        have HV := Lib.hid hv
        have HKL := Lib.hid hkL
        clear h1 h2 h4 hkL hv hg hcap
        go_upto_region 16 with (first
          | (go_at_call 29; refine (HIX.out _).mono ?_; rintro e z ⟨rfl, hz⟩; subst z; clear HIX)
          | (go_at_call 30; refine (raw_n x _).mono ?_; rintro e z ⟨rfl, hz⟩; subst z))
        have HD := Lib.hid (HRR.out.on ((Same.drew wr).below wr.heap.size))
        refine wp_region_seq (fun u => Sc g4 g6 a q u) ((0, true) :: (1, true) :: (2, true) :: (3, true) :: (4, false) :: (5, false) :: (6, false) :: (7, true) :: []) follows (by kernel_rfl) (fun _ _ _ _ _ h => h) HD.out.sc ?_
        (repeat ((first | (refine wpSeq_take (v := ?_) rfl (by rfl) (fun wq hSq => ?_) ?_; rotate_left; (focus ((try dsimp only at hSq); go_simp; try with_reducible rfl))) | refine wpSeq_skip rfl (by rfl) ?_); simp only [Act.put, List.setIfInBounds_toArray, List.set_cons_zero, List.set_cons_succ]))
        (refine wpSeq_do rfl (by rfl) (fun KK hK => ?_); go_simp)
        refine (raw_n x _).mono ?_
        rintro e z ⟨rfl, hz⟩
        subst z
        refine hK.out _ _ HD.out.sc ?_
        (clear hK KK; try simp only [Act.put, List.setIfInBounds_toArray, List.set_cons_zero, List.set_cons_succ])
        (repeat ((first | (refine wpSeq_take (v := ?_) rfl (by rfl) (fun wq hSq => ?_) ?_; rotate_left; (focus ((try dsimp only at hSq); go_simp; try with_reducible rfl))) | refine wpSeq_skip rfl (by rfl) ?_); simp only [Act.put, List.setIfInBounds_toArray, List.set_cons_zero, List.set_cons_succ]))
        (refine wpSeq_do rfl (by rfl) (fun KK hK => ?_); go_simp)
        have HE := Lib.hid (HD.out.on (below_alloc wr.drew (.cells #[.float .f64 x] 74)))
        refine hK.out _ _ HE.out.sc ?_
        (clear hK KK; try simp only [Act.put, List.setIfInBounds_toArray, List.set_cons_zero, List.set_cons_succ])
        (repeat ((first | (refine wpSeq_take (v := ?_) rfl (by rfl) (fun wq hSq => ?_) ?_; rotate_left; (focus ((try dsimp only at hSq); go_simp; try with_reducible rfl))) | refine wpSeq_skip rfl (by rfl) ?_); simp only [Act.put, List.setIfInBounds_toArray, List.set_cons_zero, List.set_cons_succ]))
        (refine wpSeq_do rfl (by rfl) (fun KK hK => ?_); go_simp)
        refine (HE.out.at_ hx (fl_one1 wr.drew x)).mono ?_
        rintro e w6 ⟨p6, n6, c6, rfl, HG⟩
        refine hK.out _ _ HG.out.2.sc ?_
        (clear hK KK; try simp only [Act.put, List.setIfInBounds_toArray, List.set_cons_zero, List.set_cons_succ])
        (repeat ((first | (refine wpSeq_take (v := ?_) rfl (by rfl) (fun wq hSq => ?_) ?_; rotate_left; (focus ((try dsimp only at hSq); go_simp; try with_reducible rfl))) | refine wpSeq_skip rfl (by rfl) ?_); simp only [Act.put, List.setIfInBounds_toArray, List.set_cons_zero, List.set_cons_succ]))
        refine wpSeq_nil ?_
        clear HD HE
        have hn6 : n6 = 1 := HG.out.1.trans (congrArg List.length HAT.out)
        subst hn6
        have hb1 : (i : Int) + 1 ≤ 32 := by omega
        have hb2 : (i : Int) + 1 ≤ (n7 : Int) := by omega
        have hb3 : i + 1 ≤ c7 := by have := HCAP.out.1; omega
        have hb4 : (i : Int) + 1 ≤ (c7 : Int) := by omega
        have hb5 : c7 ≤ 9223372036854775807 := HCAP.out.2
        have hb6 : (c7 : Int) ≤ 9223372036854775807 := by omega
        have HSL : Hid (FlAt w6 (some ⟨g, i, none⟩) [vv]) := fun j hj => by
          have hr := (HG.out.2.rw_ (some ⟨g, 0, none⟩, c7, L) (by simp)).row
          have c1 := row_cell hr HKL.out
          rw [HV.out] at c1
          match j, hj with
          | 0, _ => exact ⟨g, i, rfl, World.block_lt_of_cell? _ _ c1, c1⟩
          | j + 1, h => exact absurd h (by simp)
        go_wp2_with (go_at_call 24; refine (exact_any (l := [vv]) (n := 1) rfl (by decide) (by have := HG.out.2.fl (r := (p6, c6, atS L (fixB x))) (by simp); rwa [show (p6, c6, atS L (fixB x)).2.2 = [vv] from HAT.out] at this) HSL.out).mono ?_; rintro e w7 ⟨rfl, q7⟩; have Q7 := Lib.hid q7; clear q7)
        go_ret
        exact ⟨rfl, (HBW.out.trans (HG.out.2.bl.mono HBW.out.size)).trans ((below_same Q7.out).mono (HBW.out.trans (HG.out.2.bl.mono HBW.out.size)).size)⟩
set_option maxRecDepth 100000 in
set_option maxHeartbeats 400000 in
theorem whole_any (hT : Shaped5 W) {d : Wd} (hd : WdIn W d) {x : Nat} (hx : x < 18446744073709551616) : Calls Tryz.prog 7 #[wdV d, .int .u64 (x : Int)] W fun e w' => e = .returned (.bool true) ∧ Below W.heap.size W w' := by
  by_cases hf : 3 ≤ d.C ∧ 0 ≤ d.B ∧ d.B + d.C ≤ 256
  · exact whole_yes hT hd hx hf
  · have HLV : Hid (∀ u, Below W.heap.size W u → _) := fun u hu => live_any (hT.on hu)
    have hc : d.C ≤ 9223372036854775807 ∧ -9223372036854775808 ≤ d.C := ⟨hd.C.2, hd.C.1⟩
    have HAF : Hid (∀ u, _) := fun u => after_no (W := u) hc.1 hc.2 hf
    have HX : Hid (∀ u, Below (W.alloc (wdO d)).heap.size (W.alloc (wdO d)) u → Below W.heap.size W u ∧ u.heap[W.heap.size]? = some (wdO d)) := fun u k => ⟨(below_alloc W _).trans (k.mono (by simp)), (k.block _ (by simp)).trans (heap_alloc_new W _)⟩
    obtain ⟨B, C, M, pn, ln, cn, pc, LL, cc⟩ := d
    simp only at *
    clear hf hd hT hc
    go_enter Tryz.func7, Tryz.ntmps7
    go_wp2_with (first
      | (go_at_call 27; refine (HAF.out _).mono ?_; rintro e u2 ⟨rfl, k2⟩; have K2 := Lib.hid k2; clear HAF k2)
      | (go_at_call 8; refine (HLV.out _ (below_alloc W _)).mono ?_; rintro e u1 ⟨rfl, k1⟩; have K1 := Lib.hid k1; obtain ⟨y0, y1, y2, y3, y4, y5⟩ := cells5w (HX.out _ k1).2; clear k1 HLV))
    go_ret
    have hb := (HX.out _ K1.out).1
    exact ⟨rfl, (hb.trans (K2.out.mono hb.size)).trans ((two_al u2 _ _).mono (Nat.le_trans hb.size K2.out.size))⟩
end
end Go.Proofs.YtaliehikdidiaaaGreatDoor.Dq
