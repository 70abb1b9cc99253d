/- stage 20 (tree): what the program's functions of ops make -/
import Derived.Test.YthnpgbmagfhgpaaDoorQE
import Derived.Test.YthnpgbmagfhgpaaDoorSq
namespace Go.Proofs.YthnpgbmagfhgpaaDoor.Tr
open Go.ChangeShapes Go.WideShapes Go.ChangeAt Go.RowKit Num Go.Maps As
open Go.ChangeMaps Go.MapKept
attribute [local go_sem] run_store_float frombits_run bits_run

/-- a list of ops that was made -/
def Op1 (w : World) (g n c : Nat) (l : List O) : Prop := n = l.length ∧ 0 < n ∧ OpsW w (some ⟨g, 0, none⟩) c n l
theorem Op1.on {w w' : World} {g n c : Nat} {l : List O} (h : Op1 w g n c l) (k : Below w.heap.size w w') : Op1 w' g n c l := ⟨h.1, h.2.1, h.2.2.keep (kept_below k h.2.2.blw)⟩
/-- what a function of ops answers -/
def Gv (W : World) (l : List O) (e : Ending) (w' : World) : Prop := ∃ g n c, e = .returned (.slice (some ⟨g, 0, none⟩) n c) ∧ Hid (Op1 w' g n c l ∧ Below W.heap.size W w')
structure It where
  g : Nat
  n : Nat
  c : Nat
  l : List O
def It.v (t : It) : Value := .slice (some ⟨t.g, 0, none⟩) t.n t.c
/-- what was made since W, the latest first -/
structure Acc (W u : World) (L : List It) : Prop where
  bl : Below W.heap.size W u
  it : ∀ t ∈ L, Op1 u t.g t.n t.c t.l
theorem acc_nil {W u : World} (h : Below W.heap.size W u) : Acc W u [] := ⟨h, fun t ht => by cases ht⟩
theorem Acc.on {W u u' : World} {L : List It} (h : Acc W u L) (k : Below u.heap.size u u') : Acc W u' L := ⟨h.bl.trans (k.mono h.bl.size), fun t ht => (h.it t ht).on k⟩
theorem Acc.more {W u u' : World} {L : List It} {g n c : Nat} {l : List O} (h : Acc W u L) (k : Op1 u' g n c l ∧ Below u.heap.size u u') : Acc W u' (⟨g, n, c, l⟩ :: L) :=
  ⟨(h.on k.2).bl, fun t ht => by rcases List.mem_cons.1 ht with rfl | ht; exact k.1; exact (h.on k.2).it t ht⟩
theorem Acc.also {W u : World} {L : List It} {g n c : Nat} {l : List O} (h : Acc W u L) (k : Op1 u g n c l) : Acc W u (⟨g, n, c, l⟩ :: L) :=
  ⟨h.bl, fun t ht => by rcases List.mem_cons.1 ht with rfl | ht; exact k; exact h.it t ht⟩
theorem Acc.pop {W u : World} {L : List It} {i : It} (h : Acc W u (i :: L)) : Acc W u L := ⟨h.bl, fun t ht => h.it t (List.mem_cons_of_mem _ ht)⟩
theorem Acc.fst {W u : World} {L : List It} {g n c : Nat} {l : List O} (h : Acc W u (⟨g, n, c, l⟩ :: L)) : Op1 u g n c l := h.it _ (List.mem_cons_self ..)
theorem Acc.snd {W u : World} {L : List It} {i : It} {g n c : Nat} {l : List O} (h : Acc W u (i :: ⟨g, n, c, l⟩ :: L)) : Op1 u g n c l := h.pop.fst
/-- laid side by side -/
theorem Acc.parts {W u : World} {L : List It} (h : Acc W u L) {vs : Array Value} (hv : (L.reverse.map It.v).toArray = vs) {T : TypeId} : Parts (u.alloc (.cells vs T)) u.heap.size (L.reverse.map It.l) := by
  subst hv
  refine ⟨by simp, fun i hi => ?_⟩
  rw [List.length_map] at hi
  have hm : L.reverse[i] ∈ L := List.mem_reverse.1 (List.getElem_mem hi)
  have h1 := (h.it _ hm).on (bl1 u (.cells (L.reverse.map It.v).toArray T))
  have e : (L.reverse.map It.l).getD i [] = L.reverse[i].l := by simp [List.getD_eq_getElem?_getD, List.length_reverse ▸ hi]
  rw [e, ← h1.1]
  refine ⟨L.reverse[i].g, L.reverse[i].c, ?_, h1.2.1, h1.2.2⟩
  rw [cell_of_row _ _ i _ _ _ (heap_alloc_new _ _)]
  rw [List.getElem?_toArray, List.getElem?_map, List.getElem?_eq_getElem hi]
  rfl
theorem join_new {w : World} {b k cc : Nat} {Ls : List (List O)} (h : Parts w b Ls) (hk : Ls.length = k) (h0 : 0 < sumL Ls) (hs : sumL Ls ≤ 4096) (hk2 : k ≤ 4096) : Calls Tryd.prog 47 #[.slice (some ⟨b, 0, none⟩) k cc] w fun e w' => ∃ g n c, e = .returned (.slice (some ⟨g, 0, none⟩) n c) ∧ Hid ((Op1 w' g n c Ls.flatten ∧ Below w.heap.size w w') ∧ w.heap.size ≤ g) := by
  have HC := Lib.hid (concat_any (cc := cc) h hk h0 hs hk2)
  have H0 : Hid (0 < sumL Ls) := h0
  clear h hk h0 hs hk2
  go_enter Tryd.func47, Tryd.ntmps47
  go_wp2_with (go_at_call 54; refine HC.out.mono ?_; rintro e u ⟨g, n, c, rfl, hR⟩; clear HC)
  go_ret
  exact ⟨g, n, c, rfl, ⟨⟨hR.out.1, by rw [hR.out.1]; exact H0.out, hR.out.2.1⟩, hR.out.2.2.1⟩, hR.out.2.2.2⟩
theorem join_parts {w : World} {b k cc : Nat} {Ls : List (List O)} (h : Parts w b Ls) (hk : Ls.length = k) (h0 : 0 < sumL Ls) (hs : sumL Ls ≤ 4096) (hk2 : k ≤ 4096) : Calls Tryd.prog 47 #[.slice (some ⟨b, 0, none⟩) k cc] w fun e w' => Gv w Ls.flatten e w' := by
  refine (join_new h hk h0 hs hk2).mono ?_
  rintro e w' ⟨g, n, c, rfl, hR⟩
  exact ⟨g, n, c, rfl, hR.out.1⟩
theorem join_acc {W u : World} {L : List It} {vs : Array Value} {T : TypeId} {k : Nat} (h : Acc W u L) (hv : (L.reverse.map It.v).toArray = vs) (hk : L.length = k) (h0 : 0 < sumL (L.reverse.map It.l)) (hs : sumL (L.reverse.map It.l) ≤ 4096) (hk2 : k ≤ 4096) : Calls Tryd.prog 47 #[.slice (some ⟨u.heap.size, 0, none⟩) k k] (u.alloc (.cells vs T)) fun e w' => Gv W (L.reverse.map It.l).flatten e w' := by
  refine (join_parts (h.parts hv) (by simpa using hk) h0 hs hk2).mono ?_
  rintro e w' ⟨g, n, c, rfl, hR⟩
  exact ⟨g, n, c, rfl, hR.out.1, h.bl.trans (((bl1 u _).trans (hR.out.2.mono (by simp))).mono h.bl.size)⟩
/-- one op, made -/
theorem op_new {w : World} {a b d : Int} : Op1 (w.alloc (.cells #[.int .i64 a, .int .i64 b, .int .i64 d] 48)) w.heap.size 1 1 [⟨a, b, d⟩] :=
  ⟨rfl, by decide, ⟨⟨rfl, .inr ⟨w.heap.size, 1, _, rfl, Nat.zero_le _, heap_alloc_new _ _, Nat.le_refl _, by decide, rfl, rfl⟩⟩⟩⟩

theorem Acc.take {W u : World} {L : List It} (h : Acc W u L) (k : Nat) : Acc W u (L.take k) := ⟨h.bl, fun t ht => h.it t (List.mem_of_mem_take ht)⟩
theorem Acc.drop {W u : World} {L : List It} (h : Acc W u L) (k : Nat) : Acc W u (L.drop k) := ⟨h.bl, fun t ht => h.it t (List.mem_of_mem_drop ht)⟩
theorem Acc.over {W u u' : World} {L : List It} {o : Obj} {g n c : Nat} {l : List O} (h : Acc W u L) (k : Op1 u' g n c l ∧ Below (u.alloc o).heap.size (u.alloc o) u') : Acc W u' (⟨g, n, c, l⟩ :: L) := (h.on (bl1 u o)).more k
section
variable {w : World} {B R : Int}

def oPush (n : Int) : List O := [⟨1, 0, n⟩]
theorem oPush_len (n : Int) : (oPush n).length = 1 := rfl
theorem g_push (n : Int) (w : World) : Calls Tryd.prog 24 #[.int .i64 n] w fun e w' => Gv w (oPush n) e w' := by
  go_enter Tryd.func24, Tryd.ntmps24
  go_wp2
  go_ret
  exact ⟨_, _, _, rfl, op_new, bl1 _ _⟩

def oTo (c : Int) (l : Int) : List O := [⟨2, c, l⟩]
theorem oTo_len (c : Int) (l : Int) : (oTo c l).length = 1 := rfl
theorem g_to (c : Int) (l : Int) (w : World) : Calls Tryd.prog 26 #[.int .i64 c, .int .i64 l] w fun e w' => Gv w (oTo c l) e w' := by
  go_enter Tryd.func26, Tryd.ntmps26
  go_wp2
  go_ret
  exact ⟨_, _, _, rfl, op_new, bl1 _ _⟩

def oMark (l : Int) : List O := [⟨3, 0, l⟩]
theorem oMark_len (l : Int) : (oMark l).length = 1 := rfl
theorem g_mark (l : Int) (w : World) : Calls Tryd.prog 15 #[.int .i64 l] w fun e w' => Gv w (oMark l) e w' := by
  go_enter Tryd.func15, Tryd.ntmps15
  go_wp2
  go_ret
  exact ⟨_, _, _, rfl, op_new, bl1 _ _⟩

def oDo (c : Int) (n : Int) : List O := [⟨0, c, n⟩]
theorem oDo_len (c : Int) (n : Int) : (oDo c n).length = 1 := rfl
theorem g_do (c : Int) (n : Int) (w : World) : Calls Tryd.prog 27 #[.int .i64 c, .int .i64 n] w fun e w' => Gv w (oDo c n) e w' := by
  go_enter Tryd.func27, Tryd.ntmps27
  go_wp2
  go_ret
  exact ⟨_, _, _, rfl, op_new, bl1 _ _⟩

def oOne (n : Int) : List O := oDo (9) (n)
theorem oOne_len (n : Int) : (oOne n).length = 1 := rfl
set_option maxHeartbeats 1000000 in
set_option maxRecDepth 100000 in
theorem g_one (n : Int) (w : World) : Calls Tryd.prog 42 #[.int .i64 n] w fun e w' => Gv w (oOne n) e w' := by
  have A : Hid (Acc w w []) := acc_nil (Below.refl _ _)
  go_enter Tryd.func42, Tryd.ntmps42
  go_wp2_with (first
    | (go_at_call 27; refine (g_do _ _ _).mono ?_; rintro e u ⟨g, n, c, rfl, h⟩; replace A := Lib.hid (A.out.more h.out); clear h))
  go_ret
  exact ⟨g, n, c, rfl, A.out.fst, A.out.bl⟩

def oTwo (n : Int) : List O := oDo (10) (n)
theorem oTwo_len (n : Int) : (oTwo n).length = 1 := rfl
set_option maxHeartbeats 1000000 in
set_option maxRecDepth 100000 in
theorem g_two (n : Int) (w : World) : Calls Tryd.prog 25 #[.int .i64 n] w fun e w' => Gv w (oTwo n) e w' := by
  have A : Hid (Acc w w []) := acc_nil (Below.refl _ _)
  go_enter Tryd.func25, Tryd.ntmps25
  go_wp2_with (first
    | (go_at_call 27; refine (g_do _ _ _).mono ?_; rintro e u ⟨g, n, c, rfl, h⟩; replace A := Lib.hid (A.out.more h.out); clear h))
  go_ret
  exact ⟨g, n, c, rfl, A.out.fst, A.out.bl⟩

def oArg (n : Int) : List O := oDo (6) (n)
theorem oArg_len (n : Int) : (oArg n).length = 1 := rfl
set_option maxHeartbeats 1000000 in
set_option maxRecDepth 100000 in
theorem g_arg (n : Int) (w : World) : Calls Tryd.prog 20 #[.int .i64 n] w fun e w' => Gv w (oArg n) e w' := by
  have A : Hid (Acc w w []) := acc_nil (Below.refl _ _)
  go_enter Tryd.func20, Tryd.ntmps20
  go_wp2_with (first
    | (go_at_call 27; refine (g_do _ _ _).mono ?_; rintro e u ⟨g, n, c, rfl, h⟩; replace A := Lib.hid (A.out.more h.out); clear h))
  go_ret
  exact ⟨g, n, c, rfl, A.out.fst, A.out.bl⟩

def oGet (l : Int) : List O := oDo (7) (l)
theorem oGet_len (l : Int) : (oGet l).length = 1 := rfl
set_option maxHeartbeats 1000000 in
set_option maxRecDepth 100000 in
theorem g_get (l : Int) (w : World) : Calls Tryd.prog 30 #[.int .i64 l] w fun e w' => Gv w (oGet l) e w' := by
  have A : Hid (Acc w w []) := acc_nil (Below.refl _ _)
  go_enter Tryd.func30, Tryd.ntmps30
  go_wp2_with (first
    | (go_at_call 27; refine (g_do _ _ _).mono ?_; rintro e u ⟨g, n, c, rfl, h⟩; replace A := Lib.hid (A.out.more h.out); clear h))
  go_ret
  exact ⟨g, n, c, rfl, A.out.fst, A.out.bl⟩

def oSet (l : Int) : List O := oDo (8) (l)
theorem oSet_len (l : Int) : (oSet l).length = 1 := rfl
set_option maxHeartbeats 1000000 in
set_option maxRecDepth 100000 in
theorem g_set (l : Int) (w : World) : Calls Tryd.prog 29 #[.int .i64 l] w fun e w' => Gv w (oSet l) e w' := by
  have A : Hid (Acc w w []) := acc_nil (Below.refl _ _)
  go_enter Tryd.func29, Tryd.ntmps29
  go_wp2_with (first
    | (go_at_call 27; refine (g_do _ _ _).mono ?_; rintro e u ⟨g, n, c, rfl, h⟩; replace A := Lib.hid (A.out.more h.out); clear h))
  go_ret
  exact ⟨g, n, c, rfl, A.out.fst, A.out.bl⟩

def oRead  : List O := oDo (16) (0)
theorem oRead_len  : (oRead).length = 1 := rfl
set_option maxHeartbeats 1000000 in
set_option maxRecDepth 100000 in
theorem g_read  (w : World) : Calls Tryd.prog 50 #[] w fun e w' => Gv w (oRead) e w' := by
  have A : Hid (Acc w w []) := acc_nil (Below.refl _ _)
  go_enter Tryd.func50, Tryd.ntmps50
  go_wp2_with (first
    | (go_at_call 27; refine (g_do _ _ _).mono ?_; rintro e u ⟨g, n, c, rfl, h⟩; replace A := Lib.hid (A.out.more h.out); clear h))
  go_ret
  exact ⟨g, n, c, rfl, A.out.fst, A.out.bl⟩

def oWrite  : List O := oDo (17) (0)
theorem oWrite_len  : (oWrite).length = 1 := rfl
set_option maxHeartbeats 1000000 in
set_option maxRecDepth 100000 in
theorem g_write  (w : World) : Calls Tryd.prog 32 #[] w fun e w' => Gv w (oWrite) e w' := by
  have A : Hid (Acc w w []) := acc_nil (Below.refl _ _)
  go_enter Tryd.func32, Tryd.ntmps32
  go_wp2_with (first
    | (go_at_call 27; refine (g_do _ _ _).mono ?_; rintro e u ⟨g, n, c, rfl, h⟩; replace A := Lib.hid (A.out.more h.out); clear h))
  go_ret
  exact ⟨g, n, c, rfl, A.out.fst, A.out.bl⟩

def oEmit  : List O := oDo (18) (0)
theorem oEmit_len  : (oEmit).length = 1 := rfl
set_option maxHeartbeats 1000000 in
set_option maxRecDepth 100000 in
theorem g_emit  (w : World) : Calls Tryd.prog 17 #[] w fun e w' => Gv w (oEmit) e w' := by
  have A : Hid (Acc w w []) := acc_nil (Below.refl _ _)
  go_enter Tryd.func17, Tryd.ntmps17
  go_wp2_with (first
    | (go_at_call 27; refine (g_do _ _ _).mono ?_; rintro e u ⟨g, n, c, rfl, h⟩; replace A := Lib.hid (A.out.more h.out); clear h))
  go_ret
  exact ⟨g, n, c, rfl, A.out.fst, A.out.bl⟩

def oHalt  : List O := oDo (20) (0)
theorem oHalt_len  : (oHalt).length = 1 := rfl
set_option maxHeartbeats 1000000 in
set_option maxRecDepth 100000 in
theorem g_halt  (w : World) : Calls Tryd.prog 18 #[] w fun e w' => Gv w (oHalt) e w' := by
  have A : Hid (Acc w w []) := acc_nil (Below.refl _ _)
  go_enter Tryd.func18, Tryd.ntmps18
  go_wp2_with (first
    | (go_at_call 27; refine (g_do _ _ _).mono ?_; rintro e u ⟨g, n, c, rfl, h⟩; replace A := Lib.hid (A.out.more h.out); clear h))
  go_ret
  exact ⟨g, n, c, rfl, A.out.fst, A.out.bl⟩

def oTell (n : Int) : List O := ([oPush (n), oEmit, oHalt]).flatten
theorem oTell_len (n : Int) : (oTell n).length = 3 := rfl
set_option maxHeartbeats 1000000 in
set_option maxRecDepth 100000 in
theorem g_tell (n : Int) (w : World) : Calls Tryd.prog 21 #[.int .i64 n] w fun e w' => Gv w (oTell n) e w' := by
  have A : Hid (Acc w w []) := acc_nil (Below.refl _ _)
  go_enter Tryd.func21, Tryd.ntmps21
  go_wp2_with (first
    | (go_at_call 47; refine (join_acc A.out rfl rfl (Nat.le_of_ble_eq_true rfl) (Nat.le_of_ble_eq_true rfl) (Nat.le_of_ble_eq_true rfl)).mono ?_; rintro e u ⟨g, n, c, rfl, hZ⟩; clear A)
    | (go_at_call 24; refine (g_push _ _).mono ?_; rintro e u ⟨g, n, c, rfl, h⟩; replace A := Lib.hid (A.out.more h.out); clear h)
    | (go_at_call 17; refine (g_emit _).mono ?_; rintro e u ⟨g, n, c, rfl, h⟩; replace A := Lib.hid (A.out.more h.out); clear h)
    | (go_at_call 18; refine (g_halt _).mono ?_; rintro e u ⟨g, n, c, rfl, h⟩; replace A := Lib.hid (A.out.more h.out); clear h))
  go_ret
  exact ⟨g, n, c, rfl, hZ.out.1, hZ.out.2⟩

def oCell (l : Int) (f : Int) : List O := ([oGet (l), oPush (f), oTwo (1)]).flatten
theorem oCell_len (l : Int) (f : Int) : (oCell l f).length = 3 := rfl
set_option maxHeartbeats 1000000 in
set_option maxRecDepth 100000 in
theorem g_cell (l : Int) (f : Int) (w : World) : Calls Tryd.prog 37 #[.int .i64 l, .int .i64 f] w fun e w' => Gv w (oCell l f) e w' := by
  have A : Hid (Acc w w []) := acc_nil (Below.refl _ _)
  go_enter Tryd.func37, Tryd.ntmps37
  go_wp2_with (first
    | (go_at_call 47; refine (join_acc A.out rfl rfl (Nat.le_of_ble_eq_true rfl) (Nat.le_of_ble_eq_true rfl) (Nat.le_of_ble_eq_true rfl)).mono ?_; rintro e u ⟨g, n, c, rfl, hZ⟩; clear A)
    | (go_at_call 30; refine (g_get _ _).mono ?_; rintro e u ⟨g, n, c, rfl, h⟩; replace A := Lib.hid (A.out.more h.out); clear h)
    | (go_at_call 24; refine (g_push _ _).mono ?_; rintro e u ⟨g, n, c, rfl, h⟩; replace A := Lib.hid (A.out.more h.out); clear h)
    | (go_at_call 25; refine (g_two _ _).mono ?_; rintro e u ⟨g, n, c, rfl, h⟩; replace A := Lib.hid (A.out.more h.out); clear h))
  go_ret
  exact ⟨g, n, c, rfl, hZ.out.1, hZ.out.2⟩

def oLoad (l : Int) (f : Int) : List O := ([oCell (l) (f), oRead]).flatten
theorem oLoad_len (l : Int) (f : Int) : (oLoad l f).length = 4 := rfl
set_option maxHeartbeats 1000000 in
set_option maxRecDepth 100000 in
theorem g_load (l : Int) (f : Int) (w : World) : Calls Tryd.prog 16 #[.int .i64 l, .int .i64 f] w fun e w' => Gv w (oLoad l f) e w' := by
  have A : Hid (Acc w w []) := acc_nil (Below.refl _ _)
  go_enter Tryd.func16, Tryd.ntmps16
  go_wp2_with (first
    | (go_at_call 47; refine (join_acc A.out rfl rfl (Nat.le_of_ble_eq_true rfl) (Nat.le_of_ble_eq_true rfl) (Nat.le_of_ble_eq_true rfl)).mono ?_; rintro e u ⟨g, n, c, rfl, hZ⟩; clear A)
    | (go_at_call 37; refine (g_cell _ _ _).mono ?_; rintro e u ⟨g, n, c, rfl, h⟩; replace A := Lib.hid (A.out.more h.out); clear h)
    | (go_at_call 50; refine (g_read _).mono ?_; rintro e u ⟨g, n, c, rfl, h⟩; replace A := Lib.hid (A.out.more h.out); clear h))
  go_ret
  exact ⟨g, n, c, rfl, hZ.out.1, hZ.out.2⟩

def oStore (l : Int) (f : Int) (Ls : List (List O)) : List O := ([(Ls).flatten, oCell (l) (f), oWrite]).flatten
theorem oStore_len (l : Int) (f : Int) (Ls : List (List O)) : (oStore l f Ls).length = sumL Ls + 4 := by simp [oStore, sumL, oWrite_len, oCell_len]; try omega
set_option maxHeartbeats 1000000 in
set_option maxRecDepth 100000 in
theorem g_store {b k cc : Nat} {Ls : List (List O)} (hp : Parts w b Ls) (hk : Ls.length = k) (h0 : 0 < sumL Ls) (h1 : sumL Ls ≤ 100) (h2 : k ≤ 4096) (l : Int) (f : Int) : Calls Tryd.prog 19 #[.int .i64 l, .int .i64 f, .slice (some ⟨b, 0, none⟩) k cc] w fun e w' => Gv w (oStore l f Ls) e w' := by
  have HP : Hid (Parts w b Ls) := hp
  have HK := Lib.hid hk
  have H0 := Lib.hid h0
  have H1 : Hid (sumL Ls ≤ 4096) := Nat.le_trans h1 (by decide)
  have H3 := Lib.hid h1
  have H2 := Lib.hid h2
  clear hp hk h0 h1 h2
  have A : Hid (Acc w w []) := acc_nil (Below.refl _ _)
  go_enter Tryd.func19, Tryd.ntmps19
  go_wp2_with (first
    | (go_at_call 47; refine (join_parts (HP.out.on A.out.bl) HK.out H0.out H1.out H2.out).mono ?_; rintro e u ⟨g, n, c, rfl, h⟩; replace A := Lib.hid (A.out.more h.out); have HJ := Lib.hid (And.intro H0.out H3.out); clear h HP HK H0 H1 H2 H3)
    | (go_at_call 47; refine (join_acc A.out rfl rfl (by have h7 := HJ.out.2; simp [sumL] at h7; simp [sumL, oWrite_len, oCell_len] <;> omega) (by have h7 := HJ.out.2; simp [sumL] at h7; simp [sumL, oWrite_len, oCell_len] <;> omega) (Nat.le_of_ble_eq_true rfl)).mono ?_; rintro e u ⟨g, n, c, rfl, hZ⟩; clear A)
    | (go_at_call 37; refine (g_cell _ _ _).mono ?_; rintro e u ⟨g, n, c, rfl, h⟩; replace A := Lib.hid (A.out.more h.out); clear h)
    | (go_at_call 32; refine (g_write _).mono ?_; rintro e u ⟨g, n, c, rfl, h⟩; replace A := Lib.hid (A.out.more h.out); clear h))
  go_ret
  exact ⟨g, n, c, rfl, hZ.out.1, hZ.out.2⟩

def oEmitPair (l : Int) : List O := ([oLoad (l) (0), oEmit, oLoad (l) (1), oEmit]).flatten
theorem oEmitPair_len (l : Int) : (oEmitPair l).length = 10 := rfl
set_option maxHeartbeats 1000000 in
set_option maxRecDepth 100000 in
theorem g_emitPair (l : Int) (w : World) : Calls Tryd.prog 44 #[.int .i64 l] w fun e w' => Gv w (oEmitPair l) e w' := by
  have A : Hid (Acc w w []) := acc_nil (Below.refl _ _)
  go_enter Tryd.func44, Tryd.ntmps44
  go_wp2_with (first
    | (go_at_call 47; refine (join_acc A.out rfl rfl (Nat.le_of_ble_eq_true rfl) (Nat.le_of_ble_eq_true rfl) (Nat.le_of_ble_eq_true rfl)).mono ?_; rintro e u ⟨g, n, c, rfl, hZ⟩; clear A)
    | (go_at_call 16; refine (g_load _ _ _).mono ?_; rintro e u ⟨g, n, c, rfl, h⟩; replace A := Lib.hid (A.out.more h.out); clear h)
    | (go_at_call 17; refine (g_emit _).mono ?_; rintro e u ⟨g, n, c, rfl, h⟩; replace A := Lib.hid (A.out.more h.out); clear h))
  go_ret
  exact ⟨g, n, c, rfl, hZ.out.1, hZ.out.2⟩

def oEmitKept  : List O := ([oGet (4), oTo (13) (9), oEmitPair (4), oMark (9), oHalt]).flatten
theorem oEmitKept_len  : (oEmitKept).length = 14 := rfl
set_option maxHeartbeats 1000000 in
set_option maxRecDepth 100000 in
theorem g_emitKept  (w : World) : Calls Tryd.prog 41 #[] w fun e w' => Gv w (oEmitKept) e w' := by
  have A : Hid (Acc w w []) := acc_nil (Below.refl _ _)
  go_enter Tryd.func41, Tryd.ntmps41
  go_wp2_with (first
    | (go_at_call 47; refine (join_acc A.out rfl rfl (Nat.le_of_ble_eq_true rfl) (Nat.le_of_ble_eq_true rfl) (Nat.le_of_ble_eq_true rfl)).mono ?_; rintro e u ⟨g, n, c, rfl, hZ⟩; clear A)
    | (go_at_call 30; refine (g_get _ _).mono ?_; rintro e u ⟨g, n, c, rfl, h⟩; replace A := Lib.hid (A.out.more h.out); clear h)
    | (go_at_call 26; refine (g_to _ _ _).mono ?_; rintro e u ⟨g, n, c, rfl, h⟩; replace A := Lib.hid (A.out.more h.out); clear h)
    | (go_at_call 44; refine (g_emitPair _ _).mono ?_; rintro e u ⟨g, n, c, rfl, h⟩; replace A := Lib.hid (A.out.more h.out); clear h)
    | (go_at_call 15; refine (g_mark _ _).mono ?_; rintro e u ⟨g, n, c, rfl, h⟩; replace A := Lib.hid (A.out.more h.out); clear h)
    | (go_at_call 18; refine (g_halt _).mono ?_; rintro e u ⟨g, n, c, rfl, h⟩; replace A := Lib.hid (A.out.more h.out); clear h))
  go_ret
  exact ⟨g, n, c, rfl, hZ.out.1, hZ.out.2⟩

theorem g_spare (_hB : 0 ≤ B ∧ B ≤ 256) (_hR : 0 ≤ R ∧ R ≤ 16)  (w : World) : Calls Tryd.prog 28 #[.agg #[.int .i64 B, .int .i64 R]] w fun e w' => e = .returned (.int .i64 (B)) ∧ Below w.heap.size w w' := by
  go_enter Tryd.func28, Tryd.ntmps28
  go_wp2
  go_ret
  exact ⟨by first | rfl | simp, bl1 _ _⟩

theorem g_count (_hB : 0 ≤ B ∧ B ≤ 256) (_hR : 0 ≤ R ∧ R ≤ 16)  (w : World) : Calls Tryd.prog 23 #[.agg #[.int .i64 B, .int .i64 R]] w fun e w' => e = .returned (.int .i64 (B + 1)) ∧ Below w.heap.size w w' := by
  go_enter Tryd.func23, Tryd.ntmps23
  go_wp2
  go_ret
  exact ⟨by first | rfl | simp, bl1 _ _⟩

theorem g_root (_hB : 0 ≤ B ∧ B ≤ 256) (_hR : 0 ≤ R ∧ R ≤ 16)  (w : World) : Calls Tryd.prog 53 #[.agg #[.int .i64 B, .int .i64 R]] w fun e w' => e = .returned (.int .i64 (B + 2)) ∧ Below w.heap.size w w' := by
  go_enter Tryd.func53, Tryd.ntmps53
  go_wp2
  go_ret
  exact ⟨by first | rfl | simp, bl1 _ _⟩

theorem g_wide (_hB : 0 ≤ B ∧ B ≤ 256) (_hR : 0 ≤ R ∧ R ≤ 16)  (w : World) : Calls Tryd.prog 38 #[.agg #[.int .i64 B, .int .i64 R]] w fun e w' => e = .returned (.int .i64 (R + 1)) ∧ Below w.heap.size w w' := by
  go_enter Tryd.func38, Tryd.ntmps38
  go_wp2
  go_ret
  exact ⟨by first | rfl | simp, bl1 _ _⟩

end
end Go.Proofs.YthnpgbmagfhgpaaDoor.Tr
