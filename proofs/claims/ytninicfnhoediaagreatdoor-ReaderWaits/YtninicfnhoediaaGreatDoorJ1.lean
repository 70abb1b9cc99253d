import Derived.Test.YtninicfnhoediaaGreatDoorM2
import Derived.Deep.QuietTactic
import Derived.BigQuiet
import Derived.Laws.CopyRow
import Derived.Deep.RegionWith
import Derived.Test.YtninicfnhoediaaGreatDoorWalkB
import Derived.Deep.WholeRow
import Derived.Deep.RegionHeld
import Derived.Test.YtninicfnhoediaaGreatDoorSq
namespace Go.Proofs.YtninicfnhoediaaGreatDoor.Md
open Go.ChangeShapes Go.WideShapes Go.ChangeAt Go.RowKit

set_option maxRecDepth 100000 in
set_option maxHeartbeats 1000000 in
theorem loadAct_any (w : World) (pm pa pt b g k n : Nat) (x : Int) (u : Value) (h0 : w.cell? ⟨pm, 0, none⟩ = some (.pointer (some ⟨b, 0, none⟩))) (h1 : w.cell? ⟨pa, 0, none⟩ = some (.int .i64 k)) (h2 : w.cell? ⟨b, 0, none⟩ = some (.slice (some ⟨g, 0, none⟩) n n)) (h3 : w.cell? ⟨g, k, none⟩ = some (.int .u64 x)) (hk : (k : Int) < (n : Int)) (h4 : w.cell? ⟨pt, 0, none⟩ = some u) (h5 : w.frozen? ⟨pt, 0, none⟩ = false) :
    Calls Tryz.prog 55 #[.pointer (some ⟨pm, 0, none⟩), .pointer (some ⟨pa, 0, none⟩), .pointer (some ⟨pt, 0, none⟩)] w fun e w' => e = .returned (.tuple #[]) ∧ w' = (w.setCell ⟨pt, 0, none⟩ (.int .u64 x)).drew := by
  go_enter Tryz.func55, Tryz.ntmps55
  go_wp2
  go_region
  all_goals (try go_wp2)
  all_goals go_end0
  all_goals exact ⟨rfl, rfl⟩
set_option maxRecDepth 100000 in
set_option maxHeartbeats 1000000 in
theorem storeAct_any (w : World) (pm pa pv b g k n : Nat) (x v : Int) (h0 : w.cell? ⟨pm, 0, none⟩ = some (.pointer (some ⟨b, 0, none⟩))) (h1 : w.cell? ⟨pa, 0, none⟩ = some (.int .i64 k)) (h2 : w.cell? ⟨b, 0, none⟩ = some (.slice (some ⟨g, 0, none⟩) n n)) (h3 : w.cell? ⟨g, k, none⟩ = some (.int .u64 x)) (hk : (k : Int) < (n : Int)) (h4 : w.cell? ⟨pv, 0, none⟩ = some (.int .u64 v)) (h5 : w.frozen? ⟨g, k, none⟩ = false) :
    Calls Tryz.prog 147 #[.pointer (some ⟨pv, 0, none⟩), .pointer (some ⟨pm, 0, none⟩), .pointer (some ⟨pa, 0, none⟩)] w fun e w' => e = .returned (.tuple #[]) ∧ w' = (w.setCell ⟨g, k, none⟩ (.int .u64 v)).drew := by
  go_enter Tryz.func147, Tryz.ntmps147
  go_wp2
  go_region
  all_goals (try go_wp2)
  all_goals go_end0
  all_goals exact ⟨rfl, rfl⟩
end Go.Proofs.YtninicfnhoediaaGreatDoor.Md
namespace Go.Proofs.YtninicfnhoediaaGreatDoor.Md
open Go.ChangeShapes Go.WideShapes Go.ChangeAt Go.RowKit

section
variable {w : World} {b g : Nat} {ws : List Int} {o : Bool} {c : Int}
theorem access_none (h : MemAt 123 w b g ws o c) (i : Int) (hi : hasB ws i = false) (f : Fn) (first cap : Array Value) : Calls Tryz.prog 54 #[.pointer (some ⟨b, 0, none⟩), .int .i64 i, .func f first cap] w fun e w' => e = .returned (.int .i64 30) ∧ w' = w := by
  have HM : Hid (MemAt 123 w b g ws o c) := h
  clear h
  go_enter Tryz.func54, Tryz.ntmps54
  go_wp2_with (go_at_call 56; refine (has_any HM.out _).mono ?_; rw [hi]; rintro e w' ⟨rfl, hw⟩; subst w')
  go_ret
  exact ⟨rfl, rfl⟩
theorem access_spent (h : MemAt 123 w b g ws false c) (i : Int) (hi : hasB ws i = true) (f : Fn) (first cap : Array Value) : Calls Tryz.prog 54 #[.pointer (some ⟨b, 0, none⟩), .int .i64 i, .func f first cap] w fun e w' => e = .returned (.int .i64 31) ∧ w' = w := by
  have HM : Hid (MemAt 123 w b g ws false c) := h
  have h1 := h.cell1
  have hb := h.ltB
  clear h
  go_enter Tryz.func54, Tryz.ntmps54
  go_wp2_with (go_at_call 56; refine (has_any HM.out _).mono ?_; rw [hi]; rintro e w' ⟨rfl, hw⟩; subst w')
  go_ret
  exact ⟨rfl, rfl⟩
theorem access_let (h : MemAt 123 w b g ws true c) (i : Int) (hi : hasB ws i = true) (f : FuncId) (cap : Array Value) (Q : World → Prop) (hcall : ∀ (args : Array Value) (w : World), (callFunc f args).run Tryz.prog w = .ok (.enter f args) w)
    (hf : Calls Tryz.prog f cap ((w.setCell ⟨b, 1, none⟩ (.bool false)).setCell ⟨b, 2, none⟩ (.int .i64 (up c))) fun e w' => e = .returned (.tuple #[]) ∧ Q w') : Calls Tryz.prog 54 #[.pointer (some ⟨b, 0, none⟩), .int .i64 i, .func (.func f) #[] cap] w fun e w' => e = .returned (.int .i64 0) ∧ Q w' := by
  have HM : Hid (MemAt 123 w b g ws true c) := h
  have h1 := h.cell1
  have h2 := h.cell2
  have hb := h.ltB
  have hf1 := h.freeB 1
  have hf2 := h.freeB 2
  have HF := Lib.hid hf
  clear h hf
  unfold up at HF
  go_enter Tryz.func54, Tryz.ntmps54
  go_wp2_with (first | (go_at_call 56; refine (has_any HM.out _).mono ?_; rw [hi]; rintro e w' ⟨rfl, hw⟩; subst w') | (refine HF.out.mono ?_; rintro e w' ⟨rfl, hq⟩))
  go_ret
  exact ⟨rfl, hq⟩
end
end Go.Proofs.YtninicfnhoediaaGreatDoor.Md
namespace Go.Proofs.YtninicfnhoediaaGreatDoor.Md
open Go.ChangeShapes Go.WideShapes Go.ChangeAt Go.RowKit

theorem enter_run {f : FuncId} {fn : Func} (hf : Tryz.prog.funcs[f]? = some fn) (hname : (fn.name == "runtime.NumGoroutine") = false) (hb : fn.body.isSome = true) (args : Array Value) (w : World) : (callFunc f args).run Tryz.prog w = .ok (.enter f args) w := by
  obtain ⟨c, hb⟩ := Option.isSome_iff_exists.1 hb
  have h1 : fn.name ≠ "runtime.NumGoroutine" := by simpa using hname
  simp [callFunc, hf, h1, hb, mark]
section
variable {w : World} {b g : Nat} {ws : List Int} {o : Bool} {c : Int}
/-- the words behind a Poke -/
def poked (ws : List Int) (i v : Int) : List Int := if hasB ws i then ws.set i.toNat v else ws
def stored (ws : List Int) (o : Bool) (i v : Int) : List Int := if hasB ws i && o then ws.set i.toNat v else ws
def spentO (ws : List Int) (o : Bool) (i : Int) : Bool := if hasB ws i then false else o
def spentC (ws : List Int) (o : Bool) (i c : Int) : Int := if hasB ws i && o then up c else c
def toldW (ws : List Int) (o : Bool) (i : Int) : Int := if hasB ws i && o then wordAt ws i else 0
theorem poke_any (h : MemAt 123 w b g ws o c) (i v : Int) : Calls Tryz.prog 36 #[.pointer (some ⟨b, 0, none⟩), .int .i64 i, .int .u64 v] w fun e w' => e = .returned (.int .i64 (errP ws i)) ∧ MemAt 123 w' b g (poked ws i v) o c ∧ Chg b g w w' := by
  have h0 := h.cell0
  have hb := h.ltB
  have hg := h.ltG
  have HM : Hid (MemAt 123 w b g ws o c) := h
  unfold errP poked
  cases hh : hasB ws i
  · clear h
    go_enter Tryz.func36, Tryz.ntmps36
    go_wp2_with (go_at_call 56; refine (has_any HM.out _).mono ?_; rw [hh]; rintro e w' ⟨rfl, hw⟩; subst w')
    go_ret
    exact ⟨rfl, HM.out, Chg.refl _ _ _⟩
  · obtain ⟨k, rfl, hk⟩ := hasB_pos hh
    have hx := h.word hk
    have hf := h.freeG k
    have hk2 : (k : Int) < (ws.length : Int) := by omega
    clear h
    go_enter Tryz.func36, Tryz.ntmps36
    go_wp2_with (go_at_call 56; refine (has_any HM.out _).mono ?_; rw [hh]; rintro e w' ⟨rfl, hw⟩; subst w')
    try go_region
    all_goals (try go_wp2)
    all_goals go_ret
    all_goals exact ⟨rfl, HM.out.setW k v, (Chg.refl _ _ _).setG _ _⟩

set_option maxRecDepth 100000 in
theorem loadAct_at (h : MemAt 123 w b g ws true c) {k : Nat} (hk : k < ws.length) :
    Calls Tryz.prog 55 #[.pointer (some ⟨w.heap.size, 0, none⟩), .pointer (some ⟨w.heap.size + 1, 0, none⟩), .pointer (some ⟨w.heap.size + 1 + 1, 0, none⟩)] (((((w.alloc (.cells #[.pointer (some ⟨b, 0, none⟩)] 37)).alloc (.cells #[.int .i64 k] 3)).alloc (.cells #[.int .u64 0] 53)).setCell ⟨b, 1, none⟩ (.bool false)).setCell ⟨b, 2, none⟩ (.int .i64 (up c))) fun e w' => e = .returned (.tuple #[]) ∧
      (w'.cell? ⟨w.heap.size + 1 + 1, 0, none⟩ = some (.int .u64 (wordAt ws k)) ∧ MemAt 123 w' b g ws false (up c) ∧ Chg b g w w') := by
  have hb := h.ltB
  have hg := h.ltG
  have hv : wordAt ws k = ws[k] := by simp [wordAt, hk]
  have HM0 := (((((h.alloc (.cells #[.pointer (some ⟨b, 0, none⟩)] 37)).alloc (.cells #[.int .i64 k] 3)).alloc (.cells #[.int .u64 0] 53)).setO false).setC (up c))
  have HM := (HM0.other (n := w.heap.size + 1 + 1) (by omega) (by omega) 0 (.int .u64 ws[k])).drew
  have HC := ((((((Chg.refl b g w).alloc (.cells #[.pointer (some ⟨b, 0, none⟩)] 37)).alloc (.cells #[.int .i64 k] 3)).alloc (.cells #[.int .u64 0] 53)).setB 1 (.bool false)).setB 2 (.int .i64 (up c))).setN (n := w.heap.size + 1 + 1) (by omega) 0 (.int .u64 ws[k]) |>.drew
  rw [hv]
  refine (loadAct_any _ w.heap.size (w.heap.size + 1) (w.heap.size + 1 + 1) b g k ws.length ws[k] (.int .u64 0) ?_ ?_ HM0.cell0 (HM0.word hk) (by omega) ?_ ?_).mono ?_
  · simp [go_sem]
  · simp [go_sem]
  · simp [go_sem]
  · simp [go_sem]
  · rintro e w' ⟨he, rfl⟩
    refine ⟨he, ?_, HM, HC⟩
    simp [go_sem]
set_option maxRecDepth 100000 in
theorem storeAct_at (h : MemAt 123 w b g ws true c) (v : Int) {k : Nat} (hk : k < ws.length) :
    Calls Tryz.prog 147 #[.pointer (some ⟨w.heap.size + 1 + 1, 0, none⟩), .pointer (some ⟨w.heap.size, 0, none⟩), .pointer (some ⟨w.heap.size + 1, 0, none⟩)] (((((w.alloc (.cells #[.pointer (some ⟨b, 0, none⟩)] 37)).alloc (.cells #[.int .i64 k] 3)).alloc (.cells #[.int .u64 v] 53)).setCell ⟨b, 1, none⟩ (.bool false)).setCell ⟨b, 2, none⟩ (.int .i64 (up c))) fun e w' => e = .returned (.tuple #[]) ∧
      (MemAt 123 w' b g (ws.set k v) false (up c) ∧ Chg b g w w') := by
  have hb := h.ltB
  have hg := h.ltG
  have HM0 := (((((h.alloc (.cells #[.pointer (some ⟨b, 0, none⟩)] 37)).alloc (.cells #[.int .i64 k] 3)).alloc (.cells #[.int .u64 v] 53)).setO false).setC (up c))
  have HC := ((((((Chg.refl b g w).alloc (.cells #[.pointer (some ⟨b, 0, none⟩)] 37)).alloc (.cells #[.int .i64 k] 3)).alloc (.cells #[.int .u64 v] 53)).setB 1 (.bool false)).setB 2 (.int .i64 (up c))).setG k (.int .u64 v) |>.drew
  refine (storeAct_any _ w.heap.size (w.heap.size + 1) (w.heap.size + 1 + 1) b g k ws.length ws[k] v ?_ ?_ HM0.cell0 (HM0.word hk) (by omega) ?_ (HM0.freeG k)).mono ?_
  · simp [go_sem]
  · simp [go_sem]
  · simp [go_sem]
  · rintro e w' ⟨he, rfl⟩
    exact ⟨he, (HM0.setW k v).drew, HC⟩
set_option maxRecDepth 100000 in
set_option maxHeartbeats 1000000 in
theorem load_any (h : MemAt 123 w b g ws o c) (i : Int) : Calls Tryz.prog 23 #[.pointer (some ⟨b, 0, none⟩), .int .i64 i] w fun e w' => e = .returned (.tuple #[.int .u64 (toldW ws o i), .int .i64 (errA ws o i)]) ∧ MemAt 123 w' b g ws (spentO ws o i) (spentC ws o i c) ∧ Chg b g w w' := by
  have HM : Hid (MemAt 123 w b g ws o c) := h
  clear h
  unfold errA spentO spentC toldW
  cases hh : hasB ws i
  · go_enter Tryz.func23, Tryz.ntmps23
    go_wp2_with (go_at_call 54; refine (access_none (((HM.out.alloc _).alloc _).alloc _) _ hh _ _ _).mono ?_; rintro e w' ⟨rfl, hw⟩; subst w')
    go_ret2
    exact ⟨rfl, ((HM.out.alloc _).alloc _).alloc _, (((Chg.refl _ _ _).alloc _).alloc _).alloc _⟩
  · obtain ⟨k, rfl, hk⟩ := hasB_pos hh
    cases o
    · go_enter Tryz.func23, Tryz.ntmps23
      go_wp2_with (go_at_call 54; refine (access_spent (((HM.out.alloc _).alloc _).alloc _) _ hh _ _ _).mono ?_; rintro e w' ⟨rfl, hw⟩; subst w')
      go_ret2
      exact ⟨rfl, ((HM.out.alloc _).alloc _).alloc _, (((Chg.refl _ _ _).alloc _).alloc _).alloc _⟩
    · have HA := Lib.hid (loadAct_at HM.out hk)
      go_enter Tryz.func23, Tryz.ntmps23
      go_wp2_with (go_at_call 54; refine (access_let (((HM.out.alloc _).alloc _).alloc _) _ hh _ _ _ (enter_run Tryz.func55 (by kernel_rfl) (by kernel_rfl)) HA.out).mono ?_; rintro e w' ⟨rfl, hc, hm, hz⟩; replace hm := Lib.hid hm)
      go_ret2
      exact ⟨rfl, hm.out, hz⟩
set_option maxRecDepth 100000 in
set_option maxHeartbeats 1000000 in
theorem store_any (h : MemAt 123 w b g ws o c) (i v : Int) : Calls Tryz.prog 121 #[.pointer (some ⟨b, 0, none⟩), .int .i64 i, .int .u64 v] w fun e w' => e = .returned (.int .i64 (errA ws o i)) ∧ MemAt 123 w' b g (stored ws o i v) (spentO ws o i) (spentC ws o i c) ∧ Chg b g w w' := by
  have HM : Hid (MemAt 123 w b g ws o c) := h
  clear h
  unfold errA spentO spentC stored
  cases hh : hasB ws i
  · go_enter Tryz.func121, Tryz.ntmps121
    go_wp2_with (go_at_call 54; refine (access_none (((HM.out.alloc _).alloc _).alloc _) _ hh _ _ _).mono ?_; rintro e w' ⟨rfl, hw⟩; subst w')
    go_ret
    exact ⟨rfl, ((HM.out.alloc _).alloc _).alloc _, (((Chg.refl _ _ _).alloc _).alloc _).alloc _⟩
  · obtain ⟨k, rfl, hk⟩ := hasB_pos hh
    cases o
    · go_enter Tryz.func121, Tryz.ntmps121
      go_wp2_with (go_at_call 54; refine (access_spent (((HM.out.alloc _).alloc _).alloc _) _ hh _ _ _).mono ?_; rintro e w' ⟨rfl, hw⟩; subst w')
      go_ret
      exact ⟨rfl, ((HM.out.alloc _).alloc _).alloc _, (((Chg.refl _ _ _).alloc _).alloc _).alloc _⟩
    · have HA := Lib.hid (storeAct_at HM.out v hk)
      go_enter Tryz.func121, Tryz.ntmps121
      go_wp2_with (go_at_call 54; refine (access_let (((HM.out.alloc _).alloc _).alloc _) _ hh _ _ _ (enter_run Tryz.func147 (by kernel_rfl) (by kernel_rfl)) HA.out).mono ?_; rintro e w' ⟨rfl, hm, hz⟩; replace hm := Lib.hid hm)
      go_ret
      exact ⟨rfl, hm.out, hz⟩
end
end Go.Proofs.YtninicfnhoediaaGreatDoor.Md
namespace Go.Proofs.YtninicfnhoediaaGreatDoor.Md
open Go.ChangeShapes Go.WideShapes Go.ChangeAt Go.RowKit

theorem wordInfo : (Tryz.prog.info? 53).map (fun i => (i.zero, i.size, i.bytes)) = some (some (.int .u64 0), 1, 8) := by kernel_rfl
def RowAt (w : World) (g : Nat) (ws : List Int) : Prop := w.heap[g]? = some (.cells (u64s ws).toArray 53 (0, 0))
theorem RowAt.lt {w : World} {g : Nat} {ws : List Int} (h : RowAt w g ws) : g < w.heap.size := lt_of_block h
theorem RowAt.on {w w' : World} {g : Nat} {ws : List Int} (h : RowAt w g ws) (k : Below w.heap.size w w') : RowAt w' g ws := (k.block g h.lt).trans h
theorem RowAt.word {w : World} {g : Nat} {ws : List Int} (h : RowAt w g ws) {i : Nat} (hi : i < ws.length) : w.cell? ⟨g, i, none⟩ = some (.int .u64 ws[i]) := by
  rw [cell_of_row w g i _ _ _ h]
  simp [u64s, hi]
theorem RowAt.free {w : World} {g : Nat} {ws : List Int} (h : RowAt w g ws) (i : Nat) : w.frozen? ⟨g, i, none⟩ = false := frozen_of_row w g i _ _ h
theorem RowAt.set {w : World} {g : Nat} {ws : List Int} (h : RowAt w g ws) (i : Nat) (v : Int) : RowAt (w.setCell ⟨g, i, none⟩ (.int .u64 v)) g (ws.set i v) := by
  unfold RowAt
  rw [heap_setCell_same w g i _ _ _ h, ← u64s_set, List.setIfInBounds_toArray]
theorem RowAt.keep {w w' : World} {g : Nat} {ws : List Int} (h : RowAt w g ws) (k : w'.heap[g]? = w.heap[g]?) : RowAt w' g ws := k.trans h
theorem make_words (n : Nat) (hn : n ≤ 4096) (w : World) : (Instr.makeSlice 28 (.int .i64 (n : Int)) (.int .i64 (n : Int))).run Tryz.prog w = .ok (.slice (some ⟨w.heap.size, 0, none⟩) n n) (w.alloc (.cells (u64s (List.replicate n 0)).toArray 53)) := by
  obtain ⟨i, hi, hz0, hz1, hz2⟩ := info_parts wordInfo
  rw [run_make w 28 53 i (.int .u64 0) Tryz.underlying28 hi hz0 .i64 .i64 n n (by omega) (Int.le_refl _) (by rw [hz2]; omega) (by omega)]
  have e : (madeCells (Value.int .u64 0).cells (((n : Int)).toNat * i.size)) = (u64s (List.replicate n 0)).toArray := by
    rw [hz1, Nat.mul_one, Int.toNat_natCast]
    apply Array.toList_inj.1
    rw [show (Value.int .u64 0).cells = #[.int .u64 0] from rfl, toList_madeCells_one]
    simp [u64s]
  rw [e, Int.toNat_natCast]
section
variable {w : World} {b g : Nat} {ws : List Int} {o : Bool} {c : Int}
end
set_option maxRecDepth 100000 in
theorem new_some (n : Nat) (h1 : 1 ≤ n) (h2 : n ≤ 4096) (w : World) : Calls Tryz.prog 22 #[.int .i64 n] w fun e w' => e = .returned (.tuple #[.pointer (some ⟨w.heap.size + 1, 0, none⟩), .int .i64 0]) ∧ MemAt 123 w' (w.heap.size + 1) w.heap.size (List.replicate n 0) false 0 ∧ Below w.heap.size w w' := by
  have hh : (decide (1 ≤ (n : Int)) && decide ((n : Int) ≤ 4096)) = true := by simp; omega
  have hmk := make_words n h2
  have HN := Lib.hid (And.intro h1 h2)
  clear h1 h2
  go_enter Tryz.func22, Tryz.ntmps22
  go_wp2_with (go_at_call 53; refine (within_any _ _ _).mono ?_; rw [hh]; rintro e w' ⟨rfl, hw⟩; subst w')
  go_ret2
  refine ⟨rfl, ⟨?_, ?_, by omega, by rw [List.length_replicate]; exact HN.out.1, by rw [List.length_replicate]; exact HN.out.2⟩, ((Below.refl _ _).alloc (Nat.le_refl _) _).alloc (by simp) _⟩
  · rw [List.length_replicate]
    have := heap_alloc_new (w.alloc (.cells (u64s (List.replicate n 0)).toArray 53)) (.cells #[.slice (some ⟨w.heap.size, 0, none⟩) n n, .bool false, .int .i64 0] 123)
    simpa using this
  · rw [Below.heap_alloc _ _ _ (by simp)]
    exact heap_alloc_new _ _
end Go.Proofs.YtninicfnhoediaaGreatDoor.Md
namespace Go.Proofs.YtninicfnhoediaaGreatDoor.Md
open Go.ChangeShapes Go.WideShapes Go.ChangeAt Go.RowKit

section
variable {w : World} {b g : Nat} {ws : List Int} {o : Bool} {c : Int}
end
end Go.Proofs.YtninicfnhoediaaGreatDoor.Md
namespace Go.Proofs.YtninicfnhoediaaGreatDoor.Md
open Go.ChangeShapes Go.WideShapes Go.ChangeAt Go.RowKit

theorem below_chain {a b c : World} (h : Below a.heap.size a b) (k : Below b.heap.size b c) : Below a.heap.size a c := h.trans (k.mono h.size)
end Go.Proofs.YtninicfnhoediaaGreatDoor.Md
namespace Go.Proofs.YtninicfnhoediaaGreatDoor.Md.Ce
open Go.ChangeShapes Go.WideShapes Go.ChangeAt Go.RowKit Num
attribute [local go_sem] frombits_run bits_run

theorem run_store_float (a : Addr) (m : Mode) (k : FloatKind) (b : Nat) (w : World) : (store a (.float k b) m).run Tryz.prog w = _root_.Go.stored Tryz.prog w a (.float k b) m := run_store Tryz.prog w a _ m rfl
theorem run_store_func (a : Addr) (m : Mode) (f : Fn) (x y : Array Value) (w : World) : (store a (.func f x y) m).run Tryz.prog w = _root_.Go.stored Tryz.prog w a (.func f x y) m := run_store Tryz.prog w a _ m rfl
theorem run_store_nilFunc (a : Addr) (m : Mode) (w : World) : (store a .nilFunc m).run Tryz.prog w = _root_.Go.stored Tryz.prog w a .nilFunc m := run_store Tryz.prog w a _ m rfl
theorem of_int (n : Int) (w : World) : Calls Tryz.prog 60 #[.int .u64 n] w fun e w' => e = .returned (.float .f64 (fixB n.toNat)) ∧ w' = w := by
  go_enter Tryz.func60, Tryz.ntmps60
  go_wp2_with (first | (go_at_call 63; refine (fix_any _ _).mono ?_; rintro e w' ⟨rfl, rfl⟩) | go_in)
  go_ret
  exact ⟨rfl, rfl⟩
/-- of the old blocks those of L alone may have turned -/
structure Ch (L : List Nat) (w w' : World) : Prop where
  os : w'.os = w.os
  tape : w'.tape = w.tape
  output : w'.output = w.output
  size : w.heap.size ≤ w'.heap.size
  block : ∀ k, k < w.heap.size → k ∉ L → w'.heap[k]? = w.heap[k]?
theorem Ch.refl (L : List Nat) (w : World) : Ch L w w := ⟨rfl, rfl, rfl, Nat.le_refl _, fun _ _ _ => rfl⟩
theorem Ch.trans {L : List Nat} {a w c : World} (h : Ch L a w) (k : Ch L w c) : Ch L a c :=
  ⟨k.os.trans h.os, k.tape.trans h.tape, k.output.trans h.output, Nat.le_trans h.size k.size, fun i hi h1 => (k.block i (Nat.lt_of_lt_of_le hi h.size) h1).trans (h.block i hi h1)⟩
theorem Ch.mono {L M : List Nat} {a w : World} (h : Ch L a w) (s : ∀ k, k ∈ L → k ∈ M) : Ch M a w := ⟨h.os, h.tape, h.output, h.size, fun k hk hn => h.block k hk (fun q => hn (s k q))⟩
theorem Ch.alloc {L : List Nat} {a w : World} (h : Ch L a w) (o : Obj) : Ch L a (w.alloc o) := h.trans ⟨rfl, rfl, rfl, by simp, fun k hk _ => Below.heap_alloc _ _ _ hk⟩
theorem Ch.drew {L : List Nat} {a w : World} (h : Ch L a w) : Ch L a w.drew := ⟨h.os, h.tape, h.output, h.size, h.block⟩
theorem Ch.drewN {L : List Nat} {a w : World} (h : Ch L a w) (n : Nat) : Ch L a (w.drewN n) := ⟨h.os, h.tape, h.output, h.size, h.block⟩
theorem Ch.set {L : List Nat} {a w : World} (h : Ch L a w) {b : Nat} (hb : b ∈ L) (j : Nat) (u : Value) : Ch L a (w.setCell ⟨b, j, none⟩ u) :=
  h.trans ⟨rfl, rfl, rfl, by simp, fun k _ h1 => heap_setCell_other _ _ _ _ (fun (e : k = b) => h1 (e ▸ hb))⟩
theorem _root_.Go.Proofs.YtninicfnhoediaaGreatDoor.Chg.ch {b g : Nat} {L : List Nat} {w w' : World} (h : Chg b g w w') (hb : b ∈ L) (hg : g ∈ L) : Ch L w w' :=
  ⟨h.os, h.tape, h.output, h.size, fun k hk hn => h.block k hk (fun e => hn (e ▸ hb)) (fun e => hn (e ▸ hg))⟩
theorem Ch.below {L : List Nat} {B : Nat} {w w' : World} (h : Ch L w w') (hL : ∀ k, k ∈ L → B ≤ k) (hB : B ≤ w.heap.size) : Below B w w' :=
  ⟨h.os, h.tape, h.output, h.size, fun k hk => h.block k (by omega) (fun q => by have := hL k q; omega)⟩
theorem _root_.Go.Proofs.YtninicfnhoediaaGreatDoor.MemAt.ch {T : TypeId} {w w' : World} {b g : Nat} {ws : List Int} {o : Bool} {c : Int} {L : List Nat} (h : MemAt T w b g ws o c) (k : Ch L w w') (h1 : b ∉ L) (h2 : g ∉ L) : MemAt T w' b g ws o c :=
  h.keep (k.block b h.ltB h1) (k.block g h.ltG h2)

/-- may a cell be; where its word is -/
def mayC (c : Int) : Bool := decide (0 ≤ c ∧ c < 256)
def placeI (p c j : Int) : Int := if 0 ≤ p ∧ p ≤ 4096 then p + 3 * c + j else -1
def errC (ws : List Int) (o : Bool) (p c j : Int) : Int := if mayC c then errA ws o (placeI p c j) else 60
def wordC (ws : List Int) (p c j : Int) : Int := wordAt ws (placeI p c j)
theorem mayC_pos {c : Int} (h : mayC c = true) : 0 ≤ c ∧ c < 256 := of_decide_eq_true h
theorem smay_any (p c : Int) (w : World) : Calls Tryz.prog 58 #[.agg #[.int .i64 p, .int .i64 c]] w fun e w' => e = .returned (.bool (mayC c)) ∧ Below w.heap.size w w' := by
  unfold mayC
  by_cases h1 : 0 ≤ c
  · by_cases h2 : c < 256
    · have h1' : ¬ c < 0 := by omega
      go_enter Tryz.func58, Tryz.ntmps58
      go_wp2
      go_ret
      exact ⟨by first | (simp; done) | (simp; omega), (Below.refl _ _).alloc (Nat.le_refl _) _⟩
    · go_enter Tryz.func58, Tryz.ntmps58
      go_wp2
      go_ret
      exact ⟨by first | (simp; done) | (simp; omega), (Below.refl _ _).alloc (Nat.le_refl _) _⟩
  · go_enter Tryz.func58, Tryz.ntmps58
    go_wp2
    go_ret
    exact ⟨by first | (simp; done) | (simp; omega), (Below.refl _ _).alloc (Nat.le_refl _) _⟩
theorem splace_any (p c j : Int) (hc : mayC c = true) (hj : 0 ≤ j ∧ j < 3) (w : World) : Calls Tryz.prog 59 #[.agg #[.int .i64 p, .int .i64 c], .int .i64 j] w fun e w' => e = .returned (.int .i64 (placeI p c j)) ∧ Below w.heap.size w w' := by
  obtain ⟨hc0, hc1⟩ := mayC_pos hc
  obtain ⟨hj0, hj1⟩ := hj
  clear hc
  by_cases h1 : 0 ≤ p
  · by_cases h2 : p ≤ 4096
    · have e : placeI p c j = p + 3 * c + j := by simp [placeI, h1, h2]
      have e1 : wrap64 (3 * c) = 3 * c := Go.IntWalk.wrap64_in _ ⟨by omega, by omega⟩
      have e2 : wrap64 (p + 3 * c) = p + 3 * c := Go.IntWalk.wrap64_in _ ⟨by omega, by omega⟩
      have e3 : wrap64 (p + 3 * c + j) = p + 3 * c + j := Go.IntWalk.wrap64_in _ ⟨by omega, by omega⟩
      have h1' : ¬ p < 0 := by omega
      have h2' : ¬ 4096 < p := by omega
      rw [e]
      clear e hc0 hc1 hj0 hj1
      go_enter Tryz.func59, Tryz.ntmps59
      go_wp2
      go_ret
      exact ⟨rfl, (Below.refl _ _).alloc (Nat.le_refl _) _⟩
    · have e : placeI p c j = -1 := by simp [placeI, h2]
      rw [e]
      clear e hc0 hc1 hj0 hj1
      have h1' : ¬ p < 0 := by omega
      have h2' : 4096 < p := by omega
      go_enter Tryz.func59, Tryz.ntmps59
      go_wp2
      go_ret
      exact ⟨rfl, (Below.refl _ _).alloc (Nat.le_refl _) _⟩
  · have e : placeI p c j = -1 := by simp [placeI, h1]
    rw [e]
    clear e hc0 hc1 hj0 hj1
    have h1' : p < 0 := by omega
    go_enter Tryz.func59, Tryz.ntmps59
    go_wp2
    go_ret
    exact ⟨rfl, (Below.refl _ _).alloc (Nat.le_refl _) _⟩
theorem _root_.Go.Proofs.YtninicfnhoediaaGreatDoor.MemAt.hop {T : TypeId} {w w' : World} {b g : Nat} {ws : List Int} {o : Bool} {c : Int} (h : MemAt T w b g ws o c) (k : Below w.heap.size w w') : MemAt T w' b g ws o c := h.on k
theorem below_step {a w w' : World} (h : Below a.heap.size a w) (k : Below w.heap.size w w') : Below a.heap.size a w' := h.trans (k.mono h.size)
theorem below_alloc_step {a w' : World} {x : Obj} (k : Below (a.alloc x).heap.size (a.alloc x) w') : Below a.heap.size a w' := below_step ((Below.refl _ _).alloc (Nat.le_refl _) x) k
theorem spot_cells {a w' : World} {x y : Value} {T : TypeId} (k : Below (a.alloc (.cells #[x, y] T)).heap.size (a.alloc (.cells #[x, y] T)) w') : w'.cell? ⟨a.heap.size, 0, none⟩ = some x ∧ w'.cell? ⟨a.heap.size, 1, none⟩ = some y ∧ a.heap.size < w'.heap.size :=
  ⟨(k.cell (p := ⟨a.heap.size, 0, none⟩) (by simp)).trans (by simp), (k.cell (p := ⟨a.heap.size, 1, none⟩) (by simp)).trans (by simp), by have := k.size; simp at this; omega⟩
theorem chg_from {a w w' : World} {b g : Nat} (h : Below a.heap.size a w) (k : Chg b g w w') : Chg b g a w' := (Chg.trans ⟨h.os, h.tape, h.output, h.size, fun i hi _ _ => h.block i hi⟩ k)
section
variable {w : World} {b g : Nat} {ws : List Int} {o : Bool} {n : Int}
/-- a load that is let by -/
theorem cload_ok (h : MemAt 123 w b g ws o n) {p c j : Int} (hj : 0 ≤ j ∧ j < 3) (hok : errC ws o p c j = 0) : Calls Tryz.prog 176 #[.agg #[.int .i64 p, .int .i64 c], .pointer (some ⟨b, 0, none⟩), .int .i64 j] w fun e w' => e = .returned (.tuple #[.int .u64 (wordC ws p c j), .int .i64 0]) ∧ MemAt 123 w' b g ws false (up n) ∧ Chg b g w w' := by
  cases hm : mayC c
  · simp [errC, hm] at hok
  · have hA : errA ws o (placeI p c j) = 0 := by simpa [errC, hm] using hok
    have hk : hasB ws (placeI p c j) = true ∧ o = true := by
      unfold errA at hA
      cases q : hasB ws (placeI p c j) <;> cases o <;> simp [q] at hA ⊢
    have H1 := Lib.hid (smay_any p c)
    simp only [hm] at H1
    have H2 := Lib.hid (splace_any p c j hm hj)
    have H3 := Lib.hid (fun (w1 : World) (h1 : Below w.heap.size w w1) => load_any (h.hop h1) (placeI p c j))
    have e1 : toldW ws o (placeI p c j) = wordC ws p c j := by simp [toldW, wordC, hk.1, hk.2]
    have e2 : spentO ws o (placeI p c j) = false := by simp [spentO, hk.1]
    have e3 : spentC ws o (placeI p c j) n = up n := by simp [spentC, hk.1, hk.2]
    simp only [hA, e1, e2, e3] at H3
    generalize wordC ws p c j = x at H3 ⊢
    generalize placeI p c j = i at H2 H3
    clear hA hk e1 e2 e3 hok hm h
    go_enter Tryz.func176, Tryz.ntmps176
    go_wp2_with (first
      | (go_at_call 58; refine (H1.out _).mono ?_; rintro e w1 ⟨rfl, hw⟩; have HB1 := Lib.hid (below_alloc_step hw); obtain ⟨q0, q1, q2⟩ := spot_cells hw; clear hw)
      | (go_at_call 59; refine (H2.out _).mono ?_; rintro e w2 ⟨rfl, hw⟩; have HB2 := Lib.hid (below_step HB1.out hw); clear hw)
      | (go_at_call 23; refine (H3.out _ HB2.out).mono ?_; rintro e w3 ⟨rfl, hm1, hc1⟩; have HM := Lib.hid (And.intro hm1 (chg_from HB2.out hc1)); clear hm1 hc1))
    go_ret2
    exact ⟨rfl, HM.out.1, HM.out.2⟩
theorem errA_told {i : Int} (h : ¬ errA ws o i = 0) : toldW ws o i = 0 ∧ spentO ws o i = o ∧ spentC ws o i n = n := by
  unfold errA at h
  cases q : hasB ws i <;> cases o <;> simp [q] at h <;> simp [toldW, spentO, spentC, q]
theorem cload_no (h : MemAt 123 w b g ws o n) {p c j : Int} (hj : 0 ≤ j ∧ j < 3) (hok : ¬ errC ws o p c j = 0) : Calls Tryz.prog 176 #[.agg #[.int .i64 p, .int .i64 c], .pointer (some ⟨b, 0, none⟩), .int .i64 j] w fun e w' => e = .returned (.tuple #[.int .u64 0, .int .i64 (errC ws o p c j)]) ∧ MemAt 123 w' b g ws o n ∧ Chg b g w w' := by
  have H1 := Lib.hid (smay_any p c)
  cases hm : mayC c
  · have e : errC ws o p c j = 60 := by simp [errC, hm]
    rw [e]
    simp only [hm] at H1
    have HM := Lib.hid h
    clear e hok h hm
    go_enter Tryz.func176, Tryz.ntmps176
    go_wp2_with (go_at_call 58; refine (H1.out _).mono ?_; rintro e w1 ⟨rfl, hw⟩; have HB := Lib.hid (below_alloc_step hw); clear hw)
    go_ret2
    exact ⟨rfl, HM.out.hop HB.out, chg_from HB.out (Chg.refl _ _ _)⟩
  · have e0 : errC ws o p c j = errA ws o (placeI p c j) := by simp [errC, hm]
    rw [e0] at hok ⊢
    simp only [hm] at H1
    obtain ⟨e1, e2, e3⟩ := errA_told (n := n) hok
    have H2 := Lib.hid (splace_any p c j hm hj)
    have H3 := Lib.hid (fun (w1 : World) (h1 : Below w.heap.size w w1) => load_any (h.hop h1) (placeI p c j))
    simp only [e1, e2, e3] at H3
    generalize errA ws o (placeI p c j) = x at H3 ⊢
    generalize placeI p c j = i at H2 H3
    clear e0 e1 e2 e3 hok hm h
    go_enter Tryz.func176, Tryz.ntmps176
    go_wp2_with (first
      | (go_at_call 58; refine (H1.out _).mono ?_; rintro e w1 ⟨rfl, hw⟩; have HB1 := Lib.hid (below_alloc_step hw); obtain ⟨q0, q1, q2⟩ := spot_cells hw; clear hw)
      | (go_at_call 59; refine (H2.out _).mono ?_; rintro e w2 ⟨rfl, hw⟩; have HB2 := Lib.hid (below_step HB1.out hw); clear hw)
      | (go_at_call 23; refine (H3.out _ HB2.out).mono ?_; rintro e w3 ⟨rfl, hm1, hc1⟩; have HM := Lib.hid (And.intro hm1 (chg_from HB2.out hc1)); clear hm1 hc1))
    go_ret2
    exact ⟨rfl, HM.out.1, HM.out.2⟩
/-- the words behind a store -/
def storeC (ws : List Int) (p c j v : Int) : List Int := ws.set (placeI p c j).toNat v
end
end Go.Proofs.YtninicfnhoediaaGreatDoor.Md.Ce
namespace Go.Proofs.YtninicfnhoediaaGreatDoor.Md.Ce
open Go.ChangeShapes Go.WideShapes Go.ChangeAt Go.RowKit Num
attribute [local go_sem] run_store_float run_store_func run_store_nilFunc

theorem funcT : ∃ ps rs v, Tryz.prog.underlying 181 = some (.func ps rs v) := ⟨#[104, 37], #[43], false, by kernel_rfl⟩
theorem run_equalIn_func {P : Program} (d : Nat) (t : TypeId) (f : Fn) (x y : Array Value) (w : World) {ps rs : Array TypeId} {v : Bool} (h : P.underlying t = some (.func ps rs v)) : (Op.equalIn (d + 1) t (.func f x y) .nilFunc).run P w = .ok false w := by
  simp [Op.equalIn, run_underlying h]
theorem run_equalIn_nil {P : Program} (d : Nat) (t : TypeId) (w : World) {ps rs : Array TypeId} {v : Bool} (h : P.underlying t = some (.func ps rs v)) : (Op.equalIn (d + 1) t .nilFunc .nilFunc).run P w = .ok true w := by
  simp [Op.equalIn, run_underlying h]
theorem run_equal_func {P : Program} (t : TypeId) (f : Fn) (x y : Array Value) (w : World) {ps rs : Array TypeId} {v : Bool} (h : P.underlying t = some (.func ps rs v)) : (Op.equal t (.func f x y) .nilFunc).run P w = .ok false w := run_equalIn_func 9999 t f x y w h
theorem run_equal_nil {P : Program} (t : TypeId) (w : World) {ps rs : Array TypeId} {v : Bool} (h : P.underlying t = some (.func ps rs v)) : (Op.equal t .nilFunc .nilFunc).run P w = .ok true w := run_equalIn_nil 9999 t w h
theorem run_eql_func (f : Fn) (x y : Array Value) (w : World) : (binOp .eql 181 (.func f x y) .nilFunc).run Tryz.prog w = .ok (.bool false) w := by
  obtain ⟨ps, rs, v, h⟩ := funcT
  simp only [binOp]
  simp [run_equal_func _ f x y w h]
theorem run_eql_nilFunc (w : World) : (binOp .eql 181 .nilFunc .nilFunc).run Tryz.prog w = .ok (.bool true) w := by
  obtain ⟨ps, rs, v, h⟩ := funcT
  simp only [binOp]
  simp [run_equal_nil _ w h]
attribute [local go_sem] run_eql_func run_eql_nilFunc
/-- a read as numbers: where, its stamp, what is next (4: it is over), what it has been told -/
structure Rd where
  p : Int
  c : Int
  s : Int
  k : Nat
  v : Int
  x : Nat
  y : Nat
  n : Int
  t : Bool
def viewF (k : Nat) : FuncId := if k = 0 then 145 else if k = 1 then 177 else if k = 2 then 202 else 178
def recvV (r : Rd) : Value := .agg #[.int .i64 r.p, .int .i64 r.c, .int .u64 r.s]
def nextV (r : Rd) : Value := if r.k < 4 then .func (.func (viewF r.k)) #[recvV r] #[] else .nilFunc
def rboxV (r : Rd) (f : Value) : Array Value := #[f, .int .u64 r.v, .float .f64 r.x, .float .f64 r.y, .int .i64 r.n, .bool r.t]
def RbAt (w : World) (q : Nat) (r : Rd) (f : Value) : Prop := w.heap[q]? = some (.cells (rboxV r f) 183 (0, 0))
def RdAt (w : World) (q : Nat) (r : Rd) : Prop := RbAt w q r (nextV r)
section
variable {w : World} {q : Nat} {r : Rd} {f : Value}
theorem RbAt.lt (h : RbAt w q r f) : q < w.heap.size := lt_of_block h
theorem RbAt.free (h : RbAt w q r f) (j : Nat) : w.frozen? ⟨q, j, none⟩ = false := frozen_of_row w q j _ _ h
theorem RbAt.cell0 (h : RbAt w q r f) : w.cell? ⟨q, 0, none⟩ = some f := by rw [cell_of_row w q 0 _ _ _ h]; rfl
theorem RbAt.cell1 (h : RbAt w q r f) : w.cell? ⟨q, 1, none⟩ = some (.int .u64 r.v) := by rw [cell_of_row w q 1 _ _ _ h]; rfl
theorem RbAt.cell2 (h : RbAt w q r f) : w.cell? ⟨q, 2, none⟩ = some (.float .f64 r.x) := by rw [cell_of_row w q 2 _ _ _ h]; rfl
theorem RbAt.cell3 (h : RbAt w q r f) : w.cell? ⟨q, 3, none⟩ = some (.float .f64 r.y) := by rw [cell_of_row w q 3 _ _ _ h]; rfl
theorem RbAt.cell4 (h : RbAt w q r f) : w.cell? ⟨q, 4, none⟩ = some (.int .i64 r.n) := by rw [cell_of_row w q 4 _ _ _ h]; rfl
theorem RbAt.cell5 (h : RbAt w q r f) : w.cell? ⟨q, 5, none⟩ = some (.bool r.t) := by rw [cell_of_row w q 5 _ _ _ h]; rfl
theorem RbAt.keep {w' : World} (h : RbAt w q r f) (k : w'.heap[q]? = w.heap[q]?) : RbAt w' q r f := k.trans h
theorem RbAt.setF (h : RbAt w q r f) (f' : Value) : RbAt (w.setCell ⟨q, 0, none⟩ f') q r f' := (heap_setCell_same w q 0 _ _ _ h).trans rfl
theorem RbAt.setV (h : RbAt w q r f) (v : Int) : RbAt (w.setCell ⟨q, 1, none⟩ (.int .u64 v)) q { r with v := v } f := (heap_setCell_same w q 1 _ _ _ h).trans rfl
theorem RbAt.setX (h : RbAt w q r f) (x : Nat) : RbAt (w.setCell ⟨q, 2, none⟩ (.float .f64 x)) q { r with x := x } f := (heap_setCell_same w q 2 _ _ _ h).trans rfl
theorem RbAt.setY (h : RbAt w q r f) (y : Nat) : RbAt (w.setCell ⟨q, 3, none⟩ (.float .f64 y)) q { r with y := y } f := (heap_setCell_same w q 3 _ _ _ h).trans rfl
theorem RbAt.setN (h : RbAt w q r f) (n : Int) : RbAt (w.setCell ⟨q, 4, none⟩ (.int .i64 n)) q { r with n := n } f := (heap_setCell_same w q 4 _ _ _ h).trans rfl
theorem RbAt.setT (h : RbAt w q r f) (t : Bool) : RbAt (w.setCell ⟨q, 5, none⟩ (.bool t)) q { r with t := t } f := (heap_setCell_same w q 5 _ _ _ h).trans rfl
theorem RbAt.ch {w' : World} {L : List Nat} (h : RbAt w q r f) (k : Ch L w w') (h1 : q ∉ L) : RbAt w' q r f := h.keep (k.block q h.lt h1)
theorem RdAt.ch {w' : World} {L : List Nat} (h : RdAt w q r) (k : Ch L w w') (h1 : q ∉ L) : RdAt w' q r := RbAt.ch h k h1
theorem RdAt.on {w' : World} (h : RdAt w q r) (k : Below w.heap.size w w') : RdAt w' q r := RbAt.keep h (k.block q (RbAt.lt h))
theorem RdAt.lt (h : RdAt w q r) : q < w.heap.size := RbAt.lt h
end
/-- which word the step has -/
def wrd (k : Nat) : Int := if k = 1 then 1 else if k = 3 then 2 else 0
theorem wrd_in (k : Nat) : 0 ≤ wrd k ∧ wrd k < 3 := by unfold wrd; split <;> (try split) <;> omega
/-- what a read is behind a word that it was told, but for its count -/
def nx0 (r : Rd) (u : Int) : Rd :=
  if r.k = 0 then { r with v := u, k := if r.s < u then 3 else 1 }
  else if r.k = 1 then { r with x := fixB u.toNat, k := 2 }
  else if r.k = 2 then (if u = r.v then { r with y := r.x, k := 4 } else { r with t := true, k := 3 })
  else { r with y := fixB u.toNat, k := 4 }
def errR (r : Rd) (ws : List Int) (o : Bool) : Int := if r.k < 4 then errC ws o r.p r.c (wrd r.k) else 3
def nxt (r : Rd) (u : Int) : Rd := { nx0 r u with n := up r.n }
def stepR (r : Rd) (ws : List Int) (o : Bool) : Rd := if errR r ws o = 0 then nxt r (wordC ws r.p r.c (wrd r.k)) else r

section
variable {w : World} {b g q : Nat} {ws : List Int} {o : Bool} {n : Int} {r : Rd}
set_option maxRecDepth 100000 in
theorem over_any (h : RdAt w q r) : Calls Tryz.prog 146 #[.pointer (some ⟨q, 0, none⟩)] w fun e w' => e = .returned (.bool (decide (4 ≤ r.k))) ∧ w' = w := by
  have h0 := RbAt.cell0 h
  have hq := RbAt.lt h
  unfold nextV at h0
  by_cases hk : r.k < 4
  · rw [if_pos hk] at h0
    generalize viewF r.k = ff at h0
    generalize recvV r = fr at h0
    have hk' : decide (4 ≤ r.k) = false := decide_eq_false (by omega)
    rw [hk']
    clear h hk hk'
    go_enter Tryz.func146, Tryz.ntmps146
    go_wp2
    go_ret
    exact ⟨rfl, rfl⟩
  · rw [if_neg hk] at h0
    have hk' : decide (4 ≤ r.k) = true := decide_eq_true (by omega)
    rw [hk']
    clear h hk hk'
    go_enter Tryz.func146, Tryz.ntmps146
    go_wp2
    go_ret
    exact ⟨rfl, rfl⟩
set_option maxRecDepth 100000 in
theorem end_any {f : Value} (h : RbAt w q r f) (x : Nat) : Calls Tryz.prog 203 #[.pointer (some ⟨q, 0, none⟩), .float .f64 x] w fun e w' => e = .returned (.tuple #[]) ∧ RbAt w' q { r with y := x } .nilFunc ∧ Ch [q] w w' := by
  have h0 := h.cell0
  have h3 := h.cell3
  have hq := h.lt
  have hf0 := h.free 0
  have hf3 := h.free 3
  have HM := Lib.hid h
  clear h
  go_enter Tryz.func203, Tryz.ntmps203
  go_wp2
  go_end0
  exact ⟨rfl, (HM.out.setY x).setF _, ((Ch.refl _ _).set (by simp) _ _).set (by simp) _ _⟩
end
end Go.Proofs.YtninicfnhoediaaGreatDoor.Md.Ce
namespace Go.Proofs.YtninicfnhoediaaGreatDoor.Md.Ce
open Go.ChangeShapes Go.WideShapes Go.ChangeAt Go.RowKit Num
attribute [local go_sem] run_store_float run_store_func run_store_nilFunc

section
variable {w : World} {b g q : Nat} {ws : List Int} {o : Bool} {n : Int} {r : Rd} {f : Value}
/-- what a call of load leaves, with the view's own block ahead of it -/
theorem view_aft {w1 : World} {x y z : Value} {T : TypeId} (h : RbAt w q r f) (h1 : q ≠ b) (h2 : q ≠ g) (hb : b < w.heap.size) (hg : g < w.heap.size) (hc : Chg b g (w.alloc (.cells #[x, y, z] T)) w1) :
    w1.cell? ⟨w.heap.size, 0, none⟩ = some x ∧ w1.cell? ⟨w.heap.size, 1, none⟩ = some y ∧ w1.cell? ⟨w.heap.size, 2, none⟩ = some z ∧ w.heap.size < w1.heap.size ∧ RbAt w1 q r f ∧ Ch [b, g, q] w w1 := by
  have hq := h.lt
  have hs := hc.size
  simp at hs
  have hx : w1.heap[w.heap.size]? = some (.cells #[x, y, z] T (0, 0)) := (hc.block w.heap.size (by simp) (by omega) (by omega)).trans (heap_alloc_new _ _)
  refine ⟨?_, ?_, ?_, by omega, h.keep ((hc.block q (by simp; omega) h1 h2).trans (Below.heap_alloc _ _ _ hq)), ?_⟩
  · rw [cell_of_row _ _ _ _ _ _ hx]; rfl
  · rw [cell_of_row _ _ _ _ _ _ hx]; rfl
  · rw [cell_of_row _ _ _ _ _ _ hx]; rfl
  · exact ((Ch.refl _ _).alloc _).trans (hc.ch (by simp) (by simp))
set_option maxRecDepth 100000 in
set_option maxHeartbeats 1000000 in
theorem lv_ok (h : MemAt 123 w b g ws o n) (hr : RbAt w q r f) (h1 : q ≠ b) (h2 : q ≠ g) (hk : r.k = 0) (hok : errC ws o r.p r.c 0 = 0) : Calls Tryz.prog 145 #[recvV r, .pointer (some ⟨q, 0, none⟩), .pointer (some ⟨b, 0, none⟩)] w fun e w' => e = .returned (.int .i64 0) ∧ MemAt 123 w' b g ws false (up n) ∧ RbAt w' q (nx0 r (wordC ws r.p r.c 0)) (nextV (nx0 r (wordC ws r.p r.c 0))) ∧ Ch [b, g, q] w w' := by
  have hb := h.ltB
  have hg := h.ltG
  have hq := hr.lt
  have HL := Lib.hid (cload_ok (h.alloc (.cells #[.int .i64 r.p, .int .i64 r.c, .int .u64 r.s] 208)) (p := r.p) (c := r.c) (j := 0) (by omega) hok)
  have HR := Lib.hid hr
  have HN := Lib.hid (And.intro h1 h2)
  unfold recvV
  generalize wordC ws r.p r.c 0 = u at HL ⊢
  clear h hok
  obtain ⟨p, c, s, k, v, x, y, m, t⟩ := r
  simp only at hk HL
  subst hk
  clear hr
  by_cases hu : s < u
  · have hn : nx0 ⟨p, c, s, 0, v, x, y, m, t⟩ u = ⟨p, c, s, 3, u, x, y, m, t⟩ := by simp [nx0, hu]
    rw [hn]
    clear hn
    go_enter Tryz.func145, Tryz.ntmps145
    go_wp2_with (go_at_call 176; refine HL.out.mono ?_; rintro e w1 ⟨rfl, hm, hc⟩; obtain ⟨c0, c1, c2, c3, hrr, hch⟩ := view_aft HR.out HN.out.1 HN.out.2 hb hg hc; have d0 := hrr.cell0; have d1 := hrr.cell1; have d2 := hrr.cell2; have d3 := hrr.cell3; have d5 := hrr.cell5; have dq := hrr.lt; have f0 := hrr.free 0; have f1 := hrr.free 1; have f2 := hrr.free 2; have f5 := hrr.free 5; have HX := Lib.hid (And.intro hm (And.intro hrr hch)); clear hm hc hrr hch)
    go_ret
    exact ⟨rfl, (((HX.out.1.other (Ne.symm HN.out.1) (Ne.symm HN.out.2) _ _).other (Ne.symm HN.out.1) (Ne.symm HN.out.2) _ _).other (Ne.symm HN.out.1) (Ne.symm HN.out.2) _ _), ((HX.out.2.1.setV u).setF _).setF _, ((HX.out.2.2.set (by simp) _ _).set (by simp) _ _).set (by simp) _ _⟩
  · have hn : nx0 ⟨p, c, s, 0, v, x, y, m, t⟩ u = ⟨p, c, s, 1, u, x, y, m, t⟩ := by simp [nx0, hu]
    rw [hn]
    clear hn
    go_enter Tryz.func145, Tryz.ntmps145
    go_wp2_with (go_at_call 176; refine HL.out.mono ?_; rintro e w1 ⟨rfl, hm, hc⟩; obtain ⟨c0, c1, c2, c3, hrr, hch⟩ := view_aft HR.out HN.out.1 HN.out.2 hb hg hc; have d0 := hrr.cell0; have d1 := hrr.cell1; have d2 := hrr.cell2; have d3 := hrr.cell3; have d5 := hrr.cell5; have dq := hrr.lt; have f0 := hrr.free 0; have f1 := hrr.free 1; have f2 := hrr.free 2; have f5 := hrr.free 5; have HX := Lib.hid (And.intro hm (And.intro hrr hch)); clear hm hc hrr hch)
    go_ret
    exact ⟨rfl, ((HX.out.1.other (Ne.symm HN.out.1) (Ne.symm HN.out.2) _ _).other (Ne.symm HN.out.1) (Ne.symm HN.out.2) _ _), (HX.out.2.1.setV u).setF _, (HX.out.2.2.set (by simp) _ _).set (by simp) _ _⟩
set_option maxRecDepth 100000 in
set_option maxHeartbeats 1000000 in
theorem ln_ok (h : MemAt 123 w b g ws o n) (hr : RbAt w q r f) (h1 : q ≠ b) (h2 : q ≠ g) (hk : r.k = 1) (hok : errC ws o r.p r.c 1 = 0) : Calls Tryz.prog 177 #[recvV r, .pointer (some ⟨q, 0, none⟩), .pointer (some ⟨b, 0, none⟩)] w fun e w' => e = .returned (.int .i64 0) ∧ MemAt 123 w' b g ws false (up n) ∧ RbAt w' q (nx0 r (wordC ws r.p r.c 1)) (nextV (nx0 r (wordC ws r.p r.c 1))) ∧ Ch [b, g, q] w w' := by
  have hb := h.ltB
  have hg := h.ltG
  have hq := hr.lt
  have HL := Lib.hid (cload_ok (h.alloc (.cells #[.int .i64 r.p, .int .i64 r.c, .int .u64 r.s] 208)) (p := r.p) (c := r.c) (j := 1) (by omega) hok)
  have HR := Lib.hid hr
  have HN := Lib.hid (And.intro h1 h2)
  unfold recvV
  generalize wordC ws r.p r.c 1 = u at HL ⊢
  clear h hok
  obtain ⟨p, c, s, k, v, x, y, m, t⟩ := r
  simp only at hk HL
  subst hk
  clear hr
  have hn : nx0 ⟨p, c, s, 1, v, x, y, m, t⟩ u = ⟨p, c, s, 2, v, fixB u.toNat, y, m, t⟩ := by simp [nx0]
  rw [hn]
  clear hn
  go_enter Tryz.func177, Tryz.ntmps177
  go_wp2_with (first
    | (go_at_call 176; refine HL.out.mono ?_; rintro e w1 ⟨rfl, hm, hc⟩; obtain ⟨c0, c1, c2, c3, hrr, hch⟩ := view_aft HR.out HN.out.1 HN.out.2 hb hg hc; have d0 := hrr.cell0; have d1 := hrr.cell1; have d2 := hrr.cell2; have d3 := hrr.cell3; have d5 := hrr.cell5; have dq := hrr.lt; have f0 := hrr.free 0; have f1 := hrr.free 1; have f2 := hrr.free 2; have f5 := hrr.free 5; have HX := Lib.hid (And.intro hm (And.intro hrr hch)); clear hm hc hrr hch)
    | (go_at_call 60; refine (of_int _ _).mono ?_; rintro e w2 ⟨rfl, hw⟩; subst w2))
  go_ret
  exact ⟨rfl, ((HX.out.1.other (Ne.symm HN.out.1) (Ne.symm HN.out.2) _ _).other (Ne.symm HN.out.1) (Ne.symm HN.out.2) _ _), (HX.out.2.1.setX _).setF _, (HX.out.2.2.set (by simp) _ _).set (by simp) _ _⟩
set_option maxRecDepth 100000 in
set_option maxHeartbeats 1000000 in
theorem la_ok (h : MemAt 123 w b g ws o n) (hr : RbAt w q r f) (h1 : q ≠ b) (h2 : q ≠ g) (hk : r.k = 2) (hok : errC ws o r.p r.c 0 = 0) : Calls Tryz.prog 202 #[recvV r, .pointer (some ⟨q, 0, none⟩), .pointer (some ⟨b, 0, none⟩)] w fun e w' => e = .returned (.int .i64 0) ∧ MemAt 123 w' b g ws false (up n) ∧ RbAt w' q (nx0 r (wordC ws r.p r.c 0)) (nextV (nx0 r (wordC ws r.p r.c 0))) ∧ Ch [b, g, q] w w' := by
  have hb := h.ltB
  have hg := h.ltG
  have hq := hr.lt
  have HL := Lib.hid (cload_ok (h.alloc (.cells #[.int .i64 r.p, .int .i64 r.c, .int .u64 r.s] 208)) (p := r.p) (c := r.c) (j := 0) (by omega) hok)
  have HR := Lib.hid hr
  have HN := Lib.hid (And.intro h1 h2)
  unfold recvV
  generalize wordC ws r.p r.c 0 = u at HL ⊢
  clear h hok
  obtain ⟨p, c, s, k, v, x, y, m, t⟩ := r
  simp only at hk HL
  subst hk
  clear hr
  by_cases hu : u = v
  · have hn : nx0 ⟨p, c, s, 2, v, x, y, m, t⟩ u = ⟨p, c, s, 4, v, x, x, m, t⟩ := by simp [nx0, hu]
    rw [hn]
    subst hu
    clear hn
    go_enter Tryz.func202, Tryz.ntmps202
    go_wp2_with (first
      | (go_at_call 176; refine HL.out.mono ?_; rintro e w1 ⟨rfl, hm, hc⟩; obtain ⟨c0, c1, c2, c3, hrr, hch⟩ := view_aft HR.out HN.out.1 HN.out.2 hb hg hc; have d0 := hrr.cell0; have d1 := hrr.cell1; have d2 := hrr.cell2; have d3 := hrr.cell3; have d5 := hrr.cell5; have dq := hrr.lt; have f0 := hrr.free 0; have f1 := hrr.free 1; have f2 := hrr.free 2; have f5 := hrr.free 5; have HX := Lib.hid (And.intro hm (And.intro hrr hch)); clear hm hc hrr hch)
      | (go_at_call 203; refine (end_any HX.out.2.1 _).mono ?_; rintro e w2 ⟨rfl, hr2, hc2⟩; have HY := Lib.hid (And.intro (HX.out.1.ch hc2 (by simp; exact Ne.symm HN.out.1) (by simp; exact Ne.symm HN.out.2)) (And.intro hr2 (HX.out.2.2.trans (hc2.mono (by simp))))); clear hr2 hc2 HX))
    go_ret
    exact ⟨rfl, HY.out⟩
  · have hn : nx0 ⟨p, c, s, 2, v, x, y, m, t⟩ u = ⟨p, c, s, 3, v, x, y, m, true⟩ := by simp [nx0, hu]
    rw [hn]
    clear hn
    go_enter Tryz.func202, Tryz.ntmps202
    go_wp2_with (go_at_call 176; refine HL.out.mono ?_; rintro e w1 ⟨rfl, hm, hc⟩; obtain ⟨c0, c1, c2, c3, hrr, hch⟩ := view_aft HR.out HN.out.1 HN.out.2 hb hg hc; have d0 := hrr.cell0; have d1 := hrr.cell1; have d2 := hrr.cell2; have d3 := hrr.cell3; have d5 := hrr.cell5; have dq := hrr.lt; have f0 := hrr.free 0; have f1 := hrr.free 1; have f2 := hrr.free 2; have f5 := hrr.free 5; have HX := Lib.hid (And.intro hm (And.intro hrr hch)); clear hm hc hrr hch)
    go_ret
    exact ⟨rfl, ((HX.out.1.other (Ne.symm HN.out.1) (Ne.symm HN.out.2) _ _).other (Ne.symm HN.out.1) (Ne.symm HN.out.2) _ _), (HX.out.2.1.setT _).setF _, (HX.out.2.2.set (by simp) _ _).set (by simp) _ _⟩
set_option maxRecDepth 100000 in
set_option maxHeartbeats 1000000 in
theorem lw_ok (h : MemAt 123 w b g ws o n) (hr : RbAt w q r f) (h1 : q ≠ b) (h2 : q ≠ g) (hk : r.k = 3) (hok : errC ws o r.p r.c 2 = 0) : Calls Tryz.prog 178 #[recvV r, .pointer (some ⟨q, 0, none⟩), .pointer (some ⟨b, 0, none⟩)] w fun e w' => e = .returned (.int .i64 0) ∧ MemAt 123 w' b g ws false (up n) ∧ RbAt w' q (nx0 r (wordC ws r.p r.c 2)) (nextV (nx0 r (wordC ws r.p r.c 2))) ∧ Ch [b, g, q] w w' := by
  have hb := h.ltB
  have hg := h.ltG
  have hq := hr.lt
  have HL := Lib.hid (cload_ok (h.alloc (.cells #[.int .i64 r.p, .int .i64 r.c, .int .u64 r.s] 208)) (p := r.p) (c := r.c) (j := 2) (by omega) hok)
  have HR := Lib.hid hr
  have HN := Lib.hid (And.intro h1 h2)
  unfold recvV
  generalize wordC ws r.p r.c 2 = u at HL ⊢
  clear h hok
  obtain ⟨p, c, s, k, v, x, y, m, t⟩ := r
  simp only at hk HL
  subst hk
  clear hr
  have hn : nx0 ⟨p, c, s, 3, v, x, y, m, t⟩ u = ⟨p, c, s, 4, v, x, fixB u.toNat, m, t⟩ := by simp [nx0]
  rw [hn]
  clear hn
  go_enter Tryz.func178, Tryz.ntmps178
  go_wp2_with (first
    | (go_at_call 176; refine HL.out.mono ?_; rintro e w1 ⟨rfl, hm, hc⟩; obtain ⟨c0, c1, c2, c3, hrr, hch⟩ := view_aft HR.out HN.out.1 HN.out.2 hb hg hc; have d0 := hrr.cell0; have d1 := hrr.cell1; have d2 := hrr.cell2; have d3 := hrr.cell3; have d5 := hrr.cell5; have dq := hrr.lt; have f0 := hrr.free 0; have f1 := hrr.free 1; have f2 := hrr.free 2; have f5 := hrr.free 5; have HX := Lib.hid (And.intro hm (And.intro hrr hch)); clear hm hc hrr hch)
    | (go_at_call 60; refine (of_int _ _).mono ?_; rintro e w2 ⟨rfl, hw⟩; subst w2)
    | (go_at_call 203; refine (end_any HX.out.2.1 _).mono ?_; rintro e w2 ⟨rfl, hr2, hc2⟩; have HY := Lib.hid (And.intro (HX.out.1.ch hc2 (by simp; exact Ne.symm HN.out.1) (by simp; exact Ne.symm HN.out.2)) (And.intro hr2 (HX.out.2.2.trans (hc2.mono (by simp))))); clear hr2 hc2 HX))
  go_ret
  exact ⟨rfl, HY.out⟩
set_option maxRecDepth 100000 in
set_option maxHeartbeats 1000000 in
theorem lv_no (h : MemAt 123 w b g ws o n) (hr : RbAt w q r f) (h1 : q ≠ b) (h2 : q ≠ g) (hok : ¬ errC ws o r.p r.c 0 = 0) : Calls Tryz.prog 145 #[recvV r, .pointer (some ⟨q, 0, none⟩), .pointer (some ⟨b, 0, none⟩)] w fun e w' => e = .returned (.int .i64 (errC ws o r.p r.c 0)) ∧ MemAt 123 w' b g ws o n ∧ RbAt w' q r f ∧ Ch [b, g, q] w w' := by
  have hb := h.ltB
  have hg := h.ltG
  have HL := Lib.hid (cload_no (h.alloc (.cells #[.int .i64 r.p, .int .i64 r.c, .int .u64 r.s] 208)) (p := r.p) (c := r.c) (j := 0) (by omega) hok)
  have HR := Lib.hid hr
  have HN := Lib.hid (And.intro h1 h2)
  unfold recvV
  generalize errC ws o r.p r.c 0 = x at HL hok ⊢
  clear h hr
  go_enter Tryz.func145, Tryz.ntmps145
  go_wp2_with (go_at_call 176; refine HL.out.mono ?_; rintro e w1 ⟨rfl, hm, hc⟩; obtain ⟨_, _, _, _, hrr, hch⟩ := view_aft HR.out HN.out.1 HN.out.2 hb hg hc; have HX := Lib.hid (And.intro hm (And.intro hrr hch)); clear hm hc hrr hch)
  go_ret
  exact ⟨rfl, HX.out⟩
set_option maxRecDepth 100000 in
set_option maxHeartbeats 1000000 in
theorem ln_no (h : MemAt 123 w b g ws o n) (hr : RbAt w q r f) (h1 : q ≠ b) (h2 : q ≠ g) (hok : ¬ errC ws o r.p r.c 1 = 0) : Calls Tryz.prog 177 #[recvV r, .pointer (some ⟨q, 0, none⟩), .pointer (some ⟨b, 0, none⟩)] w fun e w' => e = .returned (.int .i64 (errC ws o r.p r.c 1)) ∧ MemAt 123 w' b g ws o n ∧ RbAt w' q r f ∧ Ch [b, g, q] w w' := by
  have hb := h.ltB
  have hg := h.ltG
  have HL := Lib.hid (cload_no (h.alloc (.cells #[.int .i64 r.p, .int .i64 r.c, .int .u64 r.s] 208)) (p := r.p) (c := r.c) (j := 1) (by omega) hok)
  have HR := Lib.hid hr
  have HN := Lib.hid (And.intro h1 h2)
  unfold recvV
  generalize errC ws o r.p r.c 1 = x at HL hok ⊢
  clear h hr
  go_enter Tryz.func177, Tryz.ntmps177
  go_wp2_with (go_at_call 176; refine HL.out.mono ?_; rintro e w1 ⟨rfl, hm, hc⟩; obtain ⟨_, _, _, _, hrr, hch⟩ := view_aft HR.out HN.out.1 HN.out.2 hb hg hc; have HX := Lib.hid (And.intro hm (And.intro hrr hch)); clear hm hc hrr hch)
  go_ret
  exact ⟨rfl, HX.out⟩
set_option maxRecDepth 100000 in
set_option maxHeartbeats 1000000 in
theorem la_no (h : MemAt 123 w b g ws o n) (hr : RbAt w q r f) (h1 : q ≠ b) (h2 : q ≠ g) (hok : ¬ errC ws o r.p r.c 0 = 0) : Calls Tryz.prog 202 #[recvV r, .pointer (some ⟨q, 0, none⟩), .pointer (some ⟨b, 0, none⟩)] w fun e w' => e = .returned (.int .i64 (errC ws o r.p r.c 0)) ∧ MemAt 123 w' b g ws o n ∧ RbAt w' q r f ∧ Ch [b, g, q] w w' := by
  have hb := h.ltB
  have hg := h.ltG
  have HL := Lib.hid (cload_no (h.alloc (.cells #[.int .i64 r.p, .int .i64 r.c, .int .u64 r.s] 208)) (p := r.p) (c := r.c) (j := 0) (by omega) hok)
  have HR := Lib.hid hr
  have HN := Lib.hid (And.intro h1 h2)
  unfold recvV
  generalize errC ws o r.p r.c 0 = x at HL hok ⊢
  clear h hr
  go_enter Tryz.func202, Tryz.ntmps202
  go_wp2_with (go_at_call 176; refine HL.out.mono ?_; rintro e w1 ⟨rfl, hm, hc⟩; obtain ⟨_, _, _, _, hrr, hch⟩ := view_aft HR.out HN.out.1 HN.out.2 hb hg hc; have HX := Lib.hid (And.intro hm (And.intro hrr hch)); clear hm hc hrr hch)
  go_ret
  exact ⟨rfl, HX.out⟩
set_option maxRecDepth 100000 in
set_option maxHeartbeats 1000000 in
theorem lw_no (h : MemAt 123 w b g ws o n) (hr : RbAt w q r f) (h1 : q ≠ b) (h2 : q ≠ g) (hok : ¬ errC ws o r.p r.c 2 = 0) : Calls Tryz.prog 178 #[recvV r, .pointer (some ⟨q, 0, none⟩), .pointer (some ⟨b, 0, none⟩)] w fun e w' => e = .returned (.int .i64 (errC ws o r.p r.c 2)) ∧ MemAt 123 w' b g ws o n ∧ RbAt w' q r f ∧ Ch [b, g, q] w w' := by
  have hb := h.ltB
  have hg := h.ltG
  have HL := Lib.hid (cload_no (h.alloc (.cells #[.int .i64 r.p, .int .i64 r.c, .int .u64 r.s] 208)) (p := r.p) (c := r.c) (j := 2) (by omega) hok)
  have HR := Lib.hid hr
  have HN := Lib.hid (And.intro h1 h2)
  unfold recvV
  generalize errC ws o r.p r.c 2 = x at HL hok ⊢
  clear h hr
  go_enter Tryz.func178, Tryz.ntmps178
  go_wp2_with (go_at_call 176; refine HL.out.mono ?_; rintro e w1 ⟨rfl, hm, hc⟩; obtain ⟨_, _, _, _, hrr, hch⟩ := view_aft HR.out HN.out.1 HN.out.2 hb hg hc; have HX := Lib.hid (And.intro hm (And.intro hrr hch)); clear hm hc hrr hch)
  go_ret
  exact ⟨rfl, HX.out⟩
end
end Go.Proofs.YtninicfnhoediaaGreatDoor.Md.Ce
namespace Go.Proofs.YtninicfnhoediaaGreatDoor.Md.Ce
open Go.ChangeShapes Go.WideShapes Go.ChangeAt Go.RowKit Num
attribute [local go_sem] run_store_float run_store_func run_store_nilFunc

section
variable {w : World} {b g q : Nat} {ws : List Int} {o : Bool} {n : Int} {r : Rd}
theorem view_enter (k : Nat) (args : Array Value) (w : World) : (callFunc (viewF k) args).run Tryz.prog w = .ok (.enter (viewF k) args) w := by
  unfold viewF
  split
  · exact enter_run Tryz.func145 (by kernel_rfl) (by kernel_rfl) args w
  split
  · exact enter_run Tryz.func177 (by kernel_rfl) (by kernel_rfl) args w
  split
  · exact enter_run Tryz.func202 (by kernel_rfl) (by kernel_rfl) args w
  · exact enter_run Tryz.func178 (by kernel_rfl) (by kernel_rfl) args w
set_option maxRecDepth 100000 in
set_option maxHeartbeats 1000000 in
theorem rstep_over (h : RdAt w q r) (hk : ¬ r.k < 4) : Calls Tryz.prog 119 #[.pointer (some ⟨q, 0, none⟩), .pointer (some ⟨b, 0, none⟩)] w fun e w' => e = .returned (.tuple #[.bool false, .int .i64 3]) ∧ w' = w := by
  have H1 := Lib.hid (over_any h)
  rw [decide_eq_true (show 4 ≤ r.k by omega)] at H1
  clear h hk
  go_enter Tryz.func119, Tryz.ntmps119
  go_wp2_with (go_at_call 146; refine H1.out.mono ?_; rintro e w1 ⟨rfl, hw⟩; subst w1)
  go_ret2
  exact ⟨rfl, rfl⟩
set_option maxRecDepth 100000 in
set_option maxHeartbeats 1000000 in
theorem rstep_err (h : RdAt w q r) (hk : r.k < 4) {E : Int} (hE : ¬ E = 0) {Q : World → Prop} (hf : Calls Tryz.prog (viewF r.k) #[recvV r, .pointer (some ⟨q, 0, none⟩), .pointer (some ⟨b, 0, none⟩)] w fun e w' => e = .returned (.int .i64 E) ∧ Q w') :
    Calls Tryz.prog 119 #[.pointer (some ⟨q, 0, none⟩), .pointer (some ⟨b, 0, none⟩)] w fun e w' => e = .returned (.tuple #[.bool false, .int .i64 E]) ∧ Q w' := by
  have H1 := Lib.hid (over_any h)
  rw [decide_eq_false (show ¬ 4 ≤ r.k by omega)] at H1
  have h0 := RbAt.cell0 h
  have hq := RbAt.lt h
  have hcall := view_enter r.k
  unfold nextV at h0
  rw [if_pos hk] at h0
  generalize viewF r.k = ff at h0 hf hcall
  generalize recvV r = fr at h0 hf
  have HF := Lib.hid hf
  clear h hk hf
  go_enter Tryz.func119, Tryz.ntmps119
  go_wp2_with (first
    | (go_at_call 146; refine H1.out.mono ?_; rintro e w1 ⟨rfl, hw⟩; subst w1)
    | (refine HF.out.mono ?_; rintro e w' ⟨rfl, hqq⟩; have HQ := Lib.hid hqq; clear hqq))
  go_ret2
  exact ⟨rfl, HQ.out⟩
set_option maxRecDepth 100000 in
set_option maxHeartbeats 1000000 in
theorem rstep_let (h : RdAt w q r) (hk : r.k < 4) {r' : Rd} {Q : World → Prop} (hf : Calls Tryz.prog (viewF r.k) #[recvV r, .pointer (some ⟨q, 0, none⟩), .pointer (some ⟨b, 0, none⟩)] w fun e w' => e = .returned (.int .i64 0) ∧ Q w' ∧ RdAt w' q r') :
    Calls Tryz.prog 119 #[.pointer (some ⟨q, 0, none⟩), .pointer (some ⟨b, 0, none⟩)] w fun e w' => e = .returned (.tuple #[.bool (decide (4 ≤ r'.k)), .int .i64 0]) ∧ ∃ w1, Q w1 ∧ RdAt w1 q r' ∧ w' = w1.setCell ⟨q, 4, none⟩ (.int .i64 (up r'.n)) := by
  have H1 := Lib.hid (over_any h)
  rw [decide_eq_false (show ¬ 4 ≤ r.k by omega)] at H1
  have h0 := RbAt.cell0 h
  have hq := RbAt.lt h
  have hcall := view_enter r.k
  unfold nextV at h0
  rw [if_pos hk] at h0
  generalize viewF r.k = ff at h0 hf hcall
  generalize recvV r = fr at h0 hf
  have HF := Lib.hid hf
  have HO := Lib.hid (fun (w1 : World) (h1 : RdAt w1 q r') => over_any (show RdAt (w1.setCell ⟨q, 4, none⟩ (.int .i64 (up r'.n))) q { r' with n := up r'.n } from RbAt.setN h1 _))
  simp only at HO
  generalize hdd : decide (4 ≤ r'.k) = dd at HO ⊢
  clear h hk hf hdd
  unfold up at HO ⊢
  go_enter Tryz.func119, Tryz.ntmps119
  go_wp2_with (first
    | (go_at_call 146; refine H1.out.mono ?_; rintro e w1 ⟨rfl, hw⟩; subst w1; clear H1)
    | (go_at_call 146; refine (HO.out _ HQ.out.2).mono ?_; rintro e w1 ⟨rfl, hw⟩; subst w1; clear HO)
    | (refine HF.out.mono ?_; rintro e w2 ⟨rfl, hqq, hr2⟩; have d4 := RbAt.cell4 hr2; have f4 := RbAt.free hr2 4; have l4 := RbAt.lt hr2; have HQ := Lib.hid (And.intro hqq hr2); clear hqq hr2 HF))
  go_ret2
  exact ⟨rfl, w2, HQ.out.1, HQ.out.2, rfl⟩
/-- a step of a read, whatever it is -/
theorem view_let (h : MemAt 123 w b g ws o n) (hr : RdAt w q r) (h1 : q ≠ b) (h2 : q ≠ g) (hk : r.k < 4) (hok : errC ws o r.p r.c (wrd r.k) = 0) : Calls Tryz.prog (viewF r.k) #[recvV r, .pointer (some ⟨q, 0, none⟩), .pointer (some ⟨b, 0, none⟩)] w fun e w' => e = .returned (.int .i64 0) ∧ (MemAt 123 w' b g ws false (up n) ∧ Ch [b, g, q] w w') ∧ RdAt w' q (nx0 r (wordC ws r.p r.c (wrd r.k))) := by
  have hc : r.k = 0 ∨ r.k = 1 ∨ r.k = 2 ∨ r.k = 3 := by omega
  rcases hc with hc | hc | hc | hc
  · rw [show viewF r.k = 145 by simp [viewF, hc], show wrd r.k = 0 by simp [wrd, hc]]
    refine (lv_ok h hr h1 h2 hc (by rw [hc] at hok; exact hok)).mono fun e w' ⟨k1, k2, k3, k4⟩ => ⟨k1, ⟨k2, k4⟩, k3⟩
  · rw [show viewF r.k = 177 by simp [viewF, hc], show wrd r.k = 1 by simp [wrd, hc]]
    refine (ln_ok h hr h1 h2 hc (by rw [hc] at hok; exact hok)).mono fun e w' ⟨k1, k2, k3, k4⟩ => ⟨k1, ⟨k2, k4⟩, k3⟩
  · rw [show viewF r.k = 202 by simp [viewF, hc], show wrd r.k = 0 by simp [wrd, hc]]
    refine (la_ok h hr h1 h2 hc (by rw [hc] at hok; exact hok)).mono fun e w' ⟨k1, k2, k3, k4⟩ => ⟨k1, ⟨k2, k4⟩, k3⟩
  · rw [show viewF r.k = 178 by simp [viewF, hc], show wrd r.k = 2 by simp [wrd, hc]]
    refine (lw_ok h hr h1 h2 hc (by rw [hc] at hok; exact hok)).mono fun e w' ⟨k1, k2, k3, k4⟩ => ⟨k1, ⟨k2, k4⟩, k3⟩
theorem view_no (h : MemAt 123 w b g ws o n) (hr : RdAt w q r) (h1 : q ≠ b) (h2 : q ≠ g) (hk : r.k < 4) (hok : ¬ errC ws o r.p r.c (wrd r.k) = 0) : Calls Tryz.prog (viewF r.k) #[recvV r, .pointer (some ⟨q, 0, none⟩), .pointer (some ⟨b, 0, none⟩)] w fun e w' => e = .returned (.int .i64 (errC ws o r.p r.c (wrd r.k))) ∧ MemAt 123 w' b g ws o n ∧ RdAt w' q r ∧ Ch [b, g, q] w w' := by
  have hc : r.k = 0 ∨ r.k = 1 ∨ r.k = 2 ∨ r.k = 3 := by omega
  rcases hc with hc | hc | hc | hc
  · rw [show viewF r.k = 145 by simp [viewF, hc], show wrd r.k = 0 by simp [wrd, hc]]
    exact lv_no h hr h1 h2 (by rw [hc] at hok; exact hok)
  · rw [show viewF r.k = 177 by simp [viewF, hc], show wrd r.k = 1 by simp [wrd, hc]]
    exact ln_no h hr h1 h2 (by rw [hc] at hok; exact hok)
  · rw [show viewF r.k = 202 by simp [viewF, hc], show wrd r.k = 0 by simp [wrd, hc]]
    exact la_no h hr h1 h2 (by rw [hc] at hok; exact hok)
  · rw [show viewF r.k = 178 by simp [viewF, hc], show wrd r.k = 2 by simp [wrd, hc]]
    exact lw_no h hr h1 h2 (by rw [hc] at hok; exact hok)
/-- is it over with this step; what the memory is behind it -/
def endR (r : Rd) (ws : List Int) (o : Bool) : Bool := decide (errR r ws o = 0) && decide (4 ≤ (stepR r ws o).k)
def aftO (e : Int) (o : Bool) : Bool := if e = 0 then false else o
def aftN (e n : Int) : Int := if e = 0 then up n else n
theorem nx0_n (r : Rd) (u : Int) : (nx0 r u).n = r.n := by unfold nx0; split <;> (try split) <;> (try split) <;> (try split) <;> rfl
theorem rstep_any (h : MemAt 123 w b g ws o n) (hr : RdAt w q r) (h1 : q ≠ b) (h2 : q ≠ g) : Calls Tryz.prog 119 #[.pointer (some ⟨q, 0, none⟩), .pointer (some ⟨b, 0, none⟩)] w fun e w' => e = .returned (.tuple #[.bool (endR r ws o), .int .i64 (errR r ws o)]) ∧ MemAt 123 w' b g ws (aftO (errR r ws o) o) (aftN (errR r ws o) n) ∧ RdAt w' q (stepR r ws o) ∧ Ch [b, g, q] w w' := by
  by_cases hk : r.k < 4
  · have eE : errR r ws o = errC ws o r.p r.c (wrd r.k) := by simp [errR, hk]
    by_cases hok : errC ws o r.p r.c (wrd r.k) = 0
    · refine (rstep_let hr hk (view_let h hr h1 h2 hk hok)).mono fun e w' ⟨he, w1, ⟨hm, hch⟩, hr1, hw⟩ => ?_
      have e1 : errR r ws o = 0 := by rw [eE]; exact hok
      have e2 : stepR r ws o = nxt r (wordC ws r.p r.c (wrd r.k)) := by simp [stepR, e1]
      have e3 : endR r ws o = decide (4 ≤ (nx0 r (wordC ws r.p r.c (wrd r.k))).k) := by simp [endR, e1, e2, nxt]
      rw [e3, e2, e1]
      subst hw
      refine ⟨he, ?_, ?_, hch.set (by simp) _ _⟩
      · exact hm.other (Ne.symm h1) (Ne.symm h2) _ _
      · have := RbAt.setN hr1 (up r.n)
        rw [nx0_n]
        exact this
    · refine (rstep_err hr hk hok (view_no h hr h1 h2 hk hok)).mono fun e w' ⟨he, hm, hr1, hch⟩ => ?_
      have e1 : ¬ errR r ws o = 0 := by rw [eE]; exact hok
      have e2 : stepR r ws o = r := by simp [stepR, e1]
      have e3 : endR r ws o = false := by simp [endR, e1]
      rw [e3, e2, aftO, aftN, if_neg e1, if_neg e1, eE]
      exact ⟨he, hm, hr1, hch⟩
  · refine (rstep_over hr hk).mono fun e w' ⟨he, hw⟩ => ?_
    subst hw
    have e1 : errR r ws o = 3 := by simp [errR, hk]
    have e2 : stepR r ws o = r := by simp [stepR, e1]
    have e3 : endR r ws o = false := by simp [endR, e1]
    rw [e3, e2, e1]
    exact ⟨he, h, hr, Ch.refl _ _⟩
theorem value_any (h : RdAt w q r) : Calls Tryz.prog 120 #[.pointer (some ⟨q, 0, none⟩)] w fun e w' => e = .returned (.float .f64 r.y) ∧ w' = w := by
  have h0 := RbAt.cell3 h
  have hb := RbAt.lt h
  clear h
  go_enter Tryz.func120, Tryz.ntmps120
  go_wp2
  go_ret
  exact ⟨rfl, rfl⟩
end
theorem alloc_at {w : World} {x : Obj} {k : Nat} (hk : w.heap.size = k) : (w.alloc x).heap[k]? = some x := by subst hk; exact heap_alloc_new _ _
/-- a plan, of which cells is looked at -/
def planV (a b c d p f : Int) : Value := .agg #[.int .i64 a, .int .i64 b, .int .i64 c, .int .i64 d, .int .i64 p, .int .i64 f]
def newR (p c s : Int) : Rd := ⟨p, c, s, 0, 0, 0, 0, 0, false⟩
set_option maxRecDepth 100000 in
set_option maxHeartbeats 1000000 in
theorem read_any (w : World) (a1 a2 a3 a4 p a6 c s : Int) : Calls Tryz.prog 118 #[planV a1 a2 a3 a4 p a6, .int .i64 c, .int .u64 s] w fun e w' => ∃ q, e = .returned (.pointer (some ⟨q, 0, none⟩)) ∧ w.heap.size ≤ q ∧ RdAt w' q (newR p c s) ∧ Below w.heap.size w w' := by
  unfold planV
  go_enter Tryz.func118, Tryz.ntmps118
  go_wp2
  go_ret
  refine ⟨_, rfl, by omega, ?_, (((Below.refl _ _).alloc (Nat.le_refl _) _).alloc (by simp) _).alloc (by simp; omega) _⟩
  exact alloc_at (by simp)
end Go.Proofs.YtninicfnhoediaaGreatDoor.Md.Ce
namespace Go.Proofs.YtninicfnhoediaaGreatDoor.Md.Ce
open Go.ChangeShapes Go.WideShapes Go.ChangeAt Go.RowKit Num

theorem bl_alloc {a w : World} (h : Below a.heap.size a w) (x : Obj) : Below a.heap.size a (w.alloc x) := h.alloc h.size x
theorem bl_drew {a w : World} (h : Below a.heap.size a w) : Below a.heap.size a w.drew := ⟨h.os, h.tape, h.output, h.size, h.block⟩
theorem bl_drewN {a w : World} (n : Nat) (h : Below a.heap.size a w) : Below a.heap.size a (w.drewN n) := ⟨h.os, h.tape, h.output, h.size, h.block⟩
theorem bl_setCell {a w : World} {k : Nat} (h : Below a.heap.size a w) (hk : a.heap.size ≤ k) (j : Nat) (u : Value) : Below a.heap.size a (w.setCell ⟨k, j, none⟩ u) :=
  ⟨h.os, h.tape, h.output, by simpa using h.size, fun i hi => (heap_setCell_other w ⟨k, j, none⟩ i u (by show i ≠ k; omega)).trans (h.block i hi)⟩
theorem bl_setRow {a w : World} {k : Nat} (h : Below a.heap.size a w) (hk : a.heap.size ≤ k) (x : Array Value) : Below a.heap.size a (w.setRow k x) :=
  ⟨h.os, h.tape, h.output, by simpa using h.size, fun i hi => (setRow_other _ _ _ _ (by omega)).trans (h.block i hi)⟩
end Go.Proofs.YtninicfnhoediaaGreatDoor.Md.Ce
namespace Go.Proofs.YtninicfnhoediaaGreatDoor.Md.Ce
open Go.ChangeShapes Go.WideShapes Go.ChangeAt Go.RowKit Num
attribute [local go_sem] run_store_float run_store_func run_store_nilFunc

def tripV (v x y : Int) : Value := .agg #[.int .u64 v, .int .u64 x, .int .u64 y]
def tripC (v x y : Int) : Array Value := #[.int .u64 v, .int .u64 x, .int .u64 y]
/-- in the midst of a Peek: the answer's own block, the spot's, the list's with the first k words -/
structure Pk (w wr : World) (p c : Int) : Prop where
  below : Below w.heap.size w wr
  ans : wr.heap[w.heap.size + 1]? = some (.cells #[.int .u64 0, .int .u64 0, .int .u64 0] 77 (0, 0))
  spot : wr.heap[w.heap.size + 1 + 1]? = some (.cells #[.int .i64 p, .int .i64 c] 128 (0, 0))
theorem Pk.on {w wr u : World} {p c : Int} (h : Pk w wr p c) (k : Below wr.heap.size wr u) : Pk w u p c :=
  ⟨below_step h.below k, (k.block _ (lt_of_block h.ans)).trans h.ans, (k.block _ (lt_of_block h.spot)).trans h.spot⟩
/-- the first k of a cell's words -/
def PkL (ws : List Int) (p c : Int) (k : Nat) : List Int := [if 0 < k then wordC ws p c 0 else 0, if 1 < k then wordC ws p c 1 else 0, if 2 < k then wordC ws p c 2 else 0]
section
variable {w : World} {b g : Nat} {ws : List Int} {o : Bool} {n : Int}
def okP (ws : List Int) (p c : Int) : Bool := hasB ws (placeI p c 0) && hasB ws (placeI p c 1) && hasB ws (placeI p c 2)
def peekE (ws : List Int) (p c : Int) : Int := if mayC c then (if okP ws p c then 0 else 30) else 60
def peekW (ws : List Int) (p c j : Int) : Int := if peekE ws p c = 0 then wordC ws p c j else 0
/-- what Now answers -/
def nowV (ws : List Int) (o : Bool) (p c : Int) : Nat := if errC ws o p c 1 = 0 then fixB (wordC ws p c 1).toNat else 0
end
/-- what a triple says of a stamp -/
def atV (v x y s : Int) : Nat := if s < v then fixB y.toNat else fixB x.toNat
set_option maxRecDepth 100000 in
theorem cat_any (v x y s : Int) (w : World) : Calls Tryz.prog 29 #[tripV v x y, .int .u64 s] w fun e w' => e = .returned (.float .f64 (atV v x y s)) ∧ Below w.heap.size w w' := by
  unfold tripV atV
  by_cases h : s < v
  · rw [if_pos h]
    go_enter Tryz.func29, Tryz.ntmps29
    go_wp2_with (go_at_call 60; refine (of_int _ _).mono ?_; rintro e w2 ⟨rfl, hw⟩; subst w2)
    go_ret
    exact ⟨rfl, (by repeat (first | exact Below.refl _ _ | refine bl_drew ?_ | refine bl_drewN _ ?_ | refine bl_alloc ?_ _ | refine bl_setCell ?_ (by simp) _ _ | refine bl_setRow ?_ (by simp) _))⟩
  · rw [if_neg h]
    go_enter Tryz.func29, Tryz.ntmps29
    go_wp2_with (go_at_call 60; refine (of_int _ _).mono ?_; rintro e w2 ⟨rfl, hw⟩; subst w2)
    go_ret
    exact ⟨rfl, (by repeat (first | exact Below.refl _ _ | refine bl_drew ?_ | refine bl_drewN _ ?_ | refine bl_alloc ?_ _ | refine bl_setCell ?_ (by simp) _ _ | refine bl_setRow ?_ (by simp) _))⟩
end Go.Proofs.YtninicfnhoediaaGreatDoor.Md.Ce
namespace Go.Proofs.YtninicfnhoediaaGreatDoor.Md.Cv
open Go.ChangeShapes Go.WideShapes Go.ChangeAt Go.RowKit

theorem follows13 : Tryz.prog.follows .mixedOrders = true := by kernel_rfl
/-- a plan, as a value -/
def plnV (a b c d e f : Int) : Value := .agg #[.int .i64 a, .int .i64 b, .int .i64 c, .int .i64 d, .int .i64 e, .int .i64 f]
def passV (t : Int) : Int := IntKind.u64.wrap (t + 1)
def backV (t : Int) : Int := IntKind.u64.wrap (t - 1)
theorem cell_kept {w w' : World} {b : Nat} (e : w'.heap[b]? = w.heap[b]?) (o : Nat) : w'.cell? ⟨b, o, none⟩ = w.cell? ⟨b, o, none⟩ := by simp [World.cell?, e]
theorem tb_drew {B : Nat} {a w : World} (h : Below B a w) : Below B a w.drew := ⟨h.os, h.tape, h.output, h.size, h.block⟩
theorem tb_alloc {a w : World} (h : Below a.heap.size a w) (x : Obj) : Below a.heap.size a (w.alloc x) := h.alloc h.size x
theorem alloc_at {w : World} {x : Obj} {k : Nat} (hk : w.heap.size = k) : (w.alloc x).heap[k]? = some x := by subst hk; exact heap_alloc_new _ _
/-- blocks of two types are two -/
theorem ne_ty {w : World} {a b : Nat} {c d : Array Value} {S T : TypeId} {x y : Nat × Nat} (h : w.heap[a]? = some (.cells c S x)) (k : w.heap[b]? = some (.cells d T y)) (hne : (S == T) = false) : a ≠ b := by
  rintro rfl
  rw [h] at k
  cases k
  simp at hne
/-- nothing old but three blocks has turned -/
structure Ch3 (b g l : Nat) (w w' : World) : Prop where
  os : w'.os = w.os
  tape : w'.tape = w.tape
  output : w'.output = w.output
  size : w.heap.size ≤ w'.heap.size
  block : ∀ k, k < w.heap.size → k ≠ b → k ≠ g → k ≠ l → w'.heap[k]? = w.heap[k]?
section
variable {b g l : Nat} {a w c : World}
theorem Ch3.refl (b g l : Nat) (w : World) : Ch3 b g l w w := ⟨rfl, rfl, rfl, Nat.le_refl _, fun _ _ _ _ _ => rfl⟩
theorem Ch3.trans (h : Ch3 b g l a w) (k : Ch3 b g l w c) : Ch3 b g l a c :=
  ⟨k.os.trans h.os, k.tape.trans h.tape, k.output.trans h.output, Nat.le_trans h.size k.size, fun i hi h1 h2 h3 => (k.block i (Nat.lt_of_lt_of_le hi h.size) h1 h2 h3).trans (h.block i hi h1 h2 h3)⟩
theorem Ch3.chg (h : Ch3 b g l a w) (k : Chg b g w c) : Ch3 b g l a c := h.trans ⟨k.os, k.tape, k.output, k.size, fun i hi h1 h2 _ => k.block i hi h1 h2⟩
theorem Ch3.on (h : Ch3 b g l a w) (k : Below w.heap.size w c) : Ch3 b g l a c := h.trans ⟨k.os, k.tape, k.output, k.size, fun i hi _ _ _ => k.block i hi⟩
theorem Ch3.set (h : Ch3 b g l a w) (j : Nat) (u : Value) : Ch3 b g l a (w.setCell ⟨l, j, none⟩ u) := h.trans ⟨rfl, rfl, rfl, by simp, fun k _ _ _ h3 => heap_setCell_other _ _ _ _ h3⟩
theorem Ch3.below {B : Nat} (h : Ch3 b g l a w) (hb : B ≤ b) (hg : B ≤ g) (hl : B ≤ l) (hB : B ≤ a.heap.size) : Below B a w :=
  ⟨h.os, h.tape, h.output, h.size, fun k hk => h.block k (by omega) (by omega) (by omega) (by omega)⟩
end
theorem chg_from {a w w' : World} {b g : Nat} (h : Below a.heap.size a w) (k : Chg b g w w') : Chg b g a w' := (Chg.trans ⟨h.os, h.tape, h.output, h.size, fun i hi _ _ => h.block i hi⟩ k)
theorem below_step {a w w' : World} (h : Below a.heap.size a w) (k : Below w.heap.size w w') : Below a.heap.size a w' := h.trans (k.mono h.size)

/-- may a thread be; where its word is -/
def may8 (t : Int) : Bool := decide (0 ≤ t ∧ t < 8)
def plc (p t : Int) : Int := if 0 ≤ p ∧ p ≤ 4096 then p + t else -1
theorem may8_pos {t : Int} (h : may8 t = true) : 0 ≤ t ∧ t < 8 := of_decide_eq_true h
theorem smay_any (p t : Int) (w : World) : Calls Tryz.prog 116 #[.agg #[.int .i64 p, .int .i64 t]] w fun e w' => e = .returned (.bool (may8 t)) ∧ Below w.heap.size w w' := by
  unfold may8
  by_cases h1 : 0 ≤ t
  · by_cases h2 : t < 8
    · go_enter Tryz.func116, Tryz.ntmps116
      go_wp2
      go_ret
      exact ⟨by first | (simp; done) | (simp; omega), (Below.refl _ _).alloc (Nat.le_refl _) _⟩
    · go_enter Tryz.func116, Tryz.ntmps116
      go_wp2
      go_ret
      exact ⟨by first | (simp; done) | (simp; omega), (Below.refl _ _).alloc (Nat.le_refl _) _⟩
  · go_enter Tryz.func116, Tryz.ntmps116
    go_wp2
    go_ret
    exact ⟨by first | (simp; done) | (simp; omega), (Below.refl _ _).alloc (Nat.le_refl _) _⟩
theorem splace_any (p t : Int) (ht : may8 t = true) (w : World) : Calls Tryz.prog 122 #[.agg #[.int .i64 p, .int .i64 t]] w fun e w' => e = .returned (.int .i64 (plc p t)) ∧ Below w.heap.size w w' := by
  obtain ⟨ht0, ht1⟩ := may8_pos ht
  clear ht
  by_cases h1 : 0 ≤ p
  · by_cases h2 : p ≤ 4096
    · have e : plc p t = p + t := by simp [plc, h1, h2]
      have e1 : wrap64 (p + t) = p + t := Go.IntWalk.wrap64_in _ ⟨by omega, by omega⟩
      have h1' : ¬ p < 0 := by omega
      have h2' : ¬ 4096 < p := by omega
      rw [e]
      clear e ht0 ht1
      go_enter Tryz.func122, Tryz.ntmps122
      go_wp2
      go_ret
      exact ⟨rfl, (Below.refl _ _).alloc (Nat.le_refl _) _⟩
    · have e : plc p t = -1 := by simp [plc, h2]
      rw [e]
      clear e ht0 ht1
      have h1' : ¬ p < 0 := by omega
      have h2' : 4096 < p := by omega
      go_enter Tryz.func122, Tryz.ntmps122
      go_wp2
      go_ret
      exact ⟨rfl, (Below.refl _ _).alloc (Nat.le_refl _) _⟩
  · have e : plc p t = -1 := by simp [plc, h1]
    rw [e]
    clear e ht0 ht1
    have h1' : p < 0 := by omega
    go_enter Tryz.func122, Tryz.ntmps122
    go_wp2
    go_ret
    exact ⟨rfl, (Below.refl _ _).alloc (Nat.le_refl _) _⟩
theorem wordOf_any (k : Int) (w : World) : Calls Tryz.prog 144 #[.int .u64 k] w fun e w' => e = .returned (.int .u64 (passV k)) ∧ w' = w := by
  unfold passV
  go_enter Tryz.func144, Tryz.ntmps144
  go_wp2
  go_ret
  exact ⟨rfl, rfl⟩
/-- a coming: where the stamp is, the census, the thread, how many accesses are done, the claim, the stamp -/
structure Cs where
  A : Int
  B : Int
  T : Int
  N : Int
  K : Int
  S : Int
def CmAt (w : World) (x : Nat) (c : Cs) : Prop := w.heap[x]? = some (.cells #[.int .i64 c.A, .int .i64 c.B, .int .i64 c.T, .int .i64 c.N, .int .u64 c.K, .int .u64 c.S] 180 (0, 0))
section
variable {w w' : World} {x : Nat} {c : Cs}
theorem CmAt.lt (h : CmAt w x c) : x < w.heap.size := lt_of_block h
theorem CmAt.keep (h : CmAt w x c) (e : w'.heap[x]? = w.heap[x]?) : CmAt w' x c := e.trans h
theorem CmAt.on (h : CmAt w x c) (k : Below w.heap.size w w') : CmAt w' x c := h.keep (k.block x h.lt)
theorem CmAt.cells (h : CmAt w x c) : w.cell? ⟨x, 0, none⟩ = some (.int .i64 c.A) ∧ w.cell? ⟨x, 1, none⟩ = some (.int .i64 c.B) ∧ w.cell? ⟨x, 2, none⟩ = some (.int .i64 c.T) ∧ w.cell? ⟨x, 3, none⟩ = some (.int .i64 c.N) ∧ w.cell? ⟨x, 4, none⟩ = some (.int .u64 c.K) ∧ w.cell? ⟨x, 5, none⟩ = some (.int .u64 c.S) ∧ x < w.heap.size ∧ w.frozen? ⟨x, 3, none⟩ = false ∧ w.frozen? ⟨x, 4, none⟩ = false ∧ w.frozen? ⟨x, 5, none⟩ = false :=
  ⟨by rw [cell_of_row w x 0 _ _ _ h]; rfl, by rw [cell_of_row w x 1 _ _ _ h]; rfl, by rw [cell_of_row w x 2 _ _ _ h]; rfl, by rw [cell_of_row w x 3 _ _ _ h]; rfl, by rw [cell_of_row w x 4 _ _ _ h]; rfl, by rw [cell_of_row w x 5 _ _ _ h]; rfl, lt_of_block h, frozen_of_row w x 3 _ _ h, frozen_of_row w x 4 _ _ h, frozen_of_row w x 5 _ _ h⟩
theorem CmAt.setN (h : CmAt w x c) (v : Int) : CmAt (w.setCell ⟨x, 3, none⟩ (.int .i64 v)) x { c with N := v } := (heap_setCell_same w x 3 _ _ _ h).trans rfl
theorem CmAt.setK (h : CmAt w x c) (v : Int) : CmAt (w.setCell ⟨x, 4, none⟩ (.int .u64 v)) x { c with K := v } := (heap_setCell_same w x 4 _ _ _ h).trans rfl
theorem CmAt.setS (h : CmAt w x c) (v : Int) : CmAt (w.setCell ⟨x, 5, none⟩ (.int .u64 v)) x { c with S := v } := (heap_setCell_same w x 5 _ _ _ h).trans rfl
theorem stampC_any (h : CmAt w x c) : Calls Tryz.prog 94 #[.pointer (some ⟨x, 0, none⟩)] w fun e w' => e = .returned (.int .u64 c.S) ∧ w' = w := by
  obtain ⟨h0, h1, h2, h3, h4, h5, h6, _⟩ := h.cells
  clear h
  go_enter Tryz.func94, Tryz.ntmps94
  go_wp2
  go_ret
  exact ⟨rfl, rfl⟩
theorem overC_any (h : CmAt w x c) : Calls Tryz.prog 115 #[.pointer (some ⟨x, 0, none⟩)] w fun e w' => e = .returned (.bool (decide (c.N = 3))) ∧ w' = w := by
  obtain ⟨h0, h1, h2, h3, h4, h5, h6, _⟩ := h.cells
  clear h
  go_enter Tryz.func115, Tryz.ntmps115
  go_wp2
  go_ret
  exact ⟨rfl, rfl⟩
theorem come_any (a0 a1 a2 a3 a4 a5 t : Int) (w : World) : Calls Tryz.prog 76 #[plnV a0 a1 a2 a3 a4 a5, .int .i64 t] w fun e w' => ∃ x, e = .returned (.pointer (some ⟨x, 0, none⟩)) ∧ w.heap.size ≤ x ∧ CmAt w' x ⟨a2, a3, t, 0, 0, 0⟩ ∧ Below w.heap.size w w' := by
  unfold plnV
  go_enter Tryz.func76, Tryz.ntmps76
  go_wp2
  go_ret
  exact ⟨_, rfl, by simp, alloc_at (by simp), tb_alloc (tb_alloc (Below.refl _ _) _) _⟩
end
end Go.Proofs.YtninicfnhoediaaGreatDoor.Md.Cv
namespace Go.Proofs.YtninicfnhoediaaGreatDoor.Md.Cv
open Go.ChangeShapes Go.WideShapes Go.ChangeAt Go.RowKit

theorem ok_facts {ws : List Int} {o : Bool} {i : Int} (h : errA ws o i = 0) : (∀ v, stored ws o i v = ws.set i.toNat v) ∧ spentO ws o i = false ∧ (∀ n, spentC ws o i n = up n) ∧ toldW ws o i = wordAt ws i ∧ hasB ws i = true ∧ o = true := by
  have hk : hasB ws i = true ∧ o = true := by
    unfold errA at h
    cases q : hasB ws i <;> cases o <;> simp [q] at h ⊢
  obtain ⟨h1, rfl⟩ := hk
  exact ⟨fun v => by simp [stored, h1], by simp [spentO, h1], fun n => by simp [spentC, h1], by simp [toldW, h1], h1, rfl⟩
theorem no_facts {ws : List Int} {o : Bool} {i : Int} (h : ¬ errA ws o i = 0) : (∀ v, stored ws o i v = ws) ∧ spentO ws o i = o ∧ (∀ n, spentC ws o i n = n) ∧ toldW ws o i = 0 := by
  have hk : (hasB ws i && o) = false := by
    unfold errA at h
    cases q : hasB ws i <;> cases o <;> simp [q] at h ⊢
  refine ⟨fun v => by simp [stored, hk], ?_, fun n => by simp [spentC, hk], by simp [toldW, hk]⟩
  unfold spentO
  cases q : hasB ws i <;> cases o <;> simp_all
/-- what an access of a coming does -/
def cI (c : Cs) : Int := if c.N = 1 then plc c.B c.T else c.A
def aW (c : Cs) (ws : List Int) (o : Bool) : List Int := if c.N = 1 then stored ws o (plc c.B c.T) (passV c.K) else ws
def aC (c : Cs) (ws : List Int) (o : Bool) : Cs := ⟨c.A, c.B, c.T, c.N, if c.N = 0 then toldW ws o c.A else c.K, if c.N = 2 then toldW ws o c.A else c.S⟩
section
variable {w : World} {b g x : Nat} {ws : List Int} {o : Bool} {n : Int} {c : Cs}
theorem CmAt.ne (h : CmAt w x c) (m : MemAt 123 w b g ws o n) : x ≠ b ∧ x ≠ g := ⟨ne_ty h m.box rfl, ne_ty h m.row rfl⟩
set_option maxRecDepth 100000 in
set_option maxHeartbeats 1000000 in
theorem acc0_any (h : MemAt 123 w b g ws o n) {A B T K S : Int} (hx : CmAt w x ⟨A, B, T, 0, K, S⟩) : Calls Tryz.prog 117 #[.pointer (some ⟨x, 0, none⟩), .pointer (some ⟨b, 0, none⟩)] w fun e w' => e = .returned (.int .i64 (errA ws o A)) ∧ MemAt 123 w' b g ws (spentO ws o A) (spentC ws o A n) ∧ CmAt w' x ⟨A, B, T, 0, toldW ws o A, S⟩ ∧ Ch3 b g x w w' := by
  have HN := Lib.hid (hx.ne h)
  have HM := Lib.hid h
  have HX := Lib.hid hx
  obtain ⟨h0, h1, h2, h3, h4, h5, h6, h7, h8, h9⟩ := hx.cells
  clear h hx
  dsimp only at h0 h1 h2 h3 h4 h5
  go_enter Tryz.func117, Tryz.ntmps117
  go_wp2_with (go_at_call 23; refine (load_any HM.out _).mono ?_; rintro e w1 ⟨rfl, hm, hc⟩; have HM1 := Lib.hid hm; have HC1 := Lib.hid hc; have HX1 := Lib.hid (HX.out.keep (hc.block x h6 HN.out.1 HN.out.2)); obtain ⟨k0, k1, k2, k3, k4, k5, k6, k7, k8, k9⟩ := HX1.out.cells; clear hm hc)
  go_ret
  exact ⟨rfl, HM1.out.other HN.out.1.symm HN.out.2.symm _ _, HX1.out.setK _, ((Ch3.refl _ _ _ _).chg HC1.out).set _ _⟩
set_option maxRecDepth 100000 in
set_option maxHeartbeats 1000000 in
theorem acc2_any (h : MemAt 123 w b g ws o n) {A B T K S : Int} (hx : CmAt w x ⟨A, B, T, 2, K, S⟩) : Calls Tryz.prog 117 #[.pointer (some ⟨x, 0, none⟩), .pointer (some ⟨b, 0, none⟩)] w fun e w' => e = .returned (.int .i64 (errA ws o A)) ∧ MemAt 123 w' b g ws (spentO ws o A) (spentC ws o A n) ∧ CmAt w' x ⟨A, B, T, 2, K, toldW ws o A⟩ ∧ Ch3 b g x w w' := by
  have HN := Lib.hid (hx.ne h)
  have HM := Lib.hid h
  have HX := Lib.hid hx
  obtain ⟨h0, h1, h2, h3, h4, h5, h6, h7, h8, h9⟩ := hx.cells
  clear h hx
  dsimp only at h0 h1 h2 h3 h4 h5
  go_enter Tryz.func117, Tryz.ntmps117
  go_wp2_with (go_at_call 23; refine (load_any HM.out _).mono ?_; rintro e w1 ⟨rfl, hm, hc⟩; have HM1 := Lib.hid hm; have HC1 := Lib.hid hc; have HX1 := Lib.hid (HX.out.keep (hc.block x h6 HN.out.1 HN.out.2)); obtain ⟨k0, k1, k2, k3, k4, k5, k6, k7, k8, k9⟩ := HX1.out.cells; clear hm hc)
  go_ret
  exact ⟨rfl, HM1.out.other HN.out.1.symm HN.out.2.symm _ _, HX1.out.setS _, ((Ch3.refl _ _ _ _).chg HC1.out).set _ _⟩
set_option maxRecDepth 100000 in
set_option maxHeartbeats 2000000 in
theorem acc1_any (h : MemAt 123 w b g ws o n) {A B T K S : Int} (hx : CmAt w x ⟨A, B, T, 1, K, S⟩) (hmay : may8 T = true) : Calls Tryz.prog 117 #[.pointer (some ⟨x, 0, none⟩), .pointer (some ⟨b, 0, none⟩)] w fun e w' => e = .returned (.int .i64 (errA ws o (plc B T))) ∧ MemAt 123 w' b g (stored ws o (plc B T) (passV K)) (spentO ws o (plc B T)) (spentC ws o (plc B T) n) ∧ CmAt w' x ⟨A, B, T, 1, K, S⟩ ∧ Ch3 b g x w w' := by
  have HN := Lib.hid (hx.ne h)
  have HM := Lib.hid h
  have HX := Lib.hid hx
  have HY := Lib.hid hmay
  obtain ⟨h0, h1, h2, h3, h4, h5, h6, h7, h8, h9⟩ := hx.cells
  clear h hx hmay
  dsimp only at h0 h1 h2 h3 h4 h5
  go_enter Tryz.func117, Tryz.ntmps117
  go_wp2
  refine wp_region_seq (fun w' => w'.cell? ⟨x, 1, none⟩ = some (.int .i64 B) ∧ w'.cell? ⟨x, 2, none⟩ = some (.int .i64 T) ∧ w'.cell? ⟨x, 4, none⟩ = some (.int .u64 K)) ((0, true) :: (1, true) :: (2, true) :: (3, true) :: (4, true) :: (6, true) :: (7, true) :: (8, true) :: (9, true) :: (5, false) :: (10, false) :: (11, false) :: (12, true) :: []) follows13 (by kernel_rfl) (fun _ _ _ _ _ h => h) ⟨h1, h2, h4⟩ ?_
  repeat (refine wpSeq_take (v := ?_) rfl (by rfl) (fun wq hSq => ?_) ?_; rotate_left; (focus ((try dsimp only at hSq); go_simp; try with_reducible rfl)); simp only [Act.put, List.setIfInBounds_toArray, List.set_cons_zero, List.set_cons_succ])
  refine wpSeq_do rfl (by rfl) (fun KK hK => ?_)
  go_simp
  refine (splace_any B T HY.out _).mono ?_
  rintro e w1 ⟨rfl, hb⟩
  have HB1 : Hid (Below w.heap.size w w1) := below_step (tb_drew (Below.refl _ _)) hb
  have HX1 := Lib.hid (HX.out.on HB1.out)
  obtain ⟨k0, k1, k2, k3, k4, k5, k6, _⟩ := HX1.out.cells
  refine hK.out _ _ ⟨k1, k2, k4⟩ ?_
  clear hK KK hb
  try simp only [Act.put, List.setIfInBounds_toArray, List.set_cons_zero, List.set_cons_succ]
  refine wpSeq_do rfl (by rfl) (fun KK hK => ?_)
  go_simp
  refine (wordOf_any K _).mono ?_
  rintro e w2 ⟨rfl, hw⟩
  subst w2
  refine hK.out _ _ ⟨k1, k2, k4⟩ ?_
  clear hK KK
  try simp only [Act.put, List.setIfInBounds_toArray, List.set_cons_zero, List.set_cons_succ]
  refine wpSeq_do rfl (by rfl) (fun KK hK => ?_)
  go_simp
  refine (store_any (HM.out.on HB1.out) _ _).mono ?_
  rintro e w2 ⟨rfl, hm, hc⟩
  have HM2 := Lib.hid hm
  have HC2 := Lib.hid hc
  have HX2 := Lib.hid (HX1.out.keep (hc.block x k6 HN.out.1 HN.out.2))
  clear hm hc
  obtain ⟨j0, j1, j2, j3, j4, j5, j6, _⟩ := HX2.out.cells
  refine hK.out _ _ ⟨j1, j2, j4⟩ ?_
  clear hK KK
  try simp only [Act.put, List.setIfInBounds_toArray, List.set_cons_zero, List.set_cons_succ]
  repeat (refine wpSeq_take (v := ?_) rfl (by rfl) (fun wq hSq => ?_) ?_; rotate_left; (focus ((try dsimp only at hSq); go_simp; try with_reducible rfl)); simp only [Act.put, List.setIfInBounds_toArray, List.set_cons_zero, List.set_cons_succ])
  refine wpSeq_nil ?_
  go_wp2
  go_ret
  exact ⟨rfl, HM2.out, HX2.out, ((Ch3.refl _ _ _ _).on HB1.out).chg HC2.out⟩
theorem access_any (h : MemAt 123 w b g ws o n) (hx : CmAt w x c) (hN : c.N = 0 ∨ c.N = 1 ∨ c.N = 2) (hmay : may8 c.T = true) : Calls Tryz.prog 117 #[.pointer (some ⟨x, 0, none⟩), .pointer (some ⟨b, 0, none⟩)] w fun e w' => e = .returned (.int .i64 (errA ws o (cI c))) ∧ MemAt 123 w' b g (aW c ws o) (spentO ws o (cI c)) (spentC ws o (cI c) n) ∧ CmAt w' x (aC c ws o) ∧ Ch3 b g x w w' := by
  obtain ⟨A, B, T, N, K, S⟩ := c
  dsimp only at hN hmay
  rcases hN with rfl | rfl | rfl
  · exact acc0_any h hx
  · exact acc1_any h hx hmay
  · exact acc2_any h hx
end
end Go.Proofs.YtninicfnhoediaaGreatDoor.Md.Cv
namespace Go.Proofs.YtninicfnhoediaaGreatDoor.Md.Cv
open Go.ChangeShapes Go.WideShapes Go.ChangeAt Go.RowKit

/-- a coming's step: the error, the answer, the words, whether the memory is open, the count, the coming -/
def cE (c : Cs) (ws : List Int) (o : Bool) : Int := if c.N = 3 then 3 else if may8 c.T then errA ws o (cI c) else 100
def cO (c : Cs) (ws : List Int) (o : Bool) : Bool := decide (cE c ws o = 0) && decide (c.N = 2)
def cW (c : Cs) (ws : List Int) (o : Bool) : List Int := if cE c ws o = 0 then (if c.N = 1 then ws.set (plc c.B c.T).toNat (passV c.K) else ws) else ws
def cP (c : Cs) (ws : List Int) (o : Bool) : Bool := if cE c ws o = 0 then false else o
def cQ (c : Cs) (ws : List Int) (o : Bool) (n : Int) : Int := if cE c ws o = 0 then up n else n
def cC (c : Cs) (ws : List Int) (o : Bool) : Cs := if cE c ws o = 0 then ⟨c.A, c.B, c.T, c.N + 1, if c.N = 0 then wordAt ws c.A else c.K, if c.N = 2 then wordAt ws c.A else c.S⟩ else c
/-- what holds of every coming -/
structure COk (c : Cs) : Prop where
  n : c.N = 0 ∨ c.N = 1 ∨ c.N = 2 ∨ c.N = 3
  k : c.N = 0 → c.K = 0
  s : c.N ≠ 3 → c.S = 0
theorem COk.step {c : Cs} (h : COk c) (ws : List Int) (o : Bool) : COk (cC c ws o) := by
  unfold cC
  by_cases e : cE c ws o = 0
  · rw [if_pos e]
    have h3 : c.N ≠ 3 := fun q => by simp [cE, q] at e
    have hn := h.n
    refine ⟨?_, ?_, ?_⟩
    · dsimp only
      omega
    · dsimp only
      intro q
      omega
    · dsimp only
      intro q
      rw [if_neg (by omega)]
      exact h.s h3
  · rw [if_neg e]
    exact h
theorem aW_ok {c : Cs} {ws : List Int} {o : Bool} (h : errA ws o (cI c) = 0) : aW c ws o = if c.N = 1 then ws.set (plc c.B c.T).toNat (passV c.K) else ws := by
  unfold aW cI at *
  by_cases q : c.N = 1
  · rw [if_pos q] at h ⊢
    rw [if_pos q, (ok_facts h).1]
  · rw [if_neg q, if_neg q]
theorem aW_no {c : Cs} {ws : List Int} {o : Bool} (h : ¬ errA ws o (cI c) = 0) : aW c ws o = ws := by
  unfold aW cI at *
  by_cases q : c.N = 1
  · rw [if_pos q] at h ⊢
    exact (no_facts h).1 _
  · rw [if_neg q]
theorem aC_ok {c : Cs} {ws : List Int} {o : Bool} (h : errA ws o (cI c) = 0) : aC c ws o = ⟨c.A, c.B, c.T, c.N, if c.N = 0 then wordAt ws c.A else c.K, if c.N = 2 then wordAt ws c.A else c.S⟩ := by
  unfold aC cI at *
  by_cases q : c.N = 1
  · rw [if_neg (by omega), if_neg (by omega), if_neg (by omega), if_neg (by omega)]
  · rw [if_neg q] at h
    rw [(ok_facts h).2.2.2.1]
theorem aC_no {c : Cs} {ws : List Int} {o : Bool} (hc : COk c) (h : ¬ errA ws o (cI c) = 0) : aC c ws o = c := by
  have hn := hc.n
  have hk := hc.k
  have hs := hc.s
  obtain ⟨A, B, T, N, K, S⟩ := c
  unfold aC cI at *
  dsimp only at *
  by_cases q : N = 1
  · rw [if_neg (by omega), if_neg (by omega)]
  · rw [if_neg q] at h
    rw [(no_facts h).2.2.2]
    by_cases q0 : N = 0
    · rw [if_pos q0, if_neg (by omega), hk q0]
    · rw [if_neg q0]
      by_cases q2 : N = 2
      · rw [if_pos q2, hs (by omega)]
      · rw [if_neg q2]
section
variable {w : World} {b g x : Nat} {ws : List Int} {o : Bool} {n : Int} {c : Cs}
set_option maxRecDepth 100000 in
theorem cstep_over (hx : CmAt w x c) (hN : c.N = 3) (b : Nat) : Calls Tryz.prog 82 #[.pointer (some ⟨x, 0, none⟩), .pointer (some ⟨b, 0, none⟩)] w fun e w' => e = .returned (.tuple #[.bool false, .int .i64 3]) ∧ w' = w := by
  have HO := Lib.hid (overC_any hx)
  simp only [hN, decide_true] at HO
  clear hx hN
  go_enter Tryz.func82, Tryz.ntmps82
  go_wp2_with (go_at_call 115; refine HO.out.mono ?_; rintro e w1 ⟨rfl, hw⟩; subst w1)
  go_ret2
  exact ⟨rfl, rfl⟩
set_option maxRecDepth 100000 in
theorem cstep_may (hx : CmAt w x c) (hN : c.N ≠ 3) (hm : may8 c.T = false) (b : Nat) : Calls Tryz.prog 82 #[.pointer (some ⟨x, 0, none⟩), .pointer (some ⟨b, 0, none⟩)] w fun e w' => e = .returned (.tuple #[.bool false, .int .i64 100]) ∧ Below w.heap.size w w' := by
  have HO := Lib.hid (overC_any hx)
  simp only [decide_eq_false hN] at HO
  have HY := Lib.hid (smay_any c.B c.T)
  simp only [hm] at HY
  obtain ⟨h0, h1, h2, h3, h4, h5, h6, h7, h8, h9⟩ := hx.cells
  clear hx hN hm
  go_enter Tryz.func82, Tryz.ntmps82
  go_wp2_with (first
    | (go_at_call 115; refine HO.out.mono ?_; rintro e w1 ⟨rfl, hw⟩; subst w1)
    | (go_at_call 116; refine (HY.out _).mono ?_; rintro e w1 ⟨rfl, hb⟩; have HB := Lib.hid hb; clear hb))
  go_ret2
  exact ⟨rfl, HB.out⟩
set_option maxRecDepth 100000 in
set_option maxHeartbeats 1000000 in
theorem cstep_go (h : MemAt 123 w b g ws o n) (hx : CmAt w x c) (hN : c.N = 0 ∨ c.N = 1 ∨ c.N = 2) (hm : may8 c.T = true) {er : Int} (her : errA ws o (cI c) = er) : Calls Tryz.prog 82 #[.pointer (some ⟨x, 0, none⟩), .pointer (some ⟨b, 0, none⟩)] w fun e w' => e = .returned (.tuple #[.bool (decide (er = 0) && decide (c.N = 2)), .int .i64 er]) ∧ MemAt 123 w' b g (aW c ws o) (spentO ws o (cI c)) (spentC ws o (cI c) n) ∧ CmAt w' x (if er = 0 then ⟨c.A, c.B, c.T, c.N + 1, (aC c ws o).K, (aC c ws o).S⟩ else aC c ws o) ∧ Ch3 b g x w w' := by
  have HO := Lib.hid (overC_any hx)
  rw [decide_eq_false (show ¬ c.N = 3 by omega)] at HO
  have HY := Lib.hid (smay_any c.B c.T)
  simp only [hm] at HY
  have HA := Lib.hid (fun w1 (hb : Below w.heap.size w w1) => access_any (h.on hb) (hx.on hb) hN hm)
  rw [her] at HA
  obtain ⟨h0, h1, h2, h3, h4, h5, h6, h7, h8, h9⟩ := hx.cells
  have HQ := Lib.hid (hx.ne h)
  clear h hx hm her
  by_cases q : er = 0
  · subst q
    rw [if_pos rfl, decide_eq_true rfl, Bool.true_and]
    have hN' : wrap64 (c.N + 1) = c.N + 1 := Go.IntWalk.wrap64_in _ ⟨by omega, by omega⟩
    have hN2 : decide (c.N + 1 = 3) = decide (c.N = 2) := by rw [decide_eq_decide]; omega
    have HN2 := Lib.hid hN2
    clear hN hN2
    go_enter Tryz.func82, Tryz.ntmps82
    go_wp2_with (first
      | (go_at_call 115; refine HO.out.mono ?_; rintro e w1 ⟨rfl, hw⟩; subst w1; clear HO)
      | (go_at_call 116; refine (HY.out _).mono ?_; rintro e w1 ⟨rfl, hb⟩; have HB := Lib.hid hb; clear hb)
      | (go_at_call 117; refine (HA.out _ HB.out).mono ?_; rintro e w2 ⟨rfl, hm, hx, hc⟩; have HM2 := Lib.hid hm; have HX2 := Lib.hid hx; have HC2 := Lib.hid ((Ch3.refl _ _ _ _).on HB.out |>.trans hc); have k3 : w2.cell? ⟨x, 3, none⟩ = some (.int .i64 c.N) := hx.cells.2.2.2.1; have k6 : x < w2.heap.size := hx.lt; have k7 : w2.frozen? ⟨x, 3, none⟩ = false := hx.cells.2.2.2.2.2.2.2.1; clear hm hx hc)
      | (go_at_call 115; refine (overC_any (HX2.out.setN (c.N + 1))).mono ?_; dsimp only; rw [HN2.out]; rintro e w3 ⟨rfl, hw⟩; subst w3))
    go_ret2
    exact ⟨rfl, HM2.out.other HQ.out.1.symm HQ.out.2.symm _ _, HX2.out.setN _, HC2.out.set _ _⟩
  · rw [if_neg q, decide_eq_false q, Bool.false_and]
    clear hN
    go_enter Tryz.func82, Tryz.ntmps82
    go_wp2_with (first
      | (go_at_call 115; refine HO.out.mono ?_; rintro e w1 ⟨rfl, hw⟩; subst w1; clear HO)
      | (go_at_call 116; refine (HY.out _).mono ?_; rintro e w1 ⟨rfl, hb⟩; have HB := Lib.hid hb; clear hb)
      | (go_at_call 117; refine (HA.out _ HB.out).mono ?_; rintro e w2 ⟨rfl, hm, hx, hc⟩; have HM2 := Lib.hid hm; have HX2 := Lib.hid hx; have HC2 := Lib.hid ((Ch3.refl _ _ _ _).on HB.out |>.trans hc); clear hm hx hc))
    go_ret2
    exact ⟨rfl, HM2.out, HX2.out, HC2.out⟩
theorem cstep_any (h : MemAt 123 w b g ws o n) (hx : CmAt w x c) (hc : COk c) : Calls Tryz.prog 82 #[.pointer (some ⟨x, 0, none⟩), .pointer (some ⟨b, 0, none⟩)] w fun e w' => e = .returned (.tuple #[.bool (cO c ws o), .int .i64 (cE c ws o)]) ∧ MemAt 123 w' b g (cW c ws o) (cP c ws o) (cQ c ws o n) ∧ CmAt w' x (cC c ws o) ∧ Ch3 b g x w w' := by
  by_cases h3 : c.N = 3
  · have e : cE c ws o = 3 := by simp [cE, h3]
    unfold cO cW cP cQ cC
    rw [e]
    refine (cstep_over hx h3 b).mono ?_
    rintro r w' ⟨rfl, rfl⟩
    exact ⟨by simp, by simpa using h, by simpa using hx, Ch3.refl _ _ _ _⟩
  · cases hm : may8 c.T
    · have e : cE c ws o = 100 := by simp [cE, h3, hm]
      unfold cO cW cP cQ cC
      rw [e]
      refine (cstep_may hx h3 hm b).mono ?_
      rintro r w' ⟨rfl, hb⟩
      exact ⟨by simp, by simpa using h.on hb, by simpa using hx.on hb, (Ch3.refl _ _ _ _).on hb⟩
    · have e : cE c ws o = errA ws o (cI c) := by simp [cE, h3, hm]
      have hN : c.N = 0 ∨ c.N = 1 ∨ c.N = 2 := by have := hc.n; omega
      unfold cO cW cP cQ cC
      rw [e]
      refine (cstep_go h hx hN hm rfl).mono ?_
      rintro r w' ⟨rfl, hm', hx', hch⟩
      refine ⟨rfl, ?_, ?_, hch⟩
      · by_cases q : errA ws o (cI c) = 0
        · rw [if_pos q, if_pos q, if_pos q]
          have f := ok_facts q
          rw [aW_ok q, f.2.1, f.2.2.1] at hm'
          exact hm'
        · rw [if_neg q, if_neg q, if_neg q]
          have f := no_facts q
          rw [aW_no q, f.2.1, f.2.2.1] at hm'
          exact hm'
      · by_cases q : errA ws o (cI c) = 0
        · rw [if_pos q] at hx' ⊢
          rw [aC_ok q] at hx'
          exact hx'
        · rw [if_neg q] at hx' ⊢
          rw [aC_no hc q] at hx'
          exact hx'
end
end Go.Proofs.YtninicfnhoediaaGreatDoor.Md.Cv
namespace Go.Proofs.YtninicfnhoediaaGreatDoor.Md.Cv
open Go.ChangeShapes Go.WideShapes Go.ChangeAt Go.RowKit

section
variable {w : World} {b g x : Nat} {ws : List Int} {o : Bool} {n : Int}
/-- what Leave does -/
def lE (ws : List Int) (o : Bool) (p t : Int) : Int := if may8 t then errA ws o (plc p t) else 100
def lW (ws : List Int) (o : Bool) (p t : Int) : List Int := if may8 t then stored ws o (plc p t) 0 else ws
def lO (ws : List Int) (o : Bool) (p t : Int) : Bool := if may8 t then spentO ws o (plc p t) else o
def lC (ws : List Int) (o : Bool) (p t n : Int) : Int := if may8 t then spentC ws o (plc p t) n else n
set_option maxRecDepth 100000 in
set_option maxHeartbeats 1000000 in
theorem leave_any (h : MemAt 123 w b g ws o n) (a0 a1 a2 a3 a4 a5 t : Int) : Calls Tryz.prog 85 #[.pointer (some ⟨b, 0, none⟩), plnV a0 a1 a2 a3 a4 a5, .int .i64 t] w fun e w' => e = .returned (.int .i64 (lE ws o a3 t)) ∧ MemAt 123 w' b g (lW ws o a3 t) (lO ws o a3 t) (lC ws o a3 t n) ∧ Chg b g w w' := by
  unfold plnV lE lW lO lC
  have HM := Lib.hid h
  clear h
  have HY := Lib.hid (smay_any a3 t)
  cases hm : may8 t
  · simp only [hm] at HY
    go_enter Tryz.func85, Tryz.ntmps85
    go_wp2_with (go_at_call 116; refine (HY.out _).mono ?_; rintro e w1 ⟨rfl, hb⟩; have HB := Lib.hid (below_step (tb_alloc (tb_alloc (Below.refl w.heap.size w) _) _) hb); clear hb)
    go_ret
    exact ⟨rfl, HM.out.on HB.out, chg_from HB.out (Chg.refl _ _ _)⟩
  · simp only [hm] at HY
    have HPL := Lib.hid (splace_any a3 t hm)
    go_enter Tryz.func85, Tryz.ntmps85
    go_wp2_with (first
      | (go_at_call 116; refine (HY.out _).mono ?_; rintro e w1 ⟨rfl, hb⟩; have HB := Lib.hid (below_step (tb_alloc (tb_alloc (Below.refl w.heap.size w) _) _) hb); obtain ⟨z0, z1⟩ : w1.cell? ⟨w.heap.size + 1, 0, none⟩ = some (.int .i64 a3) ∧ w1.cell? ⟨w.heap.size + 1, 1, none⟩ = some (.int .i64 t) := ⟨(hb.cell (p := ⟨w.heap.size + 1, 0, none⟩) (by simp)).trans (by simp [go_sem]), (hb.cell (p := ⟨w.heap.size + 1, 1, none⟩) (by simp)).trans (by simp [go_sem])⟩; clear hb)
      | (go_at_call 122; refine (HPL.out _).mono ?_; rintro e w2 ⟨rfl, hb⟩; have HB2 := Lib.hid (below_step HB.out hb); clear hb)
      | (go_at_call 121; refine (store_any (HM.out.on HB2.out) _ _).mono ?_; rintro e w3 ⟨rfl, hm3, hc⟩; have HX := Lib.hid (And.intro hm3 (chg_from HB2.out hc)); clear hm3 hc))
    go_ret
    exact ⟨rfl, HX.out⟩
end
end Go.Proofs.YtninicfnhoediaaGreatDoor.Md.Cv
