import Derived.Test.YtdfmmolhfacahaaM2c
namespace Go.Proofs.Ytdfmmolhfacahaa
open Go.ChangeShapes Go.WideShapes Go.ChangeAt Go.RowKit

theorem enter_run {f : FuncId} {fn : Func} (hf : Try.prog.funcs[f]? = some fn) (hname : (fn.name == "runtime.NumGoroutine") = false) (hb : fn.body.isSome = true) (args : Array Value) (w : World) : (callFunc f args).run Try.prog w = .ok (.enter f args) w := by
  obtain ⟨c, hb⟩ := Option.isSome_iff_exists.1 hb
  have h1 : fn.name ≠ "runtime.NumGoroutine" := by simpa using hname
  simp [callFunc, hf, h1, hb, mark]
section
variable {w : World} {b g : Nat} {ws : List Int} {o : Bool} {c : Int}
/-- the words behind a Poke -/
def poked (ws : List Int) (i v : Int) : List Int := if hasB ws i then ws.set i.toNat v else ws
def stored (ws : List Int) (o : Bool) (i v : Int) : List Int := if hasB ws i && o then ws.set i.toNat v else ws
def spentO (ws : List Int) (o : Bool) (i : Int) : Bool := if hasB ws i then false else o
def spentC (ws : List Int) (o : Bool) (i c : Int) : Int := if hasB ws i && o then up c else c
def toldW (ws : List Int) (o : Bool) (i : Int) : Int := if hasB ws i && o then wordAt ws i else 0
theorem poke_any (h : MemAt 79 w b g ws o c) (i v : Int) : Calls Try.prog 27 #[.pointer (some ⟨b, 0, none⟩), .int .i64 i, .int .u64 v] w fun e w' => e = .returned (.int .i64 (errP ws i)) ∧ MemAt 79 w' b g (poked ws i v) o c ∧ Chg b g w w' := by
  have h0 := h.cell0
  have hb := h.ltB
  have hg := h.ltG
  have HM : Hid (MemAt 79 w b g ws o c) := h
  unfold errP poked
  cases hh : hasB ws i
  · clear h
    go_enter Try.func27, Try.ntmps27
    go_wp2_with (go_at_call 56; refine (has_any HM.out _).mono ?_; rw [hh]; rintro e w' ⟨rfl, hw⟩; subst w')
    go_ret
    exact ⟨rfl, HM.out, Chg.refl _ _ _⟩
  · obtain ⟨k, rfl, hk⟩ := hasB_pos hh
    have hx := h.word hk
    have hf := h.freeG k
    have hk2 : (k : Int) < (ws.length : Int) := by omega
    clear h
    go_enter Try.func27, Try.ntmps27
    go_wp2_with (go_at_call 56; refine (has_any HM.out _).mono ?_; rw [hh]; rintro e w' ⟨rfl, hw⟩; subst w')
    try go_region
    all_goals (try go_wp2)
    all_goals go_ret
    all_goals exact ⟨rfl, HM.out.setW k v, (Chg.refl _ _ _).setG _ _⟩

set_option maxRecDepth 100000 in
theorem loadAct_at (h : MemAt 79 w b g ws true c) {k : Nat} (hk : k < ws.length) :
    Calls Try.prog 75 #[.pointer (some ⟨w.heap.size, 0, none⟩), .pointer (some ⟨w.heap.size + 1, 0, none⟩), .pointer (some ⟨w.heap.size + 1 + 1, 0, none⟩)] (((((w.alloc (.cells #[.pointer (some ⟨b, 0, none⟩)] 22)).alloc (.cells #[.int .i64 k] 3)).alloc (.cells #[.int .u64 0] 30)).setCell ⟨b, 1, none⟩ (.bool false)).setCell ⟨b, 2, none⟩ (.int .i64 (up c))) fun e w' => e = .returned (.tuple #[]) ∧
      (w'.cell? ⟨w.heap.size + 1 + 1, 0, none⟩ = some (.int .u64 (wordAt ws k)) ∧ MemAt 79 w' b g ws false (up c) ∧ Chg b g w w') := by
  have hb := h.ltB
  have hg := h.ltG
  have hv : wordAt ws k = ws[k] := by simp [wordAt, hk]
  have HM0 := (((((h.alloc (.cells #[.pointer (some ⟨b, 0, none⟩)] 22)).alloc (.cells #[.int .i64 k] 3)).alloc (.cells #[.int .u64 0] 30)).setO false).setC (up c))
  have HM := (HM0.other (n := w.heap.size + 1 + 1) (by omega) (by omega) 0 (.int .u64 ws[k])).drew
  have HC := ((((((Chg.refl b g w).alloc (.cells #[.pointer (some ⟨b, 0, none⟩)] 22)).alloc (.cells #[.int .i64 k] 3)).alloc (.cells #[.int .u64 0] 30)).setB 1 (.bool false)).setB 2 (.int .i64 (up c))).setN (n := w.heap.size + 1 + 1) (by omega) 0 (.int .u64 ws[k]) |>.drew
  rw [hv]
  refine (loadAct_any _ w.heap.size (w.heap.size + 1) (w.heap.size + 1 + 1) b g k ws.length ws[k] (.int .u64 0) ?_ ?_ HM0.cell0 (HM0.word hk) (by omega) ?_ ?_).mono ?_
  · simp [go_sem]
  · simp [go_sem]
  · simp [go_sem]
  · simp [go_sem]
  · rintro e w' ⟨he, rfl⟩
    refine ⟨he, ?_, HM, HC⟩
    simp [go_sem]
set_option maxRecDepth 100000 in
theorem storeAct_at (h : MemAt 79 w b g ws true c) (v : Int) {k : Nat} (hk : k < ws.length) :
    Calls Try.prog 62 #[.pointer (some ⟨w.heap.size + 1 + 1, 0, none⟩), .pointer (some ⟨w.heap.size, 0, none⟩), .pointer (some ⟨w.heap.size + 1, 0, none⟩)] (((((w.alloc (.cells #[.pointer (some ⟨b, 0, none⟩)] 22)).alloc (.cells #[.int .i64 k] 3)).alloc (.cells #[.int .u64 v] 30)).setCell ⟨b, 1, none⟩ (.bool false)).setCell ⟨b, 2, none⟩ (.int .i64 (up c))) fun e w' => e = .returned (.tuple #[]) ∧
      (MemAt 79 w' b g (ws.set k v) false (up c) ∧ Chg b g w w') := by
  have hb := h.ltB
  have hg := h.ltG
  have HM0 := (((((h.alloc (.cells #[.pointer (some ⟨b, 0, none⟩)] 22)).alloc (.cells #[.int .i64 k] 3)).alloc (.cells #[.int .u64 v] 30)).setO false).setC (up c))
  have HC := ((((((Chg.refl b g w).alloc (.cells #[.pointer (some ⟨b, 0, none⟩)] 22)).alloc (.cells #[.int .i64 k] 3)).alloc (.cells #[.int .u64 v] 30)).setB 1 (.bool false)).setB 2 (.int .i64 (up c))).setG k (.int .u64 v) |>.drew
  refine (storeAct_any _ w.heap.size (w.heap.size + 1) (w.heap.size + 1 + 1) b g k ws.length ws[k] v ?_ ?_ HM0.cell0 (HM0.word hk) (by omega) ?_ (HM0.freeG k)).mono ?_
  · simp [go_sem]
  · simp [go_sem]
  · simp [go_sem]
  · rintro e w' ⟨he, rfl⟩
    exact ⟨he, (HM0.setW k v).drew, HC⟩
set_option maxRecDepth 100000 in
set_option maxHeartbeats 1000000 in
theorem load_any (h : MemAt 79 w b g ws o c) (i : Int) : Calls Try.prog 58 #[.pointer (some ⟨b, 0, none⟩), .int .i64 i] w fun e w' => e = .returned (.tuple #[.int .u64 (toldW ws o i), .int .i64 (errA ws o i)]) ∧ MemAt 79 w' b g ws (spentO ws o i) (spentC ws o i c) ∧ Chg b g w w' := by
  have HM : Hid (MemAt 79 w b g ws o c) := h
  clear h
  unfold errA spentO spentC toldW
  cases hh : hasB ws i
  · go_enter Try.func58, Try.ntmps58
    go_wp2_with (go_at_call 61; refine (access_none (((HM.out.alloc _).alloc _).alloc _) _ hh _ _ _).mono ?_; rintro e w' ⟨rfl, hw⟩; subst w')
    go_ret2
    exact ⟨rfl, ((HM.out.alloc _).alloc _).alloc _, (((Chg.refl _ _ _).alloc _).alloc _).alloc _⟩
  · obtain ⟨k, rfl, hk⟩ := hasB_pos hh
    cases o
    · go_enter Try.func58, Try.ntmps58
      go_wp2_with (go_at_call 61; refine (access_spent (((HM.out.alloc _).alloc _).alloc _) _ hh _ _ _).mono ?_; rintro e w' ⟨rfl, hw⟩; subst w')
      go_ret2
      exact ⟨rfl, ((HM.out.alloc _).alloc _).alloc _, (((Chg.refl _ _ _).alloc _).alloc _).alloc _⟩
    · have HA := Lib.hid (loadAct_at HM.out hk)
      go_enter Try.func58, Try.ntmps58
      go_wp2_with (go_at_call 61; refine (access_let (((HM.out.alloc _).alloc _).alloc _) _ hh _ _ _ (enter_run Try.func75 (by kernel_rfl) (by kernel_rfl)) HA.out).mono ?_; rintro e w' ⟨rfl, hc, hm, hz⟩; replace hm := Lib.hid hm)
      go_ret2
      exact ⟨rfl, hm.out, hz⟩
set_option maxRecDepth 100000 in
set_option maxHeartbeats 1000000 in
theorem store_any (h : MemAt 79 w b g ws o c) (i v : Int) : Calls Try.prog 41 #[.pointer (some ⟨b, 0, none⟩), .int .i64 i, .int .u64 v] w fun e w' => e = .returned (.int .i64 (errA ws o i)) ∧ MemAt 79 w' b g (stored ws o i v) (spentO ws o i) (spentC ws o i c) ∧ Chg b g w w' := by
  have HM : Hid (MemAt 79 w b g ws o c) := h
  clear h
  unfold errA spentO spentC stored
  cases hh : hasB ws i
  · go_enter Try.func41, Try.ntmps41
    go_wp2_with (go_at_call 61; refine (access_none (((HM.out.alloc _).alloc _).alloc _) _ hh _ _ _).mono ?_; rintro e w' ⟨rfl, hw⟩; subst w')
    go_ret
    exact ⟨rfl, ((HM.out.alloc _).alloc _).alloc _, (((Chg.refl _ _ _).alloc _).alloc _).alloc _⟩
  · obtain ⟨k, rfl, hk⟩ := hasB_pos hh
    cases o
    · go_enter Try.func41, Try.ntmps41
      go_wp2_with (go_at_call 61; refine (access_spent (((HM.out.alloc _).alloc _).alloc _) _ hh _ _ _).mono ?_; rintro e w' ⟨rfl, hw⟩; subst w')
      go_ret
      exact ⟨rfl, ((HM.out.alloc _).alloc _).alloc _, (((Chg.refl _ _ _).alloc _).alloc _).alloc _⟩
    · have HA := Lib.hid (storeAct_at HM.out v hk)
      go_enter Try.func41, Try.ntmps41
      go_wp2_with (go_at_call 61; refine (access_let (((HM.out.alloc _).alloc _).alloc _) _ hh _ _ _ (enter_run Try.func62 (by kernel_rfl) (by kernel_rfl)) HA.out).mono ?_; rintro e w' ⟨rfl, hm, hz⟩; replace hm := Lib.hid hm)
      go_ret
      exact ⟨rfl, hm.out, hz⟩
end
end Go.Proofs.Ytdfmmolhfacahaa
