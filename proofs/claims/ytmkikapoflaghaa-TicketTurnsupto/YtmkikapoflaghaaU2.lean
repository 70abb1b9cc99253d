import Derived.Test.YtmkikapoflaghaaU1
namespace Go.Proofs.Ytmkikapoflaghaa
open Go.ChangeShapes Go.WideShapes Go.ChangeAt Go.RowKit

section
variable {w : World} {b g : Nat} {ws : List Int} {o : Bool} {c : Int}
/-- what is told of a word that is looked at -/
def lookB (ws : List Int) (o : Bool) (i t : Int) : Bool := (hasB ws i && o) && decide (wordAt ws i = t)
def passV (t : Int) : Int := IntKind.u64.wrap (t + 1)
def aheadI (ws : List Int) (i t : Int) : Int := if hasB ws i then betw (wordAt ws i) t else 0
theorem told_let (ws : List Int) (o : Bool) (i : Int) : (if errA ws o i = 0 then toldW ws o i else 0) = toldW ws o i := by
  unfold errA toldW
  cases q : hasB ws i <;> cases o <;> simp
theorem look_let (ws : List Int) (o : Bool) (i t : Int) : (if errA ws o i = 0 then decide (toldW ws o i = t) else false) = lookB ws o i t := by
  unfold errA toldW lookB
  cases q : hasB ws i <;> cases o <;> simp
theorem ahead_let (ws : List Int) (i t : Int) : (if errP ws i = 0 then betw (if hasB ws i then wordAt ws i else 0) t else 0) = aheadI ws i t := by
  unfold errP aheadI
  cases q : hasB ws i <;> simp
set_option maxRecDepth 100000 in
set_option maxHeartbeats 1000000 in
theorem drawAct_any (h : MemAt 59 w b g ws o c) (pm pp : Nat) (a : Int) (h0 : w.cell? ⟨pm, 0, none⟩ = some (.pointer (some ⟨b, 0, none⟩))) (h1 : w.cell? ⟨pp, 0, none⟩ = some (.int .i64 a)) :
    Calls Try.prog 28 #[.pointer (some ⟨pm, 0, none⟩), .pointer (some ⟨pp, 0, none⟩)] w fun e w' => e = .returned (.tuple #[.int .u64 (toldW ws o a), .int .i64 (errA ws o a)]) ∧ MemAt 59 w' b g (stored ws o a (addV (wordAt ws a) 1)) (spentO ws o a) (spentC ws o a c) ∧ Chg b g w w' := by
  have HA := Lib.hid (add_any h a 1)
  clear h
  go_enter Try.func28, Try.ntmps28
  go_wp2_with (go_at_call 29; refine HA.out.mono ?_; rintro e w' ⟨rfl, hq⟩)
  go_ret2
  exact ⟨rfl, hq⟩
set_option maxRecDepth 100000 in
set_option maxHeartbeats 1000000 in
theorem draw_any (h : MemAt 59 w b g ws o c) (a0 a1 a2 a3 a4 a5 : Int) :
    Calls Try.prog 10 #[.pointer (some ⟨b, 0, none⟩), plnV a0 a1 a2 a3 a4 a5] w fun e w' => e = .returned (.tuple #[.int .u64 (toldW ws o a0), .int .i64 (errA ws o a0)]) ∧ MemAt 59 w' b g (stored ws o a0 (addV (wordAt ws a0) 1)) (spentO ws o a0) (spentC ws o a0 c) ∧ Chg b g w w' := by
  unfold plnV
  have HM := Lib.hid h
  clear h
  go_enter Try.func10, Try.ntmps10
  go_wp2_with (go_at_call 22; refine (letW_any _ _ _ (told_let ..) (enter_run Try.func28 (by kernel_rfl) (by kernel_rfl)) (drawAct_any ((HM.out.alloc _).alloc _) _ _ a0 (by simp [go_sem]) (by simp [go_sem]))).mono ?_; rintro e w' ⟨rfl, hm, hc⟩; have HX := Lib.hid (And.intro hm (((Chg.refl b g w).alloc _).alloc _ |>.trans hc)); clear hm hc)
  go_ret2
  exact ⟨rfl, HX.out⟩
set_option maxRecDepth 100000 in
set_option maxHeartbeats 1000000 in
theorem lookAct_any (h : MemAt 59 w b g ws o c) (pm pp pt : Nat) (a t : Int) (nb : pt ≠ b) (ng : pt ≠ g) (h0 : w.cell? ⟨pm, 0, none⟩ = some (.pointer (some ⟨b, 0, none⟩))) (h1 : w.cell? ⟨pp, 1, none⟩ = some (.int .i64 a)) (h2 : w.cell? ⟨pt, 0, none⟩ = some (.int .u64 t)) :
    Calls Try.prog 26 #[.pointer (some ⟨pm, 0, none⟩), .pointer (some ⟨pp, 0, none⟩), .pointer (some ⟨pt, 0, none⟩)] w fun e w' => e = .returned (.tuple #[.bool (decide (toldW ws o a = t)), .int .i64 (errA ws o a)]) ∧ MemAt 59 w' b g ws (spentO ws o a) (spentC ws o a c) ∧ Chg b g w w' := by
  have HA := Lib.hid (load_any h a)
  have hlt := World.block_lt_of_cell? w _ h2
  have HN := Lib.hid (And.intro nb ng)
  clear h nb ng
  generalize toldW ws o a = x at *
  by_cases hx : x = t
  · go_enter Try.func26, Try.ntmps26
    go_wp2_with (go_at_call 27; refine HA.out.mono ?_; rintro e w' ⟨rfl, hm, hc⟩; have q2 : w'.cell? ⟨pt, 0, none⟩ = some (.int .u64 t) := ((cell_kept (hc.block pt hlt HN.out.1 HN.out.2) 0).trans h2); have HX := Lib.hid (And.intro hm hc); clear hm hc)
    go_ret2
    exact ⟨by simp [hx], HX.out⟩
  · go_enter Try.func26, Try.ntmps26
    go_wp2_with (go_at_call 27; refine HA.out.mono ?_; rintro e w' ⟨rfl, hm, hc⟩; have q2 : w'.cell? ⟨pt, 0, none⟩ = some (.int .u64 t) := ((cell_kept (hc.block pt hlt HN.out.1 HN.out.2) 0).trans h2); have HX := Lib.hid (And.intro hm hc); clear hm hc)
    go_ret2
    exact ⟨by simp [hx], HX.out⟩
set_option maxRecDepth 100000 in
set_option maxHeartbeats 1000000 in
theorem look_any (h : MemAt 59 w b g ws o c) (a0 a1 a2 a3 a4 a5 t : Int) :
    Calls Try.prog 9 #[.pointer (some ⟨b, 0, none⟩), plnV a0 a1 a2 a3 a4 a5, .int .u64 t] w fun e w' => e = .returned (.tuple #[.bool (lookB ws o a1 t), .int .i64 (errA ws o a1)]) ∧ MemAt 59 w' b g ws (spentO ws o a1) (spentC ws o a1 c) ∧ Chg b g w w' := by
  unfold plnV
  have HM := Lib.hid h
  have HLT : Hid (b < w.heap.size ∧ g < w.heap.size) := ⟨h.ltB, h.ltG⟩
  clear h
  go_enter Try.func9, Try.ntmps9
  go_wp2_with (go_at_call 25; refine (letB_any _ _ _ (look_let ..) (enter_run Try.func26 (by kernel_rfl) (by kernel_rfl)) (lookAct_any (((HM.out.alloc _).alloc _).alloc _) _ _ _ a1 t (by have := HLT.out; omega) (by have := HLT.out; omega) (by simp [go_sem]) (by simp [go_sem]) (by simp [go_sem]))).mono ?_; rintro e w' ⟨rfl, hm, hc⟩; have HX := Lib.hid (And.intro hm ((((Chg.refl b g w).alloc _).alloc _).alloc _ |>.trans hc)); clear hm hc)
  go_ret2
  exact ⟨rfl, HX.out⟩
set_option maxRecDepth 100000 in
set_option maxHeartbeats 1000000 in
theorem passAct_any (h : MemAt 59 w b g ws o c) (pm pp pt : Nat) (a t : Int) (h0 : w.cell? ⟨pm, 0, none⟩ = some (.pointer (some ⟨b, 0, none⟩))) (h1 : w.cell? ⟨pp, 1, none⟩ = some (.int .i64 a)) (h2 : w.cell? ⟨pt, 0, none⟩ = some (.int .u64 t)) :
    Calls Try.prog 23 #[.pointer (some ⟨pt, 0, none⟩), .pointer (some ⟨pm, 0, none⟩), .pointer (some ⟨pp, 0, none⟩)] w fun e w' => e = .returned (.tuple #[.int .u64 (passV t), .int .i64 (errA ws o a)]) ∧ MemAt 59 w' b g (stored ws o a (passV t)) (spentO ws o a) (spentC ws o a c) ∧ Chg b g w w' := by
  have HA := Lib.hid (store_any h a (passV t))
  unfold passV at *
  clear h
  go_enter Try.func23, Try.ntmps23
  go_wp2_with (go_at_call 24; refine HA.out.mono ?_; rintro e w' ⟨rfl, hm, hc⟩; have HX := Lib.hid (And.intro hm hc); clear hm hc)
  go_ret2
  exact ⟨rfl, HX.out⟩
set_option maxRecDepth 100000 in
set_option maxHeartbeats 1000000 in
theorem pass_any (h : MemAt 59 w b g ws o c) (a0 a1 a2 a3 a4 a5 t : Int) :
    Calls Try.prog 8 #[.pointer (some ⟨b, 0, none⟩), plnV a0 a1 a2 a3 a4 a5, .int .u64 t] w fun e w' => e = .returned (.int .i64 (errA ws o a1)) ∧ MemAt 59 w' b g (stored ws o a1 (passV t)) (spentO ws o a1) (spentC ws o a1 c) ∧ Chg b g w w' := by
  unfold plnV
  have HM := Lib.hid h
  obtain ⟨z, hz⟩ : ∃ z, (if errA ws o a1 = 0 then passV t else 0) = z := ⟨_, rfl⟩
  have HZ := Lib.hid hz
  clear hz
  clear h
  go_enter Try.func8, Try.ntmps8
  go_wp2_with (go_at_call 22; refine (letW_any _ _ z HZ.out (enter_run Try.func23 (by kernel_rfl) (by kernel_rfl)) (passAct_any (((HM.out.alloc _).alloc _).alloc _) _ _ _ a1 t (by simp [go_sem]) (by simp [go_sem]) (by simp [go_sem]))).mono ?_; rintro e w' ⟨rfl, hm, hc⟩; have HX := Lib.hid (And.intro hm ((((Chg.refl b g w).alloc _).alloc _).alloc _ |>.trans hc)); clear hm hc)
  go_ret
  exact ⟨rfl, HX.out⟩
set_option maxRecDepth 100000 in
set_option maxHeartbeats 1000000 in
theorem aheadAct_any (h : MemAt 59 w b g ws o c) (pm pp pt : Nat) (a t : Int) (h0 : w.cell? ⟨pm, 0, none⟩ = some (.pointer (some ⟨b, 0, none⟩))) (h1 : w.cell? ⟨pp, 1, none⟩ = some (.int .i64 a)) (h2 : w.cell? ⟨pt, 0, none⟩ = some (.int .u64 t)) :
    Calls Try.prog 31 #[.pointer (some ⟨pm, 0, none⟩), .pointer (some ⟨pp, 0, none⟩), .pointer (some ⟨pt, 0, none⟩)] w fun e w' => e = .returned (.tuple #[.int .i64 (betw (if hasB ws a then wordAt ws a else 0) t), .int .i64 (errP ws a)]) ∧ w' = w := by
  have HA := Lib.hid (peek_any h a)
  generalize (if hasB ws a then wordAt ws a else 0) = x at *
  clear h
  go_enter Try.func31, Try.ntmps31
  go_wp2_with (first
    | (go_at_call 32; refine HA.out.mono ?_; rintro e w' ⟨rfl, hw⟩; subst w')
    | (go_at_call 33; refine (between_any _ _ _).mono ?_; rintro e w' ⟨rfl, hw⟩; subst w'))
  go_ret2
  exact ⟨rfl, rfl⟩
set_option maxRecDepth 100000 in
set_option maxHeartbeats 1000000 in
theorem ahead_any (h : MemAt 59 w b g ws o c) (a0 a1 a2 a3 a4 a5 t : Int) :
    Calls Try.prog 11 #[.pointer (some ⟨b, 0, none⟩), plnV a0 a1 a2 a3 a4 a5, .int .u64 t] w fun e w' => e = .returned (.tuple #[.int .i64 (aheadI ws a1 t), .int .i64 (errP ws a1)]) ∧ MemAt 59 w' b g ws o c ∧ Below w.heap.size w w' := by
  unfold plnV
  have HM := Lib.hid h
  clear h
  go_enter Try.func11, Try.ntmps11
  go_wp2_with (go_at_call 30; refine (letI_any _ _ _ (ahead_let ..) (enter_run Try.func31 (by kernel_rfl) (by kernel_rfl)) (aheadAct_any (((HM.out.alloc _).alloc _).alloc _) _ _ _ a1 t (by simp [go_sem]) (by simp [go_sem]) (by simp [go_sem]))).mono ?_; rintro e w' ⟨rfl, hw⟩; have HX : Hid (MemAt 59 w' b g ws o c ∧ Below w.heap.size w w') := (by rw [hw]; exact ⟨((HM.out.alloc _).alloc _).alloc _, (((Below.refl _ _).alloc (Nat.le_refl _) _).alloc (by simp) _).alloc (by simp; omega) _⟩); clear hw)
  go_ret2
  exact ⟨rfl, HX.out⟩
/-- the document's -/
theorem refDraw_any (h : MemAt 72 w b g ws o c) (a0 a1 a2 a3 a4 a5 : Int) :
    Calls Try.prog 36 #[.pointer (some ⟨b, 0, none⟩), plnV a0 a1 a2 a3 a4 a5] w fun e w' => e = .returned (.tuple #[.int .u64 (toldW ws o a0), .int .i64 (errA ws o a0)]) ∧ MemAt 72 w' b g (stored ws o a0 (addV (wordAt ws a0) 1)) (spentO ws o a0) (spentC ws o a0 c) ∧ Chg b g w w' := by
  unfold plnV
  have HM := Lib.hid h
  clear h
  go_enter Try.func36, Try.ntmps36
  go_wp2_with (go_at_call 47; refine (refAdd_any (HM.out.alloc _) _ _).mono ?_; rintro e w' ⟨rfl, hm, hc⟩; have HX := Lib.hid (And.intro hm (((Chg.refl b g w).alloc _).trans hc)); clear hm hc)
  go_ret2
  exact ⟨rfl, HX.out⟩
theorem refLook_any (h : MemAt 72 w b g ws o c) (a0 a1 a2 a3 a4 a5 t : Int) :
    Calls Try.prog 37 #[.pointer (some ⟨b, 0, none⟩), plnV a0 a1 a2 a3 a4 a5, .int .u64 t] w fun e w' => e = .returned (.tuple #[.bool (lookB ws o a1 t), .int .i64 (errA ws o a1)]) ∧ MemAt 72 w' b g ws (spentO ws o a1) (spentC ws o a1 c) ∧ Chg b g w w' := by
  unfold plnV
  have HA := Lib.hid (refLoad_any (h.alloc (.cells #[.int .i64 a0, .int .i64 a1, .int .i64 a2, .int .i64 a3, .int .i64 a4, .int .i64 a5] 25)) a1)
  rw [← look_let]
  generalize toldW ws o a1 = x at *
  generalize hy : errA ws o a1 = y at *
  clear h hy
  by_cases h1 : y = 0
  · subst h1
    rw [if_pos rfl]
    by_cases h2 : x = t
    · subst h2
      rw [decide_eq_true rfl]
      go_enter Try.func37, Try.ntmps37
      go_wp2_with (go_at_call 48; refine HA.out.mono ?_; rintro e w' ⟨rfl, hm, hc⟩; have HX := Lib.hid (And.intro hm (((Chg.refl b g w).alloc _).trans hc)); clear hm hc)
      go_ret2
      exact ⟨rfl, HX.out⟩
    · rw [decide_eq_false h2]
      go_enter Try.func37, Try.ntmps37
      go_wp2_with (go_at_call 48; refine HA.out.mono ?_; rintro e w' ⟨rfl, hm, hc⟩; have HX := Lib.hid (And.intro hm (((Chg.refl b g w).alloc _).trans hc)); clear hm hc)
      go_ret2
      exact ⟨by simp [h2], HX.out⟩
  · rw [if_neg h1]
    go_enter Try.func37, Try.ntmps37
    go_wp2_with (go_at_call 48; refine HA.out.mono ?_; rintro e w' ⟨rfl, hm, hc⟩; have HX := Lib.hid (And.intro hm (((Chg.refl b g w).alloc _).trans hc)); clear hm hc)
    go_ret2
    exact ⟨rfl, HX.out⟩
theorem refPass_any (h : MemAt 72 w b g ws o c) (a0 a1 a2 a3 a4 a5 t : Int) :
    Calls Try.prog 38 #[.pointer (some ⟨b, 0, none⟩), plnV a0 a1 a2 a3 a4 a5, .int .u64 t] w fun e w' => e = .returned (.int .i64 (errA ws o a1)) ∧ MemAt 72 w' b g (stored ws o a1 (passV t)) (spentO ws o a1) (spentC ws o a1 c) ∧ Chg b g w w' := by
  unfold plnV passV
  have HM := Lib.hid h
  clear h
  go_enter Try.func38, Try.ntmps38
  go_wp2_with (go_at_call 49; refine (refStore_any (HM.out.alloc _) _ _).mono ?_; rintro e w' ⟨rfl, hm, hc⟩; have HX := Lib.hid (And.intro hm (((Chg.refl b g w).alloc _).trans hc)); clear hm hc)
  go_ret
  exact ⟨rfl, HX.out⟩
set_option maxHeartbeats 1000000 in
theorem refAhead_any (h : MemAt 72 w b g ws o c) (a0 a1 a2 a3 a4 a5 t : Int) :
    Calls Try.prog 39 #[.pointer (some ⟨b, 0, none⟩), plnV a0 a1 a2 a3 a4 a5, .int .u64 t] w fun e w' => e = .returned (.tuple #[.int .i64 (aheadI ws a1 t), .int .i64 (errP ws a1)]) ∧ MemAt 72 w' b g ws o c ∧ Below w.heap.size w w' := by
  unfold plnV
  have HM := Lib.hid (h.alloc (.cells #[.int .i64 a0, .int .i64 a1, .int .i64 a2, .int .i64 a3, .int .i64 a4, .int .i64 a5] 25))
  have HA := Lib.hid (refPeek_any HM.out a1)
  have HB : Hid (Below w.heap.size w (w.alloc (.cells #[.int .i64 a0, .int .i64 a1, .int .i64 a2, .int .i64 a3, .int .i64 a4, .int .i64 a5] 25))) := (Below.refl _ _).alloc (Nat.le_refl _) _
  rw [← ahead_let]
  generalize (if hasB ws a1 then wordAt ws a1 else 0) = x at *
  generalize hy : errP ws a1 = y at *
  clear h hy
  by_cases h1 : y = 0
  · subst h1
    rw [if_pos rfl]
    by_cases h2 : t ≤ x
    · rw [show betw x t = 0 by simp [betw, h2]]
      go_enter Try.func39, Try.ntmps39
      go_wp2_with (go_at_call 50; refine HA.out.mono ?_; rintro e w' ⟨rfl, hw⟩; subst w')
      go_ret2
      exact ⟨rfl, HM.out, HB.out⟩
    · by_cases h3 : 2147483647 < IntKind.u64.wrap (t - x)
      · rw [betw_most h2 h3]
        go_enter Try.func39, Try.ntmps39
        go_wp2_with (go_at_call 50; refine HA.out.mono ?_; rintro e w' ⟨rfl, hw⟩; subst w')
        go_ret2
        exact ⟨rfl, HM.out, HB.out⟩
      · rw [betw_some h2 h3]
        go_enter Try.func39, Try.ntmps39
        go_wp2_with (go_at_call 50; refine HA.out.mono ?_; rintro e w' ⟨rfl, hw⟩; subst w')
        go_ret2
        exact ⟨rfl, HM.out, HB.out⟩
  · rw [if_neg h1]
    go_enter Try.func39, Try.ntmps39
    go_wp2_with (go_at_call 50; refine HA.out.mono ?_; rintro e w' ⟨rfl, hw⟩; subst w')
    go_ret2
    exact ⟨rfl, HM.out, HB.out⟩
end
end Go.Proofs.Ytmkikapoflaghaa
