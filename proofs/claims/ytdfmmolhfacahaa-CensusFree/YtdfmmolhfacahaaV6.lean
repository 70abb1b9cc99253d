import Derived.Test.YtdfmmolhfacahaaV5
namespace Go.Proofs.Ytdfmmolhfacahaa
open Go.ChangeShapes Go.WideShapes Go.ChangeAt Go.RowKit

section
variable {w : World} {b g : Nat} {ws : List Int} {o : Bool} {n : Int}
set_option maxRecDepth 100000 in
set_option maxHeartbeats 1000000 in
theorem kpeek_any (h : MemAt 79 w b g ws o n) (a0 a1 a2 a3 a4 a5 t : Int) : Calls Try.prog 44 #[.pointer (some ⟨b, 0, none⟩), plnV a0 a1 a2 a3 a4 a5, .int .i64 t] w fun e w' => e = .returned (.tuple #[.int .u64 (kV ws a3 t), .bool (kB ws a3 t), .int .i64 (kE ws a3 t)]) ∧ Below w.heap.size w w' := by
  unfold plnV kV kE
  have HY := Lib.hid (smay_any a3 t)
  cases hm : may8 t
  · have hk : kB ws a3 t = false := by simp [kB, hm]
    rw [hk]
    simp only [hm] at HY
    clear h
    go_enter Try.func44, Try.ntmps44
    go_wp2_with (go_at_call 36; refine (HY.out _).mono ?_; rintro e w1 ⟨rfl, hb⟩; have HB := Lib.hid (below_step (tb_alloc (tb_alloc (Below.refl w.heap.size w) _) _) hb); clear hb)
    go_ret3
    exact ⟨rfl, HB.out⟩
  · simp only [hm] at HY
    have HPL := Lib.hid (splace_any a3 t hm)
    have HPK := Lib.hid (fun w1 (hb : Below w.heap.size w w1) => peek_any (h.on hb) (plc a3 t))
    have hk : kB ws a3 t = (hasB ws (plc a3 t) && !decide (wordAt ws (plc a3 t) = 0)) := by simp [kB, hm]
    rw [hk, if_pos rfl]
    clear h hk
    unfold errP at *
    cases hh : hasB ws (plc a3 t)
    · simp only [hh, Bool.false_eq_true, if_false] at HPK
      simp only [Bool.false_and, Bool.false_eq_true, if_false]
      go_enter Try.func44, Try.ntmps44
      go_wp2_with (first
        | (go_at_call 36; refine (HY.out _).mono ?_; rintro e w1 ⟨rfl, hb⟩; have HB := Lib.hid (below_step (tb_alloc (tb_alloc (Below.refl w.heap.size w) _) _) hb); obtain ⟨z0, z1⟩ : w1.cell? ⟨w.heap.size + 1, 0, none⟩ = some (.int .i64 a3) ∧ w1.cell? ⟨w.heap.size + 1, 1, none⟩ = some (.int .i64 t) := ⟨(hb.cell (p := ⟨w.heap.size + 1, 0, none⟩) (by simp)).trans (by simp [go_sem]), (hb.cell (p := ⟨w.heap.size + 1, 1, none⟩) (by simp)).trans (by simp [go_sem])⟩; clear hb)
        | (go_at_call 42; refine (HPL.out _).mono ?_; rintro e w2 ⟨rfl, hb⟩; have HB2 := Lib.hid (below_step HB.out hb); clear hb)
        | (go_at_call 29; refine (HPK.out _ HB2.out).mono ?_; rintro e w3 ⟨rfl, hw⟩; subst w3))
      go_ret3
      exact ⟨rfl, HB2.out⟩
    · simp only [hh, if_true] at HPK
      simp only [Bool.true_and, if_true]
      generalize wordAt ws (plc a3 t) = v at *
      by_cases q : v = 0
      · subst q
        simp only [decide_true, Bool.not_true, Bool.false_eq_true, if_false]
        go_enter Try.func44, Try.ntmps44
        go_wp2_with (first
          | (go_at_call 36; refine (HY.out _).mono ?_; rintro e w1 ⟨rfl, hb⟩; have HB := Lib.hid (below_step (tb_alloc (tb_alloc (Below.refl w.heap.size w) _) _) hb); obtain ⟨z0, z1⟩ : w1.cell? ⟨w.heap.size + 1, 0, none⟩ = some (.int .i64 a3) ∧ w1.cell? ⟨w.heap.size + 1, 1, none⟩ = some (.int .i64 t) := ⟨(hb.cell (p := ⟨w.heap.size + 1, 0, none⟩) (by simp)).trans (by simp [go_sem]), (hb.cell (p := ⟨w.heap.size + 1, 1, none⟩) (by simp)).trans (by simp [go_sem])⟩; clear hb)
          | (go_at_call 42; refine (HPL.out _).mono ?_; rintro e w2 ⟨rfl, hb⟩; have HB2 := Lib.hid (below_step HB.out hb); clear hb)
          | (go_at_call 29; refine (HPK.out _ HB2.out).mono ?_; rintro e w3 ⟨rfl, hw⟩; subst w3))
        go_ret3
        exact ⟨rfl, HB2.out⟩
      · simp only [decide_eq_false q, Bool.not_false, if_true]
        go_enter Try.func44, Try.ntmps44
        go_wp2_with (first
          | (go_at_call 36; refine (HY.out _).mono ?_; rintro e w1 ⟨rfl, hb⟩; have HB := Lib.hid (below_step (tb_alloc (tb_alloc (Below.refl w.heap.size w) _) _) hb); obtain ⟨z0, z1⟩ : w1.cell? ⟨w.heap.size + 1, 0, none⟩ = some (.int .i64 a3) ∧ w1.cell? ⟨w.heap.size + 1, 1, none⟩ = some (.int .i64 t) := ⟨(hb.cell (p := ⟨w.heap.size + 1, 0, none⟩) (by simp)).trans (by simp [go_sem]), (hb.cell (p := ⟨w.heap.size + 1, 1, none⟩) (by simp)).trans (by simp [go_sem])⟩; clear hb)
          | (go_at_call 42; refine (HPL.out _).mono ?_; rintro e w2 ⟨rfl, hb⟩; have HB2 := Lib.hid (below_step HB.out hb); clear hb)
          | (go_at_call 29; refine (HPK.out _ HB2.out).mono ?_; rintro e w3 ⟨rfl, hw⟩; subst w3)
          | (go_at_call 63; refine (claimOf_any _ _).mono ?_; rintro e w3 ⟨rfl, hw⟩; subst w3))
        go_ret3
        exact ⟨rfl, HB2.out⟩
/-- the document's -/
theorem refMay8_any (t : Int) (w : World) : Calls Try.prog 64 #[.int .i64 t] w fun e w' => e = .returned (.bool (may8 t)) ∧ w' = w := by
  unfold may8
  by_cases h1 : 0 ≤ t
  · by_cases h2 : t < 8
    · go_enter Try.func64, Try.ntmps64
      go_wp2
      go_ret
      exact ⟨by first | (simp; done) | (simp; omega), rfl⟩
    · go_enter Try.func64, Try.ntmps64
      go_wp2
      go_ret
      exact ⟨by first | (simp; done) | (simp; omega), rfl⟩
  · go_enter Try.func64, Try.ntmps64
    go_wp2
    go_ret
    exact ⟨by first | (simp; done) | (simp; omega), rfl⟩
theorem refWord_any (a0 a1 a2 p a4 a5 t : Int) (ht : may8 t = true) (w : World) : Calls Try.prog 65 #[plnV a0 a1 a2 p a4 a5, .int .i64 t] w fun e w' => e = .returned (.int .i64 (plc p t)) ∧ Below w.heap.size w w' := by
  obtain ⟨ht0, ht1⟩ := may8_pos ht
  clear ht
  unfold plnV
  by_cases h1 : 0 ≤ p
  · by_cases h2 : p ≤ 4096
    · have e : plc p t = p + t := by simp [plc, h1, h2]
      have e1 : wrap64 (p + t) = p + t := Go.IntWalk.wrap64_in _ ⟨by omega, by omega⟩
      have h1' : ¬ p < 0 := by omega
      have h2' : ¬ 4096 < p := by omega
      rw [e]
      clear e ht0 ht1
      go_enter Try.func65, Try.ntmps65
      go_wp2
      go_ret
      exact ⟨rfl, tb_alloc (Below.refl _ _) _⟩
    · have e : plc p t = -1 := by simp [plc, h2]
      rw [e]
      clear e ht0 ht1
      have h1' : ¬ p < 0 := by omega
      have h2' : 4096 < p := by omega
      go_enter Try.func65, Try.ntmps65
      go_wp2
      go_ret
      exact ⟨rfl, tb_alloc (Below.refl _ _) _⟩
  · have e : plc p t = -1 := by simp [plc, h1]
    rw [e]
    clear e ht0 ht1
    have h1' : p < 0 := by omega
    go_enter Try.func65, Try.ntmps65
    go_wp2
    go_ret
    exact ⟨rfl, tb_alloc (Below.refl _ _) _⟩
theorem refStamp_any (h : MemAt 86 w b g ws o n) (a0 a1 a2 a3 a4 a5 : Int) : Calls Try.prog 71 #[.pointer (some ⟨b, 0, none⟩), plnV a0 a1 a2 a3 a4 a5] w fun e w' => e = .returned (.tuple #[.int .u64 (toldW ws o a2), .int .i64 (errA ws o a2)]) ∧ MemAt 86 w' b g ws (spentO ws o a2) (spentC ws o a2 n) ∧ Chg b g w w' := by
  unfold plnV
  have HM := Lib.hid h
  clear h
  go_enter Try.func71, Try.ntmps71
  go_wp2_with (go_at_call 67; refine (refLoad_any (HM.out.alloc _) _).mono ?_; rintro e w' ⟨rfl, hm, hc⟩; have HX := Lib.hid (And.intro hm (((Chg.refl b g w).alloc _).trans hc)); clear hm hc)
  go_ret2
  exact ⟨rfl, HX.out⟩
theorem refPublish_any (h : MemAt 86 w b g ws o n) (a0 a1 a2 a3 a4 a5 v : Int) : Calls Try.prog 72 #[.pointer (some ⟨b, 0, none⟩), plnV a0 a1 a2 a3 a4 a5, .int .u64 v] w fun e w' => e = .returned (.int .i64 (errA ws o a2)) ∧ MemAt 86 w' b g (stored ws o a2 v) (spentO ws o a2) (spentC ws o a2 n) ∧ Chg b g w w' := by
  unfold plnV
  have HM := Lib.hid h
  clear h
  go_enter Try.func72, Try.ntmps72
  go_wp2_with (go_at_call 66; refine (refStore_any (HM.out.alloc _) _ _).mono ?_; rintro e w' ⟨rfl, hm, hc⟩; have HX := Lib.hid (And.intro hm (((Chg.refl b g w).alloc _).trans hc)); clear hm hc)
  go_ret
  exact ⟨rfl, HX.out⟩
set_option maxRecDepth 100000 in
set_option maxHeartbeats 1000000 in
theorem refLeave_any (h : MemAt 86 w b g ws o n) (a0 a1 a2 a3 a4 a5 t : Int) : Calls Try.prog 73 #[.pointer (some ⟨b, 0, none⟩), plnV a0 a1 a2 a3 a4 a5, .int .i64 t] w fun e w' => e = .returned (.int .i64 (lE ws o a3 t)) ∧ MemAt 86 w' b g (lW ws o a3 t) (lO ws o a3 t) (lC ws o a3 t n) ∧ Chg b g w w' := by
  unfold lE lW lO lC
  have HM := Lib.hid h
  clear h
  have HY := Lib.hid (refMay8_any t)
  cases hm : may8 t
  · simp only [hm] at HY
    unfold plnV
    go_enter Try.func73, Try.ntmps73
    go_wp2_with (go_at_call 64; refine (HY.out _).mono ?_; rintro e w1 ⟨rfl, hw⟩; subst w1)
    go_ret
    exact ⟨rfl, HM.out.alloc _, (Chg.refl _ _ _).alloc _⟩
  · simp only [hm] at HY
    have HPL := Lib.hid (refWord_any a0 a1 a2 a3 a4 a5 t hm)
    unfold plnV at *
    go_enter Try.func73, Try.ntmps73
    go_wp2_with (first
      | (go_at_call 64; refine (HY.out _).mono ?_; rintro e w1 ⟨rfl, hw⟩; subst w1)
      | (go_at_call 65; refine (HPL.out _).mono ?_; rintro e w2 ⟨rfl, hb⟩; have HB2 := Lib.hid (below_step (tb_alloc (Below.refl w.heap.size w) _) hb); clear hb)
      | (go_at_call 66; refine (refStore_any (HM.out.on HB2.out) _ _).mono ?_; rintro e w3 ⟨rfl, hm3, hc⟩; have HX := Lib.hid (And.intro hm3 (chg_from HB2.out hc)); clear hm3 hc))
    go_ret
    exact ⟨rfl, HX.out⟩
set_option maxRecDepth 100000 in
set_option maxHeartbeats 1000000 in
theorem refKpeek_any (h : MemAt 86 w b g ws o n) (a0 a1 a2 a3 a4 a5 t : Int) : Calls Try.prog 74 #[.pointer (some ⟨b, 0, none⟩), plnV a0 a1 a2 a3 a4 a5, .int .i64 t] w fun e w' => e = .returned (.tuple #[.int .u64 (kV ws a3 t), .bool (kB ws a3 t), .int .i64 (kE ws a3 t)]) ∧ Below w.heap.size w w' := by
  unfold kV kE
  have HY := Lib.hid (refMay8_any t)
  cases hm : may8 t
  · have hk : kB ws a3 t = false := by simp [kB, hm]
    rw [hk]
    simp only [hm] at HY
    clear h
    unfold plnV
    go_enter Try.func74, Try.ntmps74
    go_wp2_with (go_at_call 64; refine (HY.out _).mono ?_; rintro e w1 ⟨rfl, hw⟩; subst w1)
    go_ret3
    exact ⟨rfl, tb_alloc (Below.refl _ _) _⟩
  · simp only [hm] at HY
    have HPL := Lib.hid (refWord_any a0 a1 a2 a3 a4 a5 t hm)
    have HPK := Lib.hid (fun w1 (hb : Below w.heap.size w w1) => refPeek_any (h.on hb) (plc a3 t))
    have hk : kB ws a3 t = (hasB ws (plc a3 t) && !decide (wordAt ws (plc a3 t) = 0)) := by simp [kB, hm]
    rw [hk, if_pos rfl]
    clear h hk
    unfold errP plnV backV at *
    cases hh : hasB ws (plc a3 t)
    · simp only [hh, Bool.false_eq_true, if_false] at HPK
      simp only [Bool.false_and, Bool.false_eq_true, if_false]
      go_enter Try.func74, Try.ntmps74
      go_wp2_with (first
        | (go_at_call 64; refine (HY.out _).mono ?_; rintro e w1 ⟨rfl, hw⟩; subst w1)
        | (go_at_call 65; refine (HPL.out _).mono ?_; rintro e w2 ⟨rfl, hb⟩; have HB2 := Lib.hid (below_step (tb_alloc (Below.refl w.heap.size w) _) hb); clear hb)
        | (go_at_call 78; refine (HPK.out _ HB2.out).mono ?_; rintro e w3 ⟨rfl, hw⟩; subst w3))
      go_ret3
      exact ⟨rfl, HB2.out⟩
    · simp only [hh, if_true] at HPK
      simp only [Bool.true_and, if_true]
      generalize wordAt ws (plc a3 t) = v at *
      by_cases q : v = 0
      · subst q
        simp only [decide_true, Bool.not_true, Bool.false_eq_true, if_false]
        go_enter Try.func74, Try.ntmps74
        go_wp2_with (first
          | (go_at_call 64; refine (HY.out _).mono ?_; rintro e w1 ⟨rfl, hw⟩; subst w1)
          | (go_at_call 65; refine (HPL.out _).mono ?_; rintro e w2 ⟨rfl, hb⟩; have HB2 := Lib.hid (below_step (tb_alloc (Below.refl w.heap.size w) _) hb); clear hb)
          | (go_at_call 78; refine (HPK.out _ HB2.out).mono ?_; rintro e w3 ⟨rfl, hw⟩; subst w3))
        go_ret3
        exact ⟨rfl, HB2.out⟩
      · simp only [decide_eq_false q, Bool.not_false, if_true]
        go_enter Try.func74, Try.ntmps74
        go_wp2_with (first
          | (go_at_call 64; refine (HY.out _).mono ?_; rintro e w1 ⟨rfl, hw⟩; subst w1)
          | (go_at_call 65; refine (HPL.out _).mono ?_; rintro e w2 ⟨rfl, hb⟩; have HB2 := Lib.hid (below_step (tb_alloc (Below.refl w.heap.size w) _) hb); clear hb)
          | (go_at_call 78; refine (HPK.out _ HB2.out).mono ?_; rintro e w3 ⟨rfl, hw⟩; subst w3))
        go_ret3
        exact ⟨rfl, HB2.out⟩
end
end Go.Proofs.Ytdfmmolhfacahaa
