import Derived.Test.YtdfmmolhfacahaaV4
namespace Go.Proofs.Ytdfmmolhfacahaa
open Go.ChangeShapes Go.WideShapes Go.ChangeAt Go.RowKit

section
variable {w : World} {b g x : Nat} {ws : List Int} {o : Bool} {n : Int} {s : Ss}
set_option maxRecDepth 100000 in
theorem sstep_over (hx : ScAt w x s) (hm : mayH s.H = true) (hp : s.P = s.H) (b : Nat) : Calls Try.prog 13 #[.pointer (some ⟨x, 0, none⟩), .pointer (some ⟨b, 0, none⟩)] w fun e w' => e = .returned (.tuple #[.bool false, .int .i64 3]) ∧ Below w.heap.size w w' := by
  have HO := Lib.hid (overS_any hx)
  rw [hm, decide_eq_true hp] at HO
  clear hx hm hp
  go_enter Try.func13, Try.ntmps13
  go_wp2_with (go_at_call 38; refine HO.out.mono ?_; rintro e w1 ⟨rfl, hb⟩; have HB := Lib.hid hb; clear hb)
  go_ret2
  exact ⟨rfl, HB.out⟩
set_option maxRecDepth 100000 in
theorem sstep_may (hx : ScAt w x s) (hm : mayH s.H = false) (b : Nat) : Calls Try.prog 13 #[.pointer (some ⟨x, 0, none⟩), .pointer (some ⟨b, 0, none⟩)] w fun e w' => e = .returned (.tuple #[.bool false, .int .i64 100]) ∧ Below w.heap.size w w' := by
  have HO := Lib.hid (overS_any hx)
  rw [hm, Bool.false_and] at HO
  have HY := Lib.hid (fun w1 (hb : Below w.heap.size w w1) => mayS_any (hx.on hb))
  rw [hm] at HY
  clear hx hm
  go_enter Try.func13, Try.ntmps13
  go_wp2_with (first
    | (go_at_call 38; refine HO.out.mono ?_; rintro e w1 ⟨rfl, hb⟩; have HB := Lib.hid hb; clear hb)
    | (go_at_call 39; refine (HY.out _ HB.out).mono ?_; rintro e w2 ⟨rfl, hw⟩; subst w2))
  go_ret2
  exact ⟨rfl, HB.out⟩
set_option maxRecDepth 100000 in
set_option maxHeartbeats 1000000 in
theorem sstep_go (h : MemAt 79 w b g ws o n) (hx : ScAt w x s) (hok : SOk s) (hm : mayH s.H = true) (hp : s.P ≠ s.H) {er : Int} (her : errA ws o (plc s.B s.P) = er) : Calls Try.prog 13 #[.pointer (some ⟨x, 0, none⟩), .pointer (some ⟨b, 0, none⟩)] w fun e w' => e = .returned (.tuple #[.bool (decide (er = 0) && decide ((sN s (toldW ws o (plc s.B s.P))).P = s.H)), .int .i64 er]) ∧ MemAt 79 w' b g ws (spentO ws o (plc s.B s.P)) (spentC ws o (plc s.B s.P) n) ∧ ScAt w' x (if er = 0 then sN s (toldW ws o (plc s.B s.P)) else s) ∧ Ch3 b g x w w' := by
  have HO := Lib.hid (overS_any hx)
  rw [hm, decide_eq_false hp] at HO
  have HY := Lib.hid (fun w1 (hb : Below w.heap.size w w1) => mayS_any (hx.on hb))
  rw [hm] at HY
  have h1 := of_decide_eq_true hm
  have h2 := hok.p
  have h3 := hok.h hm
  have HA := Lib.hid (fun w1 (hb : Below w.heap.size w w1) => sacc_any (h.on hb) (hx.on hb) (k := s.P.toNat) (m := s.H.toNat) (by omega) (by omega) (by omega) (by omega) her)
  have HS := Lib.hid (sN_parts s (toldW ws o (plc s.B s.P)))
  have HM0 := Lib.hid hm
  generalize sN s (toldW ws o (plc s.B s.P)) = s2 at *
  clear h hx hm her h1 h2 h3 hok hp
  by_cases q : er = 0
  · subst q
    rw [if_pos rfl] at HA
    rw [if_pos rfl, decide_eq_true rfl, Bool.true_and]
    go_enter Try.func13, Try.ntmps13
    go_wp2_with (first
      | (go_at_call 38; refine HO.out.mono ?_; rintro e w1 ⟨rfl, hb⟩; have HB := Lib.hid hb; clear hb HO)
      | (go_at_call 39; refine (HY.out _ HB.out).mono ?_; rintro e w2 ⟨rfl, hw⟩; subst w2)
      | (go_at_call 40; refine (HA.out _ HB.out).mono ?_; rintro e w2 ⟨rfl, hm, hx, hc⟩; have HM2 := Lib.hid hm; have HX2 := Lib.hid hx; have HC2 := Lib.hid ((Ch3.refl _ _ _ _).on HB.out |>.trans hc); clear hm hx hc)
      | (go_at_call 38; refine (overS_any HX2.out).mono ?_; rw [HS.out.2.1, HM0.out, Bool.true_and]; rintro e w3 ⟨rfl, hb⟩; have HB3 := Lib.hid hb; clear hb))
    go_ret2
    exact ⟨rfl, HM2.out.on HB3.out, HX2.out.on HB3.out, HC2.out.on HB3.out⟩
  · rw [if_neg q] at HA
    rw [if_neg q, decide_eq_false q, Bool.false_and]
    go_enter Try.func13, Try.ntmps13
    go_wp2_with (first
      | (go_at_call 38; refine HO.out.mono ?_; rintro e w1 ⟨rfl, hb⟩; have HB := Lib.hid hb; clear hb HO)
      | (go_at_call 39; refine (HY.out _ HB.out).mono ?_; rintro e w2 ⟨rfl, hw⟩; subst w2)
      | (go_at_call 40; refine (HA.out _ HB.out).mono ?_; rintro e w2 ⟨rfl, hm, hx, hc⟩; have HM2 := Lib.hid hm; have HX2 := Lib.hid hx; have HC2 := Lib.hid ((Ch3.refl _ _ _ _).on HB.out |>.trans hc); clear hm hx hc))
    go_ret2
    exact ⟨rfl, HM2.out, HX2.out, HC2.out⟩
theorem sstep_any (h : MemAt 79 w b g ws o n) (hx : ScAt w x s) (hok : SOk s) : Calls Try.prog 13 #[.pointer (some ⟨x, 0, none⟩), .pointer (some ⟨b, 0, none⟩)] w fun e w' => e = .returned (.tuple #[.bool (sO s ws o), .int .i64 (sE s ws o)]) ∧ MemAt 79 w' b g ws (sP s ws o) (sQ s ws o n) ∧ ScAt w' x (sC s ws o) ∧ Ch3 b g x w w' := by
  cases hm : mayH s.H
  · have e : sE s ws o = 100 := by simp [sE, hm]
    unfold sO sP sQ sC
    rw [e]
    refine (sstep_may hx hm b).mono ?_
    rintro r w' ⟨rfl, hb⟩
    exact ⟨by simp, by simpa using h.on hb, by simpa using hx.on hb, (Ch3.refl _ _ _ _).on hb⟩
  · by_cases h3 : s.P = s.H
    · have e : sE s ws o = 3 := by simp [sE, hm, h3]
      unfold sO sP sQ sC
      rw [e]
      refine (sstep_over hx hm h3 b).mono ?_
      rintro r w' ⟨rfl, hb⟩
      exact ⟨by simp, by simpa using h.on hb, by simpa using hx.on hb, (Ch3.refl _ _ _ _).on hb⟩
    · have e : sE s ws o = errA ws o (plc s.B s.P) := by simp [sE, h3, hm]
      unfold sO sP sQ sC
      rw [e]
      refine (sstep_go h hx hok hm h3 rfl).mono ?_
      rintro r w' ⟨rfl, hm', hx', hch⟩
      by_cases q : errA ws o (plc s.B s.P) = 0
      · have f := ok_facts q
        rw [f.2.1, f.2.2.1] at hm'
        rw [if_pos q, f.2.2.2.1] at hx'
        rw [f.2.2.2.1, if_pos q, if_pos q, if_pos q]
        exact ⟨rfl, hm', hx', hch⟩
      · have f := no_facts q
        rw [f.2.1, f.2.2.1] at hm'
        rw [if_neg q] at hx'
        rw [decide_eq_false q, if_neg q, if_neg q, if_neg q]
        exact ⟨rfl, hm', hx', hch⟩

/-- the calls that keep nothing -/
theorem stampM_any (h : MemAt 79 w b g ws o n) (a0 a1 a2 a3 a4 a5 : Int) : Calls Try.prog 57 #[.pointer (some ⟨b, 0, none⟩), plnV a0 a1 a2 a3 a4 a5] w fun e w' => e = .returned (.tuple #[.int .u64 (toldW ws o a2), .int .i64 (errA ws o a2)]) ∧ MemAt 79 w' b g ws (spentO ws o a2) (spentC ws o a2 n) ∧ Chg b g w w' := by
  unfold plnV
  have HM := Lib.hid h
  clear h
  go_enter Try.func57, Try.ntmps57
  go_wp2_with (go_at_call 58; refine (load_any (HM.out.alloc _) _).mono ?_; rintro e w' ⟨rfl, hm, hc⟩; have HX := Lib.hid (And.intro hm (((Chg.refl b g w).alloc _).trans hc)); clear hm hc)
  go_ret2
  exact ⟨rfl, HX.out⟩
theorem publish_any (h : MemAt 79 w b g ws o n) (a0 a1 a2 a3 a4 a5 v : Int) : Calls Try.prog 43 #[.pointer (some ⟨b, 0, none⟩), plnV a0 a1 a2 a3 a4 a5, .int .u64 v] w fun e w' => e = .returned (.int .i64 (errA ws o a2)) ∧ MemAt 79 w' b g (stored ws o a2 v) (spentO ws o a2) (spentC ws o a2 n) ∧ Chg b g w w' := by
  unfold plnV
  have HM := Lib.hid h
  clear h
  go_enter Try.func43, Try.ntmps43
  go_wp2_with (go_at_call 41; refine (store_any (HM.out.alloc _) _ _).mono ?_; rintro e w' ⟨rfl, hm, hc⟩; have HX := Lib.hid (And.intro hm (((Chg.refl b g w).alloc _).trans hc)); clear hm hc)
  go_ret
  exact ⟨rfl, HX.out⟩
/-- what Leave does -/
def lE (ws : List Int) (o : Bool) (p t : Int) : Int := if may8 t then errA ws o (plc p t) else 100
def lW (ws : List Int) (o : Bool) (p t : Int) : List Int := if may8 t then stored ws o (plc p t) 0 else ws
def lO (ws : List Int) (o : Bool) (p t : Int) : Bool := if may8 t then spentO ws o (plc p t) else o
def lC (ws : List Int) (o : Bool) (p t n : Int) : Int := if may8 t then spentC ws o (plc p t) n else n
set_option maxRecDepth 100000 in
set_option maxHeartbeats 1000000 in
theorem leave_any (h : MemAt 79 w b g ws o n) (a0 a1 a2 a3 a4 a5 t : Int) : Calls Try.prog 14 #[.pointer (some ⟨b, 0, none⟩), plnV a0 a1 a2 a3 a4 a5, .int .i64 t] w fun e w' => e = .returned (.int .i64 (lE ws o a3 t)) ∧ MemAt 79 w' b g (lW ws o a3 t) (lO ws o a3 t) (lC ws o a3 t n) ∧ Chg b g w w' := by
  unfold plnV lE lW lO lC
  have HM := Lib.hid h
  clear h
  have HY := Lib.hid (smay_any a3 t)
  cases hm : may8 t
  · simp only [hm] at HY
    go_enter Try.func14, Try.ntmps14
    go_wp2_with (go_at_call 36; refine (HY.out _).mono ?_; rintro e w1 ⟨rfl, hb⟩; have HB := Lib.hid (below_step (tb_alloc (tb_alloc (Below.refl w.heap.size w) _) _) hb); clear hb)
    go_ret
    exact ⟨rfl, HM.out.on HB.out, chg_from HB.out (Chg.refl _ _ _)⟩
  · simp only [hm] at HY
    have HPL := Lib.hid (splace_any a3 t hm)
    go_enter Try.func14, Try.ntmps14
    go_wp2_with (first
      | (go_at_call 36; refine (HY.out _).mono ?_; rintro e w1 ⟨rfl, hb⟩; have HB := Lib.hid (below_step (tb_alloc (tb_alloc (Below.refl w.heap.size w) _) _) hb); obtain ⟨z0, z1⟩ : w1.cell? ⟨w.heap.size + 1, 0, none⟩ = some (.int .i64 a3) ∧ w1.cell? ⟨w.heap.size + 1, 1, none⟩ = some (.int .i64 t) := ⟨(hb.cell (p := ⟨w.heap.size + 1, 0, none⟩) (by simp)).trans (by simp [go_sem]), (hb.cell (p := ⟨w.heap.size + 1, 1, none⟩) (by simp)).trans (by simp [go_sem])⟩; clear hb)
      | (go_at_call 42; refine (HPL.out _).mono ?_; rintro e w2 ⟨rfl, hb⟩; have HB2 := Lib.hid (below_step HB.out hb); clear hb)
      | (go_at_call 41; refine (store_any (HM.out.on HB2.out) _ _).mono ?_; rintro e w3 ⟨rfl, hm3, hc⟩; have HX := Lib.hid (And.intro hm3 (chg_from HB2.out hc)); clear hm3 hc))
    go_ret
    exact ⟨rfl, HX.out⟩
/-- what Peek tells -/
def kE (ws : List Int) (p t : Int) : Int := if may8 t then errP ws (plc p t) else 100
def kB (ws : List Int) (p t : Int) : Bool := may8 t && hasB ws (plc p t) && !decide (wordAt ws (plc p t) = 0)
def kV (ws : List Int) (p t : Int) : Int := if kB ws p t then backV (wordAt ws (plc p t)) else 0
end
end Go.Proofs.Ytdfmmolhfacahaa
