import Derived.Test.YtmoafflimfhaiaaDoorC7
namespace Go.Proofs.YtmoafflimfhaiaaDoor
open Go.ChangeShapes Go.WideShapes Go.ChangeAt Go.RowKit Num
attribute [local go_sem] run_store_float

set_option maxHeartbeats 2000000 in
set_option maxRecDepth 100000 in
theorem refSame5_any {w : World} (s t : Int) {ao bo : Option Addr} {a b : List Ins} (ca cb : Nat) (ha : CodeAt w ao a) (hb : CodeAt w bo b) (hla : a.length ≤ 9223372036854775807) (_hlb : b.length ≤ 9223372036854775807) :
    Calls Tryd.prog 18 #[progV s ao a.length ca, progV t bo b.length cb] w fun e w' => e = .returned (.bool (sameB s t a b)) ∧ Below w.heap.size w w' := by
  unfold progV
  by_cases ht : s = t
  · by_cases hl : a.length = b.length
    · have h1 : (s != t) = false := by simpa using ht
      have h2 : (((a.length : Nat) : Int) != ((b.length : Nat) : Int)) = false := by rw [hl]; simp
      have HE : Hid (sameB s t a b = (List.range a.length).all fun k => sameI (ci a k) (ci b k)) := by
        show sameB s t a b = _
        unfold sameB
        rw [decide_eq_true ht, decide_eq_true hl]
        rfl
      have HA := Lib.hid ha
      have HBB := Lib.hid hb
      have HL := Lib.hid hl
      clear ha hb ht hl
      have HX := Lib.hid (heap_alloc_new (w.alloc (.cells #[.int .i64 s, .slice ao a.length ca] 37)) (.cells #[.int .i64 t, .slice bo b.length cb] 37))
      have HB1 := Lib.hid (chain5 (box5 w (.cells #[.int .i64 s, .slice ao a.length ca] 37)) (box5 _ (.cells #[.int .i64 t, .slice bo b.length cb] 37)))
      go_enter Tryd.func18, Tryd.ntmps18
      go_wp2
      clear h2
      go_loopw [25] (fun vi wr => ∃ (i : Nat), vi = .int .i64 i ∧ i ≤ a.length ∧ Hid (∀ j, j < i → sameI (ci a j) (ci b j) = true) ∧ Hid (Below (w.heap.size + 2) ((w.alloc (.cells #[.int .i64 s, .slice ao a.length ca] 37)).alloc (.cells #[.int .i64 t, .slice bo b.length cb] 37)) wr)) (fun vi _ => a.length - (intOf vi).toNat)
      case atStart => exact ⟨0, rfl, Nat.zero_le _, fun j hj => absurd hj (Nat.not_lt_zero j), Below.refl _ _⟩
      case round =>
        obtain ⟨i, rfl, hi, HM, HB⟩ := hrel
        have HBW := Lib.hid (HB1.out.trans (HB.out.mono (by omega)))
        by_cases hlt : i < a.length
        · have hlt' : (i : Int) < (a.length : Int) := by omega
          have hlb' : (i : Int) < (b.length : Int) := by have := HL.out; omega
          obtain ⟨b0, off, hao, hbW, k0, k1, k2⟩ := HA.out i hlt
          obtain ⟨b1, off1, hbo, hbW1, m0, m1, m2⟩ := HBB.out i (by have := HL.out; omega)
          subst hao hbo
          rw [← HBW.out.cell (p := ⟨b0, off + i * 3, none⟩) hbW] at k0
          rw [← HBW.out.cell (p := ⟨b0, off + i * 3 + 1, none⟩) hbW] at k1
          rw [← HBW.out.cell (p := ⟨b0, off + i * 3 + 2, none⟩) hbW] at k2
          rw [← HBW.out.cell (p := ⟨b1, off1 + i * 3, none⟩) hbW1] at m0
          rw [← HBW.out.cell (p := ⟨b1, off1 + i * 3 + 1, none⟩) hbW1] at m1
          rw [← HBW.out.cell (p := ⟨b1, off1 + i * 3 + 2, none⟩) hbW1] at m2
          have hbw : b0 < wr.heap.size := Nat.lt_of_lt_of_le hbW HBW.out.size
          have hbw1 : b1 < wr.heap.size := Nat.lt_of_lt_of_le hbW1 HBW.out.size
          have hz : (w.alloc (.cells #[.int .i64 s, .slice (some ⟨b0, off, none⟩) a.length ca] 37)).heap.size = w.heap.size + 1 := by simp
          have hx := HX.out
          rw [hz] at hx
          obtain ⟨q0, q1, q2⟩ := cells2_of ((HB.out.block (w.heap.size + 1) (Nat.lt_succ_self _)).trans hx)
          clear hx hz
          have HV : Hid (sameI (ci a i) (ci b i) = (decide ((ci a i).op = (ci b i).op) && decide ((ci a i).n = (ci b i).n) && fixB (ci a i).x == fixB (ci b i).x)) := rfl
          have HM2 : Hid (sameI (ci a i) (ci b i) = true → ∀ j, j < i + 1 → sameI (ci a j) (ci b j) = true) := fun hmb j hj => by
            rcases Nat.lt_succ_iff_lt_or_eq.1 hj with q | rfl
            · exact HM.out j q
            · exact hmb
          have HNO : Hid (sameI (ci a i) (ci b i) = false → sameB s t a b = false) := fun hmb => by
            rw [HE.out]
            cases hq : (List.range a.length).all fun k => sameI (ci a k) (ci b k)
            · rfl
            · have := all_range.1 hq i hlt
              rw [hmb] at this
              cases this
          generalize sameI (ci a i) (ci b i) = v at HV HM2 HNO
          generalize ci a i = z at k0 k1 k2 HV
          generalize ci b i = y at m0 m1 m2 HV
          obtain ⟨zo, zn, zx⟩ := z
          obtain ⟨yo, yn, yx⟩ := y
          simp only at k0 k1 k2 m0 m1 m2 HV
          clear hbW hbW1 HM
          cases v with
          | true =>
            have HM3 := Lib.hid (HM2.out rfl)
            have hv := HV.out
            simp only [Bool.true_eq, Bool.and_eq_true, decide_eq_true_eq, beq_iff_eq] at hv
            obtain ⟨⟨rfl, rfl⟩, h5⟩ := hv
            clear HM2 HNO HV
            go_wp2
            go_quiet ((go_at_call 33; exact Calls.quiet_of_same (refBits_any _ _)))
            go_wp2
            exact ⟨⟨i + 1, by first | rfl | (congr 1), by omega, HM3, HB.out.trans (Below.mono (by repeat (first | exact Below.refl _ _ | apply bl_alloc | apply bl_drewN | apply bl_drew)) (Nat.le_trans (by simp) HB.out.size))⟩, by simp [intOf]; omega⟩
          | false =>
            have HN3 := Lib.hid (HNO.out rfl)
            have hv := HV.out
            clear HM2 HNO HV
            by_cases h3 : zo = yo
            · by_cases h4 : zn = yn
              · have h5 : (((fixB zx : Nat) : Int) != ((fixB yx : Nat) : Int)) = true := by
                  rw [decide_eq_true h3, decide_eq_true h4] at hv
                  simp at hv
                  simp
                  omega
                subst h3 h4
                clear hv
                go_wp2
                go_quiet ((go_at_call 33; exact Calls.quiet_of_same (refBits_any _ _)))
                go_wp2
                go_ret
                exact ⟨by rw [HN3.out]; rfl, chain5 HBW.out (by repeat (first | exact Below.refl _ _ | apply bl_alloc | apply bl_drewN | apply bl_drew))⟩
              · have h4' : (zn != yn) = true := by simpa using h4
                subst h3
                clear hv
                go_wp2
                go_quiet (fail)
                go_wp2
                go_ret
                exact ⟨by rw [HN3.out]; rfl, chain5 HBW.out (by repeat (first | exact Below.refl _ _ | apply bl_alloc | apply bl_drewN | apply bl_drew))⟩
            · have h3' : (zo != yo) = true := by simpa using h3
              clear hv
              go_wp2
              go_quiet (fail)
              go_wp2
              go_ret
              exact ⟨by rw [HN3.out]; rfl, chain5 HBW.out (by repeat (first | exact Below.refl _ _ | apply bl_alloc | apply bl_drewN | apply bl_drew))⟩
        · have hlt' : ¬ (i : Int) < (a.length : Int) := by omega
          have HYES : Hid (sameB s t a b = true) := by
            show sameB s t a b = true
            rw [HE.out]
            exact all_range.2 fun k hk => HM.out k (by omega)
          go_wp2
          go_ret
          exact ⟨by rw [HYES.out]; rfl, HBW.out⟩
    · have e : sameB s t a b = false := by unfold sameB; rw [decide_eq_false hl]; simp
      rw [e]
      have h1 : (s != t) = false := by simpa using ht
      have h2 : (((a.length : Nat) : Int) != ((b.length : Nat) : Int)) = true := by simp; omega
      go_enter Tryd.func18, Tryd.ntmps18
      go_wp2
      go_ret
      exact ⟨rfl, chain5 (box5 _ _) (box5 _ _)⟩
  · have e : sameB s t a b = false := by unfold sameB; rw [decide_eq_false ht]; simp
    rw [e]
    have h1 : (s != t) = true := by simpa using ht
    go_enter Tryd.func18, Tryd.ntmps18
    go_wp2
    go_ret
    exact ⟨rfl, chain5 (box5 _ _) (box5 _ _)⟩
end Go.Proofs.YtmoafflimfhaiaaDoor
