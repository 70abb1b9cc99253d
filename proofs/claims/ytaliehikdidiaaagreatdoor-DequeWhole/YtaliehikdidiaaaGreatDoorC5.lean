import Derived.Test.YtaliehikdidiaaaGreatDoorC4
namespace Go.Proofs.YtaliehikdidiaaaGreatDoor
open Go.ChangeShapes Go.WideShapes Go.ChangeAt Go.RowKit Num
attribute [local go_sem] run_store_float

/-- a program's instructions, wherever they lie -/
def CodeAt (w : World) (ao : Option Addr) (c : List Ins) : Prop :=
  ∀ k, k < c.length → ∃ b off, ao = some ⟨b, off, none⟩ ∧ b < w.heap.size ∧ w.cell? ⟨b, off + k * 3, none⟩ = some (.int .i64 (ci c k).op) ∧ w.cell? ⟨b, off + k * 3 + 1, none⟩ = some (.int .i64 (ci c k).n) ∧ w.cell? ⟨b, off + k * 3 + 2, none⟩ = some (.float .f64 (ci c k).x)
theorem CodeAt.on {w w' : World} {ao : Option Addr} {c : List Ins} (h : CodeAt w ao c) (hb : Below w.heap.size w w') : CodeAt w' ao c := fun k hk => by
  obtain ⟨b, off, e, hlt, c0, c1, c2⟩ := h k hk
  exact ⟨b, off, e, Nat.lt_of_lt_of_le hlt hb.size, (hb.cell (p := ⟨b, off + k * 3, none⟩) hlt).trans c0, (hb.cell (p := ⟨b, off + k * 3 + 1, none⟩) hlt).trans c1, (hb.cell (p := ⟨b, off + k * 3 + 2, none⟩) hlt).trans c2⟩
def progV (t : Int) (ao : Option Addr) (n cap : Nat) : Value := .agg #[.int .i64 t, .slice ao n cap]
theorem cells2_of {w : World} {x : Nat} {v0 v1 : Value} {T : TypeId} (h : w.heap[x]? = some (.cells #[v0, v1] T (0, 0))) :
    w.cell? ⟨x, 0, none⟩ = some v0 ∧ w.cell? ⟨x, 1, none⟩ = some v1 ∧ x < w.heap.size :=
  ⟨by rw [cell_of_row w x 0 _ _ _ h]; rfl, by rw [cell_of_row w x 1 _ _ _ h]; rfl, lt_of_block h⟩
theorem cells3_of {w : World} {x : Nat} {v0 v1 v2 : Value} {T : TypeId} (h : w.heap[x]? = some (.cells #[v0, v1, v2] T (0, 0))) :
    w.cell? ⟨x, 0, none⟩ = some v0 ∧ w.cell? ⟨x, 1, none⟩ = some v1 ∧ w.cell? ⟨x, 2, none⟩ = some v2 ∧ x < w.heap.size :=
  ⟨by rw [cell_of_row w x 0 _ _ _ h]; rfl, by rw [cell_of_row w x 1 _ _ _ h]; rfl, by rw [cell_of_row w x 2 _ _ _ h]; rfl, lt_of_block h⟩
theorem checkE_no {t : Int} {c : List Ins} (h : checkB t c = false) : checkE t c = 50 := by unfold checkE; rw [h]; rfl
theorem checkE_yes {t : Int} {c : List Ins} (h : checkB t c = true) : checkE t c = 0 := by unfold checkE; rw [h]; rfl
theorem check_false {t : Int} {c : List Ins} (h : ¬ ((t = 1 ∨ t = 2) ∧ 1 ≤ c.length ∧ c.length ≤ 1024 ∧ ∀ k, k < c.length → mayB (ci c k) c.length = true)) : checkB t c = false := by
  cases hc : checkB t c
  · rfl
  · exact absurd (check_parts.1 hc) h
set_option maxHeartbeats 2000000 in
set_option maxRecDepth 100000 in
theorem check_any {w : World} (t : Int) {ao : Option Addr} {c : List Ins} (cap : Nat) (hT : Shaped5 w) (hc : CodeAt w ao c) (hl : c.length ≤ 9223372036854775807) :
    Calls Tryz.prog 14 #[progV t ao c.length cap] w fun e w' => e = .returned (.int .i64 (checkE t c)) ∧ Below w.heap.size w w' := by
  unfold progV
  by_cases ht : t = 1 ∨ t = 2
  · by_cases hn : c.length < 1 ∨ 1024 < c.length
    · rw [checkE_no (check_false (fun q => by omega))]
      clear hT hc
      generalize c.length = n at *
      rcases ht with rfl | rfl <;> rcases hn with hn | hn
      · obtain rfl : n = 0 := by omega
        go_enter Tryz.func14, Tryz.ntmps14
        go_wp2
        go_ret
        exact ⟨rfl, box5 _ _⟩
      · have h1 : ¬ (n : Int) < 1 := by omega
        have h2 : (1024 : Int) < n := by omega
        go_enter Tryz.func14, Tryz.ntmps14
        go_wp2
        go_ret
        exact ⟨rfl, box5 _ _⟩
      · obtain rfl : n = 0 := by omega
        go_enter Tryz.func14, Tryz.ntmps14
        go_wp2
        go_ret
        exact ⟨rfl, box5 _ _⟩
      · have h1 : ¬ (n : Int) < 1 := by omega
        have h2 : (1024 : Int) < n := by omega
        go_enter Tryz.func14, Tryz.ntmps14
        go_wp2
        go_ret
        exact ⟨rfl, box5 _ _⟩
    · have h1 : ¬ ((c.length : Nat) : Int) < 1 := by omega
      have h2 : ((c.length : Nat) : Int) ≤ 1024 := by omega
      have HC := Lib.hid hc
      have HT := Lib.hid hT
      have HN := Lib.hid hn
      clear hT hc hn
      have HX := Lib.hid (heap_alloc_new w (.cells #[.int .i64 t, .slice ao c.length cap] 26))
      have HB1 := Lib.hid (box5 w (.cells #[.int .i64 t, .slice ao c.length cap] 26))
      rcases ht with rfl | rfl
      all_goals go_enter Tryz.func14, Tryz.ntmps14
      all_goals go_wp2
      all_goals (go_loopw [26] (fun vi wr => ∃ (i : Nat), vi = .int .i64 i ∧ i ≤ c.length ∧ Hid (∀ j, j < i → mayB (ci c j) c.length = true) ∧ Hid (Below (w.heap.size + 1) (w.alloc (.cells #[.int .i64 _, .slice ao c.length cap] 26)) wr)) (fun vi _ => c.length - (intOf vi).toNat))
      case atStart => exact ⟨0, rfl, Nat.zero_le _, fun j hj => absurd hj (Nat.not_lt_zero j), Below.refl _ _⟩
      case atStart => exact ⟨0, rfl, Nat.zero_le _, fun j hj => absurd hj (Nat.not_lt_zero j), Below.refl _ _⟩
      all_goals (
        obtain ⟨i, rfl, hi, HM, HB⟩ := hrel
        have HBW := Lib.hid (HB1.out.trans (HB.out.mono (Nat.le_succ _)))
        by_cases hlt : i < c.length
        · have hlt' : (i : Int) < (c.length : Int) := by omega
          obtain ⟨b0, off, hao, hbW, k0, k1, k2⟩ := HC.out i hlt
          subst hao
          rw [← HBW.out.cell (p := ⟨b0, off + i * 3, none⟩) hbW] at k0
          rw [← HBW.out.cell (p := ⟨b0, off + i * 3 + 1, none⟩) hbW] at k1
          rw [← HBW.out.cell (p := ⟨b0, off + i * 3 + 2, none⟩) hbW] at k2
          have hbw : b0 < wr.heap.size := Nat.lt_of_lt_of_le hbW HBW.out.size
          obtain ⟨q0, q1, q2⟩ := cells2_of ((HB.out.block w.heap.size (Nat.lt_succ_self _)).trans HX.out)
          have HMB := Lib.hid (fun w' h => mayBe_any (ci c i) c.length w' h)
          cases hmb : mayB (ci c i) c.length with
          | true =>
            rw [hmb] at HMB
            have HM2 : Hid (∀ j, j < i + 1 → mayB (ci c j) c.length = true) := fun j hj => by
              rcases Nat.lt_succ_iff_lt_or_eq.1 hj with q | rfl
              · exact HM.out j q
              · exact hmb
            generalize ci c i = z at k0 k1 k2 HMB
            obtain ⟨zo, zn, zx⟩ := z
            unfold insV at HMB
            simp only at k0 k1 k2 HMB
            clear hbW hmb HM
            go_wp2_with (first
              | (go_at_call 40; refine (HMB.out _ (HT.out.on (chain5 HBW.out (box5 _ _)))).mono ?_; rintro e w2 ⟨rfl, hb2⟩; have HB2 := Lib.hid (HB.out.trans ((chain5 (box5 _ _) hb2).mono (Nat.le_trans (by simp) HB.out.size))); clear hb2))
            exact ⟨⟨i + 1, by first | rfl | (congr 1), by omega, HM2, HB2⟩, by simp [intOf]; omega⟩
          | false =>
            rw [hmb] at HMB
            have HNO := Lib.hid (fun t => checkE_no (t := t) (check_false (fun q => by have := q.2.2.2 i hlt; rw [hmb] at this; cases this)))
            generalize ci c i = z at k0 k1 k2 HMB
            obtain ⟨zo, zn, zx⟩ := z
            unfold insV at HMB
            simp only at k0 k1 k2 HMB
            clear hbW hmb HM
            go_wp2_with (first
              | (go_at_call 40; refine (HMB.out _ (HT.out.on (chain5 HBW.out (box5 _ _)))).mono ?_; rintro e w2 ⟨rfl, hb2⟩; have HB2 := Lib.hid (chain5 HBW.out (chain5 (box5 _ _) hb2)); clear hb2))
            go_ret
            exact ⟨by rw [HNO.out]; rfl, HB2.out⟩
        · have hlt' : ¬ (i : Int) < (c.length : Int) := by omega
          have HYES := Lib.hid (fun t ht => checkE_yes (t := t) (check_parts.2 ⟨ht, by have := HN.out; omega, by omega, fun k hk => HM.out k (by omega)⟩))
          go_wp2
          go_ret
          exact ⟨by rw [HYES.out _ (by first | exact .inl rfl | exact .inr rfl)]; rfl, HBW.out⟩)
  · rw [checkE_no (check_false (fun q => ht q.1))]
    have h1 : (t != 1) = true := by simpa using fun q => ht (.inl q)
    have h2 : (t != 2) = true := by simpa using fun q => ht (.inr q)
    clear hT hc ht
    go_enter Tryz.func14, Tryz.ntmps14
    go_wp2
    go_ret
    exact ⟨rfl, box5 _ _⟩
set_option maxHeartbeats 2000000 in
set_option maxRecDepth 100000 in
theorem same5_any {w : World} (s t : Int) {ao bo : Option Addr} {a b : List Ins} (ca cb : Nat) (ha : CodeAt w ao a) (hb : CodeAt w bo b) (hla : a.length ≤ 9223372036854775807) (_hlb : b.length ≤ 9223372036854775807) :
    Calls Tryz.prog 15 #[progV s ao a.length ca, progV t bo b.length cb] w fun e w' => e = .returned (.bool (sameB s t a b)) ∧ Below w.heap.size w w' := by
  unfold progV
  by_cases ht : s = t
  · by_cases hl : a.length = b.length
    · have h1 : (s != t) = false := by simpa using ht
      have h2 : (((a.length : Nat) : Int) != ((b.length : Nat) : Int)) = false := by rw [hl]; simp
      have HE : Hid (sameB s t a b = (List.range a.length).all fun k => sameI (ci a k) (ci b k)) := by
        show sameB s t a b = _
        unfold sameB
        rw [decide_eq_true ht, decide_eq_true hl]
        rfl
      have HA := Lib.hid ha
      have HBB := Lib.hid hb
      have HL := Lib.hid hl
      clear ha hb ht hl
      have HX := Lib.hid (heap_alloc_new (w.alloc (.cells #[.int .i64 s, .slice ao a.length ca] 26)) (.cells #[.int .i64 t, .slice bo b.length cb] 26))
      have HB1 := Lib.hid (chain5 (box5 w (.cells #[.int .i64 s, .slice ao a.length ca] 26)) (box5 _ (.cells #[.int .i64 t, .slice bo b.length cb] 26)))
      go_enter Tryz.func15, Tryz.ntmps15
      go_wp2
      clear h2
      go_loopw [24] (fun vi wr => ∃ (i : Nat), vi = .int .i64 i ∧ i ≤ a.length ∧ Hid (∀ j, j < i → sameI (ci a j) (ci b j) = true) ∧ Hid (Below (w.heap.size + 2) ((w.alloc (.cells #[.int .i64 s, .slice ao a.length ca] 26)).alloc (.cells #[.int .i64 t, .slice bo b.length cb] 26)) wr)) (fun vi _ => a.length - (intOf vi).toNat)
      case atStart => exact ⟨0, rfl, Nat.zero_le _, fun j hj => absurd hj (Nat.not_lt_zero j), Below.refl _ _⟩
      case round =>
        obtain ⟨i, rfl, hi, HM, HB⟩ := hrel
        have HBW := Lib.hid (HB1.out.trans (HB.out.mono (by omega)))
        by_cases hlt : i < a.length
        · have hlt' : (i : Int) < (a.length : Int) := by omega
          have hlb' : (i : Int) < (b.length : Int) := by have := HL.out; omega
          obtain ⟨b0, off, hao, hbW, k0, k1, k2⟩ := HA.out i hlt
          obtain ⟨b1, off1, hbo, hbW1, m0, m1, m2⟩ := HBB.out i (by have := HL.out; omega)
          subst hao hbo
          rw [← HBW.out.cell (p := ⟨b0, off + i * 3, none⟩) hbW] at k0
          rw [← HBW.out.cell (p := ⟨b0, off + i * 3 + 1, none⟩) hbW] at k1
          rw [← HBW.out.cell (p := ⟨b0, off + i * 3 + 2, none⟩) hbW] at k2
          rw [← HBW.out.cell (p := ⟨b1, off1 + i * 3, none⟩) hbW1] at m0
          rw [← HBW.out.cell (p := ⟨b1, off1 + i * 3 + 1, none⟩) hbW1] at m1
          rw [← HBW.out.cell (p := ⟨b1, off1 + i * 3 + 2, none⟩) hbW1] at m2
          have hbw : b0 < wr.heap.size := Nat.lt_of_lt_of_le hbW HBW.out.size
          have hbw1 : b1 < wr.heap.size := Nat.lt_of_lt_of_le hbW1 HBW.out.size
          have hz : (w.alloc (.cells #[.int .i64 s, .slice (some ⟨b0, off, none⟩) a.length ca] 26)).heap.size = w.heap.size + 1 := by simp
          have hx := HX.out
          rw [hz] at hx
          obtain ⟨q0, q1, q2⟩ := cells2_of ((HB.out.block (w.heap.size + 1) (Nat.lt_succ_self _)).trans hx)
          clear hx hz
          have HMB := Lib.hid (fun w' => sameInstr_any (ci a i) (ci b i) w')
          have HM2 : Hid (sameI (ci a i) (ci b i) = true → ∀ j, j < i + 1 → sameI (ci a j) (ci b j) = true) := fun hmb j hj => by
            rcases Nat.lt_succ_iff_lt_or_eq.1 hj with q | rfl
            · exact HM.out j q
            · exact hmb
          have HNO : Hid (sameI (ci a i) (ci b i) = false → sameB s t a b = false) := fun hmb => by
            rw [HE.out]
            cases hq : (List.range a.length).all fun k => sameI (ci a k) (ci b k)
            · rfl
            · have := all_range.1 hq i hlt
              rw [hmb] at this
              cases this
          generalize sameI (ci a i) (ci b i) = v at HMB HM2 HNO
          generalize ci a i = z at k0 k1 k2 HMB
          generalize ci b i = y at m0 m1 m2 HMB
          obtain ⟨zo, zn, zx⟩ := z
          obtain ⟨yo, yn, yx⟩ := y
          unfold insV at HMB
          simp only at k0 k1 k2 m0 m1 m2 HMB
          clear hbW hbW1 HM
          cases v with
          | true =>
            have HM3 := Lib.hid (HM2.out rfl)
            clear HM2 HNO
            go_wp2
            go_region_with (go_at_call 41; refine (HMB.out _).mono ?_; rintro e w2 ⟨rfl, hb2⟩; have HB2 := Lib.hid (HB.out.trans ((chain5 (by first | exact box5 _ _ | exact box5n _ _ _) hb2).mono (Nat.le_trans (by simp) HB.out.size))); clear hb2)
            all_goals go_wp2
            all_goals exact ⟨⟨i + 1, by first | rfl | (congr 1), by omega, HM3, HB2⟩, by simp [intOf]; omega⟩
          | false =>
            have HN3 := Lib.hid (HNO.out rfl)
            clear HM2 HNO
            go_wp2
            go_region_with (go_at_call 41; refine (HMB.out _).mono ?_; rintro e w2 ⟨rfl, hb2⟩; have HB2 := Lib.hid (chain5 HBW.out (chain5 (by first | exact box5 _ _ | exact box5n _ _ _) hb2)); clear hb2)
            all_goals go_wp2
            all_goals go_ret
            all_goals exact ⟨by rw [HN3.out]; rfl, HB2.out⟩
        · have hlt' : ¬ (i : Int) < (a.length : Int) := by omega
          have HYES : Hid (sameB s t a b = true) := by
            show sameB s t a b = true
            rw [HE.out]
            exact all_range.2 fun k hk => HM.out k (by omega)
          go_wp2
          go_ret
          exact ⟨by rw [HYES.out]; rfl, HBW.out⟩
    · have e : sameB s t a b = false := by unfold sameB; rw [decide_eq_false hl]; simp
      rw [e]
      have h1 : (s != t) = false := by simpa using ht
      have h2 : (((a.length : Nat) : Int) != ((b.length : Nat) : Int)) = true := by simp; omega
      go_enter Tryz.func15, Tryz.ntmps15
      go_wp2
      go_ret
      exact ⟨rfl, chain5 (box5 _ _) (box5 _ _)⟩
  · have e : sameB s t a b = false := by unfold sameB; rw [decide_eq_false ht]; simp
    rw [e]
    have h1 : (s != t) = true := by simpa using ht
    go_enter Tryz.func15, Tryz.ntmps15
    go_wp2
    go_ret
    exact ⟨rfl, chain5 (box5 _ _) (box5 _ _)⟩
end Go.Proofs.YtaliehikdidiaaaGreatDoor
