import Derived.Test.YtdfmmolhfacahaaM4
import Derived.OwnWalk
import Derived.Maps.AppendAt
namespace Go.Proofs.Ytdfmmolhfacahaa
open Go.ChangeShapes Go.WideShapes Go.ChangeAt Go.RowKit

section
variable {w : World} {b g : Nat} {ws : List Int} {o : Bool} {c : Int}
theorem refMay_any (h : MemAt 86 w b g ws o c) (i : Int) : Calls Try.prog 76 #[.pointer (some ⟨b, 0, none⟩), .int .i64 i] w fun e w' => e = .returned (.int .i64 (errA ws o i)) ∧ w' = w := by
  have h0 := h.cell0
  have h1 := h.cell1
  have hb := h.ltB
  clear h
  by_cases q1 : 0 ≤ i
  · by_cases q2 : i < (ws.length : Int)
    · cases o
      · rw [show errA ws false i = 31 by simp [errA, hasB, q1, q2]]
        go_enter Try.func76, Try.ntmps76
        go_wp2
        go_ret
        exact ⟨rfl, rfl⟩
      · rw [show errA ws true i = 0 by simp [errA, hasB, q1, q2]]
        go_enter Try.func76, Try.ntmps76
        go_wp2
        go_ret
        exact ⟨rfl, rfl⟩
    · rw [show errA ws o i = 30 by simp [errA, hasB, q2]]
      go_enter Try.func76, Try.ntmps76
      go_wp2
      go_ret
      exact ⟨rfl, rfl⟩
  · rw [show errA ws o i = 30 by simp [errA, hasB, q1]]
    go_enter Try.func76, Try.ntmps76
    go_wp2
    go_ret
    exact ⟨rfl, rfl⟩
theorem refSpend_any (h : MemAt 86 w b g ws o c) : Calls Try.prog 77 #[.pointer (some ⟨b, 0, none⟩)] w fun e w' => e = .returned (.tuple #[]) ∧ MemAt 86 w' b g ws false (up c) ∧ Chg b g w w' := by
  have h1 := h.cell1
  have h2 := h.cell2
  have hb := h.ltB
  have hf1 := h.freeB 1
  have hf2 := h.freeB 2
  have HM := Lib.hid h
  clear h
  go_enter Try.func77, Try.ntmps77
  go_wp2
  go_end0
  exact ⟨rfl, (HM.out.setO false).setC _, ((Chg.refl _ _ _).setB _ _).setB _ _⟩
theorem refOpen_any (h : MemAt 86 w b g ws o c) : Calls Try.prog 46 #[.pointer (some ⟨b, 0, none⟩)] w fun e w' => e = .returned (.tuple #[]) ∧ MemAt 86 w' b g ws true c ∧ Chg b g w w' := by
  have h0 := h.cell1
  have hb := h.ltB
  have hf := h.freeB 1
  go_enter Try.func46, Try.ntmps46
  go_wp2
  go_end0
  exact ⟨rfl, h.setO true, (Chg.refl _ _ _).setB _ _⟩
theorem refCount_any (h : MemAt 86 w b g ws o c) : Calls Try.prog 26 #[.pointer (some ⟨b, 0, none⟩)] w fun e w' => e = .returned (.int .i64 c) ∧ w' = w := by
  have h0 := h.cell2
  have hb := h.ltB
  go_enter Try.func26, Try.ntmps26
  go_wp2
  go_ret
  exact ⟨rfl, rfl⟩
theorem refPeek_any (h : MemAt 86 w b g ws o c) (i : Int) : Calls Try.prog 78 #[.pointer (some ⟨b, 0, none⟩), .int .i64 i] w fun e w' => e = .returned (.tuple #[.int .u64 (if hasB ws i then wordAt ws i else 0), .int .i64 (errP ws i)]) ∧ w' = w := by
  have h0 := h.cell0
  have hb := h.ltB
  have hg := h.ltG
  unfold errP
  cases hh : hasB ws i
  · have q := hasB_neg hh
    clear h hh
    by_cases q1 : 0 ≤ i
    · have q2 : ¬ i < (ws.length : Int) := fun z => q ⟨q1, z⟩
      clear q
      go_enter Try.func78, Try.ntmps78
      go_wp2
      go_ret2
      exact ⟨rfl, rfl⟩
    · clear q
      go_enter Try.func78, Try.ntmps78
      go_wp2
      go_ret2
      exact ⟨rfl, rfl⟩
  · obtain ⟨k, rfl, hk⟩ := hasB_pos hh
    have hx := h.word hk
    have hk2 : (k : Int) < (ws.length : Int) := by omega
    have hv : wordAt ws k = ws[k] := by simp [wordAt, hk]
    rw [hv]
    generalize ws[k] = x at *
    clear hv h hh
    go_enter Try.func78, Try.ntmps78
    go_wp2
    go_ret2
    exact ⟨rfl, rfl⟩
theorem refPoke_any (h : MemAt 86 w b g ws o c) (i v : Int) : Calls Try.prog 49 #[.pointer (some ⟨b, 0, none⟩), .int .i64 i, .int .u64 v] w fun e w' => e = .returned (.int .i64 (errP ws i)) ∧ MemAt 86 w' b g (poked ws i v) o c ∧ Chg b g w w' := by
  have h0 := h.cell0
  have hb := h.ltB
  have hg := h.ltG
  have HM := Lib.hid h
  unfold errP poked
  cases hh : hasB ws i
  · have q := hasB_neg hh
    clear h hh
    by_cases q1 : 0 ≤ i
    · have q2 : ¬ i < (ws.length : Int) := fun z => q ⟨q1, z⟩
      clear q
      go_enter Try.func49, Try.ntmps49
      go_wp2
      go_ret
      exact ⟨rfl, HM.out, Chg.refl _ _ _⟩
    · clear q
      go_enter Try.func49, Try.ntmps49
      go_wp2
      go_ret
      exact ⟨rfl, HM.out, Chg.refl _ _ _⟩
  · obtain ⟨k, rfl, hk⟩ := hasB_pos hh
    have hx := h.word hk
    have hf := h.freeG k
    have hk2 : (k : Int) < (ws.length : Int) := by omega
    clear h hh
    go_enter Try.func49, Try.ntmps49
    go_wp2
    go_ret
    exact ⟨rfl, HM.out.setW k v, (Chg.refl _ _ _).setG _ _⟩
theorem errA_ne {o : Bool} {i : Int} (h : (hasB ws i && o) = false) : ¬ errA ws o i = 0 := by
  unfold errA
  cases q : hasB ws i <;> cases o <;> simp [q] at h ⊢
theorem refLoad_any (h : MemAt 86 w b g ws o c) (i : Int) : Calls Try.prog 67 #[.pointer (some ⟨b, 0, none⟩), .int .i64 i] w fun e w' => e = .returned (.tuple #[.int .u64 (toldW ws o i), .int .i64 (errA ws o i)]) ∧ MemAt 86 w' b g ws (spentO ws o i) (spentC ws o i c) ∧ Chg b g w w' := by
  have HM := Lib.hid h
  cases hh : hasB ws i && o
  · have hne := errA_ne hh
    have e1 : toldW ws o i = 0 := by simp [toldW, hh]
    have e2 : spentC ws o i c = c := by simp [spentC, hh]
    have e3 : spentO ws o i = o := by unfold spentO; cases q : hasB ws i <;> cases o <;> simp_all
    rw [e1, e2, e3]
    generalize hx : errA ws o i = x at *
    have HX := Lib.hid hx
    clear h hh e1 e2 e3 hx
    go_enter Try.func67, Try.ntmps67
    go_wp2_with (go_at_call 76; refine (refMay_any HM.out _).mono ?_; rw [HX.out]; rintro e w' ⟨rfl, hw⟩; subst w')
    go_ret2
    exact ⟨rfl, HM.out, Chg.refl _ _ _⟩
  · obtain ⟨h1, h2⟩ : hasB ws i = true ∧ o = true := by simpa using hh
    subst h2
    obtain ⟨k, rfl, hk⟩ := hasB_pos h1
    have e0 : errA ws true k = 0 := by simp [errA, h1]
    have e1 : toldW ws true k = ws[k] := by simp [toldW, h1, wordAt, hk]
    have e2 : spentC ws true k c = up c := by simp [spentC, h1]
    have e3 : spentO ws true k = false := by simp [spentO, h1]
    have HMay := Lib.hid (refMay_any h k)
    have HSp := Lib.hid (refSpend_any h)
    rw [e0] at HMay
    rw [e0, e1, e2, e3]
    have hk2 : (k : Int) < (ws.length : Int) := by omega
    clear h hh h1 e0 e1 e2 e3
    go_enter Try.func67, Try.ntmps67
    go_wp2_with (first | (go_at_call 76; refine HMay.out.mono ?_; rintro e w' ⟨rfl, hw⟩; subst w') | (go_at_call 77; refine HSp.out.mono ?_; rintro e w1 ⟨rfl, hm, hc⟩; have q0 := hm.cell0; have q1 := hm.ltB; have q2 := hm.ltG; have q3 := hm.word hk; have HM1 := Lib.hid hm; have HC1 := Lib.hid hc; clear hm hc))
    go_ret2
    exact ⟨rfl, HM1.out, HC1.out⟩
theorem refStore_any (h : MemAt 86 w b g ws o c) (i v : Int) : Calls Try.prog 66 #[.pointer (some ⟨b, 0, none⟩), .int .i64 i, .int .u64 v] w fun e w' => e = .returned (.int .i64 (errA ws o i)) ∧ MemAt 86 w' b g (stored ws o i v) (spentO ws o i) (spentC ws o i c) ∧ Chg b g w w' := by
  have HM := Lib.hid h
  cases hh : hasB ws i && o
  · have hne := errA_ne hh
    have e1 : stored ws o i v = ws := by simp [stored, hh]
    have e2 : spentC ws o i c = c := by simp [spentC, hh]
    have e3 : spentO ws o i = o := by unfold spentO; cases q : hasB ws i <;> cases o <;> simp_all
    rw [e1, e2, e3]
    generalize hx : errA ws o i = x at *
    have HX := Lib.hid hx
    clear h hh e1 e2 e3 hx
    go_enter Try.func66, Try.ntmps66
    go_wp2_with (go_at_call 76; refine (refMay_any HM.out _).mono ?_; rw [HX.out]; rintro e w' ⟨rfl, hw⟩; subst w')
    go_ret
    exact ⟨rfl, HM.out, Chg.refl _ _ _⟩
  · obtain ⟨h1, h2⟩ : hasB ws i = true ∧ o = true := by simpa using hh
    subst h2
    obtain ⟨k, rfl, hk⟩ := hasB_pos h1
    have e0 : errA ws true k = 0 := by simp [errA, h1]
    have e1 : stored ws true k v = ws.set k v := by simp [stored, h1]
    have e2 : spentC ws true k c = up c := by simp [spentC, h1]
    have e3 : spentO ws true k = false := by simp [spentO, h1]
    have HMay := Lib.hid (refMay_any h k)
    have HSp := Lib.hid (refSpend_any h)
    rw [e0] at HMay
    rw [e0, e1, e2, e3]
    have hk2 : (k : Int) < (ws.length : Int) := by omega
    clear h hh h1 e0 e1 e2 e3
    go_enter Try.func66, Try.ntmps66
    go_wp2_with (first | (go_at_call 76; refine HMay.out.mono ?_; rintro e w' ⟨rfl, hw⟩; subst w') | (go_at_call 77; refine HSp.out.mono ?_; rintro e w1 ⟨rfl, hm, hc⟩; have q0 := hm.cell0; have q1 := hm.ltB; have q2 := hm.ltG; have q3 := hm.word hk; have q4 := hm.freeG k; have HM1 := Lib.hid hm; have HC1 := Lib.hid hc; clear hm hc))
    go_ret
    exact ⟨rfl, HM1.out.setW k v, HC1.out.setG _ _⟩
end
theorem refNew_none (n : Int) (hn : ¬ (1 ≤ n ∧ n ≤ 4096)) (w : World) : Calls Try.prog 18 #[.int .i64 n] w fun e w' => e = .returned (.tuple #[.pointer none, .int .i64 1]) ∧ w' = w := by
  by_cases h1 : n < 1
  · clear hn
    go_enter Try.func18, Try.ntmps18
    go_wp2
    go_ret2
    exact ⟨rfl, rfl⟩
  · have h2 : 4096 < n := by omega
    clear hn
    go_enter Try.func18, Try.ntmps18
    go_wp2
    go_ret2
    exact ⟨rfl, rfl⟩
set_option maxRecDepth 100000 in
theorem refNew_some (n : Nat) (h1 : 1 ≤ n) (h2 : n ≤ 4096) (w : World) : Calls Try.prog 18 #[.int .i64 n] w fun e w' => e = .returned (.tuple #[.pointer (some ⟨w.heap.size + 1, 0, none⟩), .int .i64 0]) ∧ MemAt 86 w' (w.heap.size + 1) w.heap.size (List.replicate n 0) false 0 ∧ Below w.heap.size w w' := by
  have hmk := make_words n h2
  have q1 : ¬ (n : Int) < 1 := by omega
  have q2 : ¬ (4096 : Int) < (n : Int) := by omega
  have HN := Lib.hid (And.intro h1 h2)
  clear h1 h2
  go_enter Try.func18, Try.ntmps18
  go_wp2
  go_ret2
  refine ⟨rfl, ⟨?_, ?_, by omega, by rw [List.length_replicate]; exact HN.out.1, by rw [List.length_replicate]; exact HN.out.2⟩, ((Below.refl _ _).alloc (Nat.le_refl _) _).alloc (by simp) _⟩
  · rw [List.length_replicate]
    have := heap_alloc_new (w.alloc (.cells (u64s (List.replicate n 0)).toArray 30)) (.cells #[.slice (some ⟨w.heap.size, 0, none⟩) n n, .bool false, .int .i64 0] 86)
    simpa using this
  · rw [Below.heap_alloc _ _ _ (by simp)]
    exact heap_alloc_new _ _
end Go.Proofs.Ytdfmmolhfacahaa
