import Derived.Test.YtffgnfbfifooeabDoorT14
namespace Go.Proofs.YtffgnfbfifooeabDoor
open Go.ChangeShapes Go.WideShapes Go.ChangeAt Go.RowKit Num

/-! names -/
def isL (c : UInt8) : Bool := decide (97 ≤ c.toNat ∧ c.toNat ≤ 122)
def isDg (c : UInt8) : Bool := decide (48 ≤ c.toNat ∧ c.toNat ≤ 57)
def okAt (l : List UInt8) (j : Nat) : Bool := isL (l.getD j 0) || (decide (j ≠ 0) && (isDg (l.getD j 0) || decide ((l.getD j 0).toNat = 45)))
def nameB (l : List UInt8) : Bool := decide (1 ≤ l.length ∧ l.length ≤ 16 ∧ ∀ j, j < l.length → okAt l j = true)
theorem nameB_false {l : List UInt8} {j : Nat} (hj : j < l.length) (h : okAt l j = false) : nameB l = false := by
  unfold nameB
  rw [decide_eq_false_iff_not]
  intro q
  rw [q.2.2 j hj] at h
  cases h
theorem nameB_len {l : List UInt8} (h : l.length = 0 ∨ 16 < l.length) : nameB l = false := by
  unfold nameB
  rw [decide_eq_false_iff_not]
  intro q
  omega
theorem nameB_true {l : List UInt8} (h1 : 1 ≤ l.length) (h2 : l.length ≤ 16) (h : ∀ j, j < l.length → okAt l j = true) : nameB l = true := by
  unfold nameB
  rw [decide_eq_true_eq]
  exact ⟨h1, h2, h⟩

def letR (r : Int) : Bool := decide (97 ≤ r ∧ r ≤ 122)
def digR (r : Int) : Bool := decide (48 ≤ r ∧ r ≤ 57)
theorem isLetter_any (r : Int) (w : World) : Calls Tryd.prog 32 #[.int .i32 r] w fun e w' => e = .returned (.bool (letR r)) ∧ w' = w := by
  have hl : letR r = decide (97 ≤ r ∧ r ≤ 122) := rfl
  by_cases h1 : 97 ≤ r
  · by_cases h2 : r ≤ 122
    · rw [hl, decide_eq_true ⟨h1, h2⟩]
      clear hl
      go_enter Tryd.func32, Tryd.ntmps32
      go_wp2
      go_ret
      exact ⟨rfl, rfl⟩
    · rw [hl, decide_eq_false (fun q => h2 q.2)]
      clear hl
      go_enter Tryd.func32, Tryd.ntmps32
      go_wp2
      go_ret
      exact ⟨rfl, rfl⟩
  · rw [hl, decide_eq_false (fun q => h1 q.1)]
    clear hl
    go_enter Tryd.func32, Tryd.ntmps32
    go_wp2
    go_ret
    exact ⟨rfl, rfl⟩
theorem isDigit_any (r : Int) (w : World) : Calls Tryd.prog 33 #[.int .i32 r] w fun e w' => e = .returned (.bool (digR r)) ∧ w' = w := by
  have hl : digR r = decide (48 ≤ r ∧ r ≤ 57) := rfl
  by_cases h1 : 48 ≤ r
  · by_cases h2 : r ≤ 57
    · rw [hl, decide_eq_true ⟨h1, h2⟩]
      clear hl
      go_enter Tryd.func33, Tryd.ntmps33
      go_wp2
      go_ret
      exact ⟨rfl, rfl⟩
    · rw [hl, decide_eq_false (fun q => h2 q.2)]
      clear hl
      go_enter Tryd.func33, Tryd.ntmps33
      go_wp2
      go_ret
      exact ⟨rfl, rfl⟩
  · rw [hl, decide_eq_false (fun q => h1 q.1)]
    clear hl
    go_enter Tryd.func33, Tryd.ntmps33
    go_wp2
    go_ret
    exact ⟨rfl, rfl⟩
/-- what a range hands over next: the rune, how far it goes; below 128 the byte itself -/
theorem next_rune (s : ByteArray) (pos : Nat) (h : pos < s.size) : ∃ (R wd : Nat), Utf8.decode s pos = (R, wd) ∧ 1 ≤ wd ∧ pos + wd ≤ s.size ∧
    (((s.data.toList.getD pos 0).toNat < 128 ∧ R = (s.data.toList.getD pos 0).toNat ∧ wd = 1) ∨ (128 ≤ R ∧ ∀ j, j < wd → 128 ≤ (s.data.toList.getD (pos + j) 0).toNat)) := by
  by_cases ha : (s.data.toList.getD pos 0).toNat < 128
  · have e : s[pos]'h = s.data.toList.getD pos 0 := Lib.getD_at s pos h
    have := decode_ascii s pos h (by rw [e]; exact ha)
    rw [e] at this
    exact ⟨_, _, this, by omega, by omega, .inl ⟨ha, rfl, rfl⟩⟩
  · obtain ⟨h1, h2, h3, h4⟩ := decode_wide s pos h (by omega)
    exact ⟨_, _, rfl, h2, h3, .inr ⟨h1, h4⟩⟩

set_option maxHeartbeats 4000000 in
set_option maxRecDepth 100000 in
theorem name_any (s : ByteArray) (w : World) : Calls Tryd.prog 19 #[.string s] w fun e w' => e = .returned (.bool (nameB s.data.toList)) ∧ Below w.heap.size w w' := by
  have hl := size_list s
  by_cases h0 : s.size = 0
  · rw [nameB_len (.inl (by omega))]
    have h0' : ((s.size : Int) == 0) = true := by rw [h0]; rfl
    clear hl h0
    go_enter Tryd.func19, Tryd.ntmps19
    go_wp2
    go_ret
    exact ⟨rfl, Below.refl _ _⟩
  have h0' : ((s.size : Int) == 0) = false := by rw [beq_eq_false_iff_ne]; omega
  by_cases h16 : 16 < s.size
  · rw [nameB_len (.inr (by omega))]
    have h16' : (16 : Int) < (s.size : Int) := by omega
    clear hl h0
    go_enter Tryd.func19, Tryd.ntmps19
    go_wp2
    go_ret
    exact ⟨rfl, Below.refl _ _⟩
  have h16' : ¬ (16 : Int) < (s.size : Int) := by omega
  obtain ⟨g, hg⟩ : ∃ g, g = nameB s.data.toList := ⟨_, rfl⟩
  rw [← hg]
  have HG := Lib.hid hg
  have HLN := Lib.hid hl
  clear hg hl
  go_enter Tryd.func19, Tryd.ntmps19
  go_wp2
  go_loopw [3] (fun _ wr => ∃ pos : Nat, pos ≤ s.size ∧ wr.heap[w.heap.size]? = some (.stringIter s pos) ∧ Hid (Below w.heap.size w wr) ∧ Hid (∀ j, j < pos → okAt s.data.toList j = true)) (fun _ wr => s.size - wr.iterPos w.heap.size)
  case atStart => exact ⟨0, Nat.zero_le _, World.iter_heap w s 0, Below.alloc (Below.refl _ _) (Nat.le_refl _) _, fun j hj => absurd hj (by omega)⟩
  case round =>
    obtain ⟨pos, hps, hk, HB, HO⟩ := hrel
    by_cases hp : pos < s.size
    · obtain ⟨R, wd, hdec, hw1, hw2, hcase⟩ := next_rune s pos hp
      have hnext : ∀ ty, (Instr.next (.pointer (some ⟨w.heap.size, 0, none⟩)) true ty).run Tryd.prog wr = .ok (.tuple #[.bool true, .int .i64 pos, .int .i32 R]) (wr.iterAt w.heap.size s (pos + wd)) := fun ty => by
        have := Lib.run_next_any_at (P := Tryd.prog) wr w.heap.size s pos ty hk hp
        rw [hdec] at this
        exact this
      have hk1 := Lib.iterAt_heap wr w.heap.size s pos (pos + wd) hk
      have HB1 : Hid (Below w.heap.size w (wr.iterAt w.heap.size s (pos + wd))) := Lib.below_iterAt HB.out (Nat.le_refl _) s (pos + wd)
      have hmu : wr.iterPos w.heap.size = pos := by simp [World.iterPos, hk]
      generalize wr.iterAt w.heap.size s (pos + wd) = W1 at hnext hk1 HB1
      have hmu2 : W1.iterPos w.heap.size = pos + wd := by simp [World.iterPos, hk1]
      have HMU := Lib.hid hmu
      have HMU2 := Lib.hid hmu2
      have HK1 := Lib.hid hk1
      clear hmu hmu2 hk1 hk hdec HB
      have HOK : Hid (okAt s.data.toList pos = (letR R || (decide (pos ≠ 0) && (digR R || decide (R = 45)))) ∧ (okAt s.data.toList pos = true → wd = 1)) := by
        unfold okAt isL isDg letR digR
        rcases hcase with ⟨h1, h2, h3⟩ | ⟨h1, h2⟩
        · rw [h2]
          refine ⟨?_, fun _ => h3⟩
          congr 1
          · rw [decide_eq_decide]; omega
          · congr 2
            rw [decide_eq_decide]; omega
        · have h3 := h2 0 (by omega)
          rw [Nat.add_zero] at h3
          generalize (s.data.toList.getD pos 0).toNat = cc at *
          have e1 : decide (97 ≤ cc ∧ cc ≤ 122) = false := decide_eq_false (by omega)
          have e2 : decide (48 ≤ cc ∧ cc ≤ 57) = false := decide_eq_false (by omega)
          have e3 : decide (cc = 45) = false := decide_eq_false (by omega)
          have f1 : decide (97 ≤ (R : Int) ∧ (R : Int) ≤ 122) = false := decide_eq_false (by omega)
          have f2 : decide (48 ≤ (R : Int) ∧ (R : Int) ≤ 57) = false := decide_eq_false (by omega)
          have f3 : decide (R = 45) = false := decide_eq_false (by omega)
          rw [e1, e2, e3, f1, f2, f3]
          exact ⟨rfl, fun q => by simp at q⟩
      clear hcase
      have HFIN : Hid (okAt s.data.toList pos = true → (∃ p : Nat, p ≤ s.size ∧ W1.heap[w.heap.size]? = some (.stringIter s p) ∧ Hid (Below w.heap.size w W1) ∧ Hid (∀ j, j < p → okAt s.data.toList j = true)) ∧ s.size - W1.iterPos w.heap.size < s.size - wr.iterPos w.heap.size) := fun q => by
        have hwd := HOK.out.2 q
        refine ⟨⟨pos + wd, hw2, HK1.out, HB1, fun j hj => ?_⟩, by rw [HMU.out, HMU2.out]; omega⟩
        by_cases hj2 : j < pos
        · exact HO.out j hj2
        · rw [show j = pos by omega]; exact q
      cases hL : letR R
      · by_cases hp0 : pos = 0
        · have hf : g = false := by
            rw [HG.out]
            refine nameB_false (j := pos) (by rw [← HLN.out]; exact hp) ?_
            rw [HOK.out.1, hL, hp0]
            rfl
          subst hf
          subst hp0
          clear HG HOK HFIN
          go_wp2_with (go_at_call 32; refine (isLetter_any _ _).mono ?_; rintro e w' ⟨rfl, hw⟩; subst w')
          go_ret
          exact ⟨rfl, HB1.out⟩
        · have hp0' : ((pos : Int) == 0) = false := by rw [beq_eq_false_iff_ne]; omega
          cases hD : digR R
          · by_cases h45 : R = 45
            · have h45' : ((R : Int) != 45) = false := by rw [h45]; rfl
              have HT : Hid (okAt s.data.toList pos = true) := by
                show okAt s.data.toList pos = true
                rw [HOK.out.1, hL, hD, decide_eq_true h45, decide_eq_true hp0]; rfl
              clear h45 hp0
              go_wp2_with (first | (go_at_call 32; refine (isLetter_any _ _).mono ?_; rintro e w' ⟨rfl, hw⟩; subst w') | (go_at_call 33; refine (isDigit_any _ _).mono ?_; rintro e w' ⟨rfl, hw⟩; subst w'))
              exact HFIN.out HT.out
            · have h45' : ((R : Int) != 45) = true := by rw [bne_iff_ne]; omega
              have hf : g = false := by
                rw [HG.out]
                refine nameB_false (j := pos) (by rw [← HLN.out]; exact hp) ?_
                rw [HOK.out.1, hL, hD, decide_eq_false h45]
                simp
              subst hf
              clear HG HOK HFIN h45 hp0
              go_wp2_with (first | (go_at_call 32; refine (isLetter_any _ _).mono ?_; rintro e w' ⟨rfl, hw⟩; subst w') | (go_at_call 33; refine (isDigit_any _ _).mono ?_; rintro e w' ⟨rfl, hw⟩; subst w'))
              go_ret
              exact ⟨rfl, HB1.out⟩
          · have HT : Hid (okAt s.data.toList pos = true) := by
              show okAt s.data.toList pos = true
              rw [HOK.out.1, hL, hD, decide_eq_true hp0]; rfl
            clear hp0
            go_wp2_with (first | (go_at_call 32; refine (isLetter_any _ _).mono ?_; rintro e w' ⟨rfl, hw⟩; subst w') | (go_at_call 33; refine (isDigit_any _ _).mono ?_; rintro e w' ⟨rfl, hw⟩; subst w'))
            exact HFIN.out HT.out
      · have HT : Hid (okAt s.data.toList pos = true) := by
          show okAt s.data.toList pos = true
          rw [HOK.out.1, hL]; rfl
        go_wp2_with (first | (go_at_call 32; refine (isLetter_any _ _).mono ?_; rintro e w' ⟨rfl, hw⟩; subst w') | (go_at_call 33; refine (isDigit_any _ _).mono ?_; rintro e w' ⟨rfl, hw⟩; subst w'))
        exact HFIN.out HT.out
    · have hnext : ∀ ty, (Instr.next (.pointer (some ⟨w.heap.size, 0, none⟩)) true ty).run Tryd.prog wr = .ok (.tuple #[.bool false]) wr := fun ty => Lib.run_next_end_at (P := Tryd.prog) wr w.heap.size s pos ty hk hp
      have hf : g = true := by
        rw [HG.out]
        exact nameB_true (by rw [← HLN.out]; omega) (by rw [← HLN.out]; omega) (fun j hj => HO.out j (by rw [← HLN.out] at hj; omega))
      subst hf
      clear HG hk
      go_wp2
      go_ret
      exact ⟨rfl, HB.out⟩

end Go.Proofs.YtffgnfbfifooeabDoor
