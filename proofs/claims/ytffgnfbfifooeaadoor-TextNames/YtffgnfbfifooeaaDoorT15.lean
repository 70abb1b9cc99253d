import Derived.Test.YtffgnfbfifooeaaDoorT14
namespace Go.Proofs.YtffgnfbfifooeaaDoor
open Go.ChangeShapes Go.WideShapes Go.ChangeAt Go.RowKit Num

/-! names -/
def isL (c : UInt8) : Bool := decide (97 ≤ c.toNat ∧ c.toNat ≤ 122)
def isDg (c : UInt8) : Bool := decide (48 ≤ c.toNat ∧ c.toNat ≤ 57)
def okAt (l : List UInt8) (j : Nat) : Bool := isL (l.getD j 0) || (decide (j ≠ 0) && (isDg (l.getD j 0) || decide ((l.getD j 0).toNat = 45)))
def nameB (l : List UInt8) : Bool := decide (1 ≤ l.length ∧ l.length ≤ 16 ∧ ∀ j, j < l.length → okAt l j = true)
theorem nameB_false {l : List UInt8} {j : Nat} (hj : j < l.length) (h : okAt l j = false) : nameB l = false := by
  unfold nameB
  rw [decide_eq_false_iff_not]
  intro q
  rw [q.2.2 j hj] at h
  cases h
theorem nameB_len {l : List UInt8} (h : l.length = 0 ∨ 16 < l.length) : nameB l = false := by
  unfold nameB
  rw [decide_eq_false_iff_not]
  intro q
  omega
theorem nameB_true {l : List UInt8} (h1 : 1 ≤ l.length) (h2 : l.length ≤ 16) (h : ∀ j, j < l.length → okAt l j = true) : nameB l = true := by
  unfold nameB
  rw [decide_eq_true_eq]
  exact ⟨h1, h2, h⟩

def letR (r : Int) : Bool := decide (97 ≤ r ∧ r ≤ 122)
def digR (r : Int) : Bool := decide (48 ≤ r ∧ r ≤ 57)
theorem isLetter_any (r : Int) (w : World) : Calls Tryd.prog 40 #[.int .i32 r] w fun e w' => e = .returned (.bool (letR r)) ∧ w' = w := by
  have hl : letR r = decide (97 ≤ r ∧ r ≤ 122) := rfl
  by_cases h1 : 97 ≤ r
  · by_cases h2 : r ≤ 122
    · rw [hl, decide_eq_true ⟨h1, h2⟩]
      clear hl
      go_enter Tryd.func40, Tryd.ntmps40
      go_wp2
      go_ret
      exact ⟨rfl, rfl⟩
    · rw [hl, decide_eq_false (fun q => h2 q.2)]
      clear hl
      go_enter Tryd.func40, Tryd.ntmps40
      go_wp2
      go_ret
      exact ⟨rfl, rfl⟩
  · rw [hl, decide_eq_false (fun q => h1 q.1)]
    clear hl
    go_enter Tryd.func40, Tryd.ntmps40
    go_wp2
    go_ret
    exact ⟨rfl, rfl⟩
theorem isDigit_any (r : Int) (w : World) : Calls Tryd.prog 41 #[.int .i32 r] w fun e w' => e = .returned (.bool (digR r)) ∧ w' = w := by
  have hl : digR r = decide (48 ≤ r ∧ r ≤ 57) := rfl
  by_cases h1 : 48 ≤ r
  · by_cases h2 : r ≤ 57
    · rw [hl, decide_eq_true ⟨h1, h2⟩]
      clear hl
      go_enter Tryd.func41, Tryd.ntmps41
      go_wp2
      go_ret
      exact ⟨rfl, rfl⟩
    · rw [hl, decide_eq_false (fun q => h2 q.2)]
      clear hl
      go_enter Tryd.func41, Tryd.ntmps41
      go_wp2
      go_ret
      exact ⟨rfl, rfl⟩
  · rw [hl, decide_eq_false (fun q => h1 q.1)]
    clear hl
    go_enter Tryd.func41, Tryd.ntmps41
    go_wp2
    go_ret
    exact ⟨rfl, rfl⟩
/-- what a range hands over next: the rune, how far it goes; below 128 the byte itself -/
theorem next_rune (s : ByteArray) (pos : Nat) (h : pos < s.size) : ∃ (R wd : Nat), Utf8.decode s pos = (R, wd) ∧ 1 ≤ wd ∧ pos + wd ≤ s.size ∧
    (((s.data.toList.getD pos 0).toNat < 128 ∧ R = (s.data.toList.getD pos 0).toNat ∧ wd = 1) ∨ (128 ≤ R ∧ ∀ j, j < wd → 128 ≤ (s.data.toList.getD (pos + j) 0).toNat)) := by
  by_cases ha : (s.data.toList.getD pos 0).toNat < 128
  · have e : s[pos]'h = s.data.toList.getD pos 0 := Lib.getD_at s pos h
    have := decode_ascii s pos h (by rw [e]; exact ha)
    rw [e] at this
    exact ⟨_, _, this, by omega, by omega, .inl ⟨ha, rfl, rfl⟩⟩
  · obtain ⟨h1, h2, h3, h4⟩ := decode_wide s pos h (by omega)
    exact ⟨_, _, rfl, h2, h3, .inr ⟨h1, h4⟩⟩

set_option maxHeartbeats 4000000 in
set_option maxRecDepth 100000 in
theorem name_any (s : ByteArray) (w : World) : Calls Tryd.prog 18 #[.string s] w fun e w' => e = .returned (.bool (nameB s.data.toList)) ∧ Below w.heap.size w w' := by
  have hl := size_list s
  by_cases h0 : s.size = 0
  · rw [nameB_len (.inl (by omega))]
    have h0' : ((s.size : Int) == 0) = true := by rw [h0]; rfl
    clear hl h0
    go_enter Tryd.func18, Tryd.ntmps18
    go_wp2
    go_ret
    exact ⟨rfl, Below.refl _ _⟩
  have h0' : ((s.size : Int) == 0) = false := by rw [beq_eq_false_iff_ne]; omega
  by_cases h16 : 16 < s.size
  · rw [nameB_len (.inr (by omega))]
    have h16' : (16 : Int) < (s.size : Int) := by omega
    clear hl h0
    go_enter Tryd.func18, Tryd.ntmps18
    go_wp2
    go_ret
    exact ⟨rfl, Below.refl _ _⟩
  have h16' : ¬ (16 : Int) < (s.size : Int) := by omega
  obtain ⟨g, hg⟩ : ∃ g, g = nameB s.data.toList := ⟨_, rfl⟩
  rw [← hg]
  have HG := Lib.hid hg
  have HLN := Lib.hid hl
  clear hg hl
  go_enter Tryd.func18, Tryd.ntmps18
  go_wp2
  go_loopw [3] (fun _ wr => ∃ pos : Nat, pos ≤ s.size ∧ wr.heap[w.heap.size]? = some (.stringIter s pos) ∧ Hid (Below w.heap.size w wr) ∧ Hid (∀ j, j < pos → okAt s.data.toList j = true)) (fun _ wr => s.size - wr.iterPos w.heap.size)
  case atStart => exact ⟨0, Nat.zero_le _, World.iter_heap w s 0, Below.alloc (Below.refl _ _) (Nat.le_refl _) _, fun j hj => absurd hj (by omega)⟩
  case round =>
    obtain ⟨pos, hps, hk, HB, HO⟩ := hrel
    by_cases hp : pos < s.size
    · obtain ⟨R, wd, hdec, hw1, hw2, hcase⟩ := next_rune s pos hp
      have hnext : ∀ ty, (Instr.next (.pointer (some ⟨w.heap.size, 0, none⟩)) true ty).run Tryd.prog wr = .ok (.tuple #[.bool true, .int .i64 pos, .int .i32 R]) (wr.iterAt w.heap.size s (pos + wd)) := fun ty => by
        have := Lib.run_next_any_at (P := Tryd.prog) wr w.heap.size s pos ty hk hp
        rw [hdec] at this
        exact this
      have hk1 := Lib.iterAt_heap wr w.heap.size s pos (pos + wd) hk
      have HB1 : Hid (Below w.heap.size w (wr.iterAt w.heap.size s (pos + wd))) := Lib.below_iterAt HB.out (Nat.le_refl _) s (pos + wd)
      have hmu : wr.iterPos w.heap.size = pos := by simp [World.iterPos, hk]
      generalize wr.iterAt w.heap.size s (pos + wd) = W1 at hnext hk1 HB1
      have hmu2 : W1.iterPos w.heap.size = pos + wd := by simp [World.iterPos, hk1]
      have HMU := Lib.hid hmu
      have HMU2 := Lib.hid hmu2
      have HK1 := Lib.hid hk1
      clear hmu hmu2 hk1 hk hdec HB
      have HOK : Hid (okAt s.data.toList pos = (letR R || (decide (pos ≠ 0) && (digR R || decide (R = 45)))) ∧ (okAt s.data.toList pos = true → wd = 1)) := by
        unfold okAt isL isDg letR digR
        rcases hcase with ⟨h1, h2, h3⟩ | ⟨h1, h2⟩
        · rw [h2]
          refine ⟨?_, fun _ => h3⟩
          congr 1
          · rw [decide_eq_decide]; omega
          · congr 2
            rw [decide_eq_decide]; omega
        · have h3 := h2 0 (by omega)
          rw [Nat.add_zero] at h3
          generalize (s.data.toList.getD pos 0).toNat = cc at *
          have e1 : decide (97 ≤ cc ∧ cc ≤ 122) = false := decide_eq_false (by omega)
          have e2 : decide (48 ≤ cc ∧ cc ≤ 57) = false := decide_eq_false (by omega)
          have e3 : decide (cc = 45) = false := decide_eq_false (by omega)
          have f1 : decide (97 ≤ (R : Int) ∧ (R : Int) ≤ 122) = false := decide_eq_false (by omega)
          have f2 : decide (48 ≤ (R : Int) ∧ (R : Int) ≤ 57) = false := decide_eq_false (by omega)
          have f3 : decide (R = 45) = false := decide_eq_false (by omega)
          rw [e1, e2, e3, f1, f2, f3]
          exact ⟨rfl, fun q => by simp at q⟩
      clear hcase
      have HFIN : Hid (okAt s.data.toList pos = true → (∃ p : Nat, p ≤ s.size ∧ W1.heap[w.heap.size]? = some (.stringIter s p) ∧ Hid (Below w.heap.size w W1) ∧ Hid (∀ j, j < p → okAt s.data.toList j = true)) ∧ s.size - W1.iterPos w.heap.size < s.size - wr.iterPos w.heap.size) := fun q => by
        have hwd := HOK.out.2 q
        refine ⟨⟨pos + wd, hw2, HK1.out, HB1, fun j hj => ?_⟩, by rw [HMU.out, HMU2.out]; omega⟩
        by_cases hj2 : j < pos
        · exact HO.out j hj2
        · rw [show j = pos by omega]; exact q
      cases hL : letR R
      · by_cases hp0 : pos = 0
        · have hf : g = false := by
            rw [HG.out]
            refine nameB_false (j := pos) (by rw [← HLN.out]; exact hp) ?_
            rw [HOK.out.1, hL, hp0]
            rfl
          subst hf
          subst hp0
          clear HG HOK HFIN
          go_wp2_with (go_at_call 40; refine (isLetter_any _ _).mono ?_; rintro e w' ⟨rfl, hw⟩; subst w')
          go_ret
          exact ⟨rfl, HB1.out⟩
        · have hp0' : ((pos : Int) == 0) = false := by rw [beq_eq_false_iff_ne]; omega
          cases hD : digR R
          · by_cases h45 : R = 45
            · have h45' : ((R : Int) != 45) = false := by rw [h45]; rfl
              have HT : Hid (okAt s.data.toList pos = true) := by
                show okAt s.data.toList pos = true
                rw [HOK.out.1, hL, hD, decide_eq_true h45, decide_eq_true hp0]; rfl
              clear h45 hp0
              go_wp2_with (first | (go_at_call 40; refine (isLetter_any _ _).mono ?_; rintro e w' ⟨rfl, hw⟩; subst w') | (go_at_call 41; refine (isDigit_any _ _).mono ?_; rintro e w' ⟨rfl, hw⟩; subst w'))
              exact HFIN.out HT.out
            · have h45' : ((R : Int) != 45) = true := by rw [bne_iff_ne]; omega
              have hf : g = false := by
                rw [HG.out]
                refine nameB_false (j := pos) (by rw [← HLN.out]; exact hp) ?_
                rw [HOK.out.1, hL, hD, decide_eq_false h45]
                simp
              subst hf
              clear HG HOK HFIN h45 hp0
              go_wp2_with (first | (go_at_call 40; refine (isLetter_any _ _).mono ?_; rintro e w' ⟨rfl, hw⟩; subst w') | (go_at_call 41; refine (isDigit_any _ _).mono ?_; rintro e w' ⟨rfl, hw⟩; subst w'))
              go_ret
              exact ⟨rfl, HB1.out⟩
          · have HT : Hid (okAt s.data.toList pos = true) := by
              show okAt s.data.toList pos = true
              rw [HOK.out.1, hL, hD, decide_eq_true hp0]; rfl
            clear hp0
            go_wp2_with (first | (go_at_call 40; refine (isLetter_any _ _).mono ?_; rintro e w' ⟨rfl, hw⟩; subst w') | (go_at_call 41; refine (isDigit_any _ _).mono ?_; rintro e w' ⟨rfl, hw⟩; subst w'))
            exact HFIN.out HT.out
      · have HT : Hid (okAt s.data.toList pos = true) := by
          show okAt s.data.toList pos = true
          rw [HOK.out.1, hL]; rfl
        go_wp2_with (first | (go_at_call 40; refine (isLetter_any _ _).mono ?_; rintro e w' ⟨rfl, hw⟩; subst w') | (go_at_call 41; refine (isDigit_any _ _).mono ?_; rintro e w' ⟨rfl, hw⟩; subst w'))
        exact HFIN.out HT.out
    · have hnext : ∀ ty, (Instr.next (.pointer (some ⟨w.heap.size, 0, none⟩)) true ty).run Tryd.prog wr = .ok (.tuple #[.bool false]) wr := fun ty => Lib.run_next_end_at (P := Tryd.prog) wr w.heap.size s pos ty hk hp
      have hf : g = true := by
        rw [HG.out]
        exact nameB_true (by rw [← HLN.out]; omega) (by rw [← HLN.out]; omega) (fun j hj => HO.out j (by rw [← HLN.out] at hj; omega))
      subst hf
      clear HG hk
      go_wp2
      go_ret
      exact ⟨rfl, HB.out⟩

set_option maxHeartbeats 4000000 in
set_option maxRecDepth 100000 in
theorem refName_any (s : ByteArray) (w : World) : Calls Tryd.prog 19 #[.string s] w fun e w' => e = .returned (.bool (nameB s.data.toList)) ∧ w' = w := by
  have hl := size_list s
  by_cases h0 : s.size = 0
  · rw [nameB_len (.inl (by omega))]
    have h0' : (s.size : Int) < 1 := by omega
    clear hl h0
    go_enter Tryd.func19, Tryd.ntmps19
    go_wp2
    go_ret
    exact ⟨rfl, rfl⟩
  have h0' : ¬ (s.size : Int) < 1 := by omega
  by_cases h16 : 16 < s.size
  · rw [nameB_len (.inr (by omega))]
    have h16' : (16 : Int) < (s.size : Int) := by omega
    clear hl h0
    go_enter Tryd.func19, Tryd.ntmps19
    go_wp2
    go_ret
    exact ⟨rfl, rfl⟩
  have h16' : ¬ (16 : Int) < (s.size : Int) := by omega
  obtain ⟨c0, hc0⟩ : ∃ c0, s.data.toList.head? = some c0 := by
    cases hd : s.data.toList with
    | nil => exact absurd (by rw [size_list, hd]; rfl) h0
    | cons a b => exact ⟨a, rfl⟩
  have hg0 : s.data.toList.getD 0 0 = c0 := by
    cases hd : s.data.toList with
    | nil => rw [hd] at hc0; cases hc0
    | cons a b => rw [hd] at hc0; exact Option.some.inj hc0
  have hix0 := head_index s c0 hc0
  have hcl : c0.toNat < 256 := c0.toNat_lt
  by_cases hL : 97 ≤ c0.toNat ∧ c0.toNat ≤ 122
  · have hL1 : ¬ (c0.toNat : Int) < 97 := by omega
    have hL2 : ¬ (122 : Int) < (c0.toNat : Int) := by omega
    obtain ⟨g, hg⟩ : ∃ g, g = nameB s.data.toList := ⟨_, rfl⟩
    rw [← hg]
    have HG := Lib.hid hg
    have HLN := Lib.hid hl
    have H0 : Hid (okAt s.data.toList 0 = true) := by
      show okAt s.data.toList 0 = true
      unfold okAt isL
      rw [hg0, decide_eq_true hL]
      rfl
    clear hg hl hg0 hc0 hL
    go_enter Tryd.func19, Tryd.ntmps19
    go_wp2
    go_loop [3] (fun vi => ∃ i : Int, vi = .int .i64 i ∧ 0 ≤ i ∧ i ≤ s.size ∧ Hid (∀ j : Nat, (j : Int) < i → okAt s.data.toList j = true)) (fun vi => s.size - (intOf vi).toNat)
    case atStart => exact ⟨0, rfl, by omega, by omega, fun j hj => absurd hj (by omega)⟩
    case round =>
      obtain ⟨i, rfl, hi0, hi1, HO⟩ := hrel
      by_cases hlt : i < s.size
      · obtain ⟨c, hc⟩ : ∃ c, c = s.data.toList.getD i.toNat 0 := ⟨_, rfl⟩
        have hix : (Instr.index 9 (.string s) (.int .i64 i)).run Tryd.prog w = .ok (.int .u8 (c.toNat : Int)) w := by
          rw [run_index_string w 9 s .i64 i Tryd.underlying9, dif_pos ⟨hi0, hlt⟩, Lib.getD_at s i.toNat (by omega), hc]
        have hc256 : c.toNat < 256 := c.toNat_lt
        have HC := Lib.hid hc
        clear hc
        have HNX : Hid (okAt s.data.toList i.toNat = true → (∃ i_1 : Int, Value.int .i64 (i + 1) = .int .i64 i_1 ∧ 0 ≤ i_1 ∧ i_1 ≤ s.size ∧ Hid (∀ j : Nat, (j : Int) < i_1 → okAt s.data.toList j = true)) ∧ s.size - (intOf (.int .i64 (i + 1))).toNat < s.size - (intOf (.int .i64 i)).toNat) := fun q => by
          refine ⟨⟨i + 1, rfl, by omega, by omega, fun j hj => ?_⟩, by simp [intOf]; omega⟩
          by_cases hj2 : (j : Int) < i
          · exact HO.out j hj2
          · rw [show j = i.toNat by omega]; exact q
        have HBAD : Hid (¬ (97 ≤ c.toNat ∧ c.toNat ≤ 122) → ¬ (48 ≤ c.toNat ∧ c.toNat ≤ 57) → c.toNat ≠ 45 → g = false) := fun q1 q2 q3 => by
          rw [HG.out]
          refine nameB_false (j := i.toNat) (by rw [← HLN.out]; omega) ?_
          unfold okAt isL isDg
          rw [← HC.out, decide_eq_false q1, decide_eq_false q2, decide_eq_false q3]
          simp
        have HGOOD : Hid ((97 ≤ c.toNat ∧ c.toNat ≤ 122) ∨ (48 ≤ c.toNat ∧ c.toNat ≤ 57) ∨ c.toNat = 45 → okAt s.data.toList i.toNat = true) := fun q => by
          by_cases hi00 : i = 0
          · rw [hi00]; exact H0.out
          · unfold okAt isL isDg
            rw [← HC.out]
            rcases q with q | q | q
            · rw [decide_eq_true q]; rfl
            · rw [decide_eq_true q, decide_eq_true (show i.toNat ≠ 0 by omega)]; simp
            · rw [decide_eq_true q, decide_eq_true (show i.toNat ≠ 0 by omega)]; simp
        by_cases h45 : c.toNat = 45
        · have hq : ((c.toNat : Int) != 45) = false := by rw [h45]; rfl
          have HX := Lib.hid (HNX.out (HGOOD.out (.inr (.inr h45))))
          clear HBAD HGOOD HNX h45
          go_wp2
          all_goals exact HX.out
        · have hq : ((c.toNat : Int) != 45) = true := by rw [bne_iff_ne]; omega
          by_cases hq1 : 97 ≤ c.toNat ∧ c.toNat ≤ 122
          · have HX := Lib.hid (HNX.out (HGOOD.out (.inl hq1)))
            have hq2 : ¬ (c.toNat : Int) < 97 := by omega
            have hq3 : ¬ (122 : Int) < (c.toNat : Int) := by omega
            clear HBAD HGOOD HNX h45 hq1
            go_wp2
            all_goals exact HX.out
          · by_cases hq2 : 48 ≤ c.toNat ∧ c.toNat ≤ 57
            · have HX := Lib.hid (HNX.out (HGOOD.out (.inr (.inl hq2))))
              have hq3 : ¬ (c.toNat : Int) < 48 := by omega
              have hq4 : ¬ (57 : Int) < (c.toNat : Int) := by omega
              have hq5 : (c.toNat : Int) < 97 := by omega
              clear HBAD HGOOD HNX h45 hq1 hq2
              go_wp2
              all_goals exact HX.out
            · have hf : g = false := HBAD.out hq1 hq2 h45
              subst hf
              have hr : (c.toNat : Int) < 48 ∨ ((57 : Int) < c.toNat ∧ (c.toNat : Int) < 97) ∨ (122 : Int) < c.toNat := by omega
              clear HBAD HGOOD HNX h45 HG hq1 hq2
              rcases hr with hr | hr | hr
              · go_wp2
                go_ret
                exact ⟨rfl, rfl⟩
              · obtain ⟨hr1, hr2⟩ := hr
                go_wp2
                go_ret
                exact ⟨rfl, rfl⟩
              · go_wp2
                go_ret
                exact ⟨rfl, rfl⟩
      · have hf : g = true := by
          rw [HG.out]
          exact nameB_true (by rw [← HLN.out]; omega) (by rw [← HLN.out]; omega) (fun j hj => HO.out j (by rw [← HLN.out] at hj; omega))
        subst hf
        clear HG
        go_wp2
        go_ret
        exact ⟨rfl, rfl⟩
  · have hf : nameB s.data.toList = false := by
      refine nameB_false (j := 0) (by omega) ?_
      unfold okAt isL
      rw [hg0, decide_eq_false hL]
      simp
    rw [hf]
    have hr : (c0.toNat : Int) < 97 ∨ (¬ (c0.toNat : Int) < 97 ∧ (122 : Int) < c0.toNat) := by omega
    clear hf hL hl hg0 hc0
    rcases hr with hr | ⟨hr1, hr2⟩
    · go_enter Tryd.func19, Tryd.ntmps19
      go_wp2
      go_ret
      exact ⟨rfl, rfl⟩
    · go_enter Tryd.func19, Tryd.ntmps19
      go_wp2
      go_ret
      exact ⟨rfl, rfl⟩
end Go.Proofs.YtffgnfbfifooeaaDoor
