import Derived.Test.YtffgnfbfifooeabDoorT19
namespace Go.Proofs.YtffgnfbfifooeabDoor
open Go.ChangeShapes Go.WideShapes Go.ChangeAt Go.RowKit Num
attribute [local go_sem] frombits_run bits_run

theorem Lst.len {B : Nat} {w : World} {v : Value} {l : List (List UInt8)} (h : Lst B w v l) : ∃ ao c, v = .slice ao l.length c := by
  rcases h.shape with ⟨e, e2⟩ | ⟨g, cap, e, _⟩
  · rw [e2]; exact ⟨none, 0, e⟩
  · exact ⟨_, _, e⟩
/-! some texts -/
theorem print_whole {b : Nat} {z : Int} (h1 : nan b = false) (h2 : rung b < 4845873199050653696) (h3 : b ≠ 9223372036854775808) (hw : wholeB b = true) (hz : intB b = z) : printT b = Lib.itoa z := by
  have hr : ∀ c, rung c = 9218868437227405312 → b ≠ c := fun c hc e => by rw [e, hc] at h2; omega
  unfold printT
  rw [h1, if_neg Bool.false_ne_true, if_neg (hr _ (by decide)), if_neg (hr _ (by decide)), if_neg h3, hw, if_pos rfl, hz]
theorem print_m12 : printT 13846317054350589952 = [45, 49, 50] := by
  rw [print_whole (z := -12) (by decide) (by decide) (by decide) (by decide +kernel) (by decide +kernel)]
  show Lib.itoa (-((12 : Nat) : Int)) = _
  rw [Lib.itoa_neg 12 (by decide), Lib.decDigits_two (by decide) (by decide)]
  rfl
theorem print_7 : printT 4619567317775286272 = [55] := by
  rw [print_whole (z := 7) (by decide) (by decide) (by decide) (by decide +kernel) (by decide +kernel)]
  show Lib.itoa ((7 : Nat) : Int) = _
  rw [Lib.itoa_nonneg, Lib.decDigits_one (by decide)]
  rfl
theorem print_1 : printT 4607182418800017408 = [49] := by
  rw [print_whole (z := 1) (by decide) (by decide) (by decide) (by decide +kernel) (by decide +kernel)]
  show Lib.itoa ((1 : Nat) : Int) = _
  rw [Lib.itoa_nonneg, Lib.decDigits_one (by decide)]
  rfl
theorem parse_m12 : parseR [45, 49, 50] = (13846317054350589952, 0) := by
  have := parseR_print (b := 13846317054350589952) (by decide)
  rw [print_m12] at this
  rw [this]
  rfl
theorem parse_01 : parseR [48, 49] = (0, 20) := by
  have e : gT [48, 49] = 4607182418800017408 := by decide +kernel
  unfold parseR
  rw [e, print_1]
  rfl
theorem words_ab : wordsOf [32, 97, 32, 98] = [[97], [98]] := by decide
theorem lines_a : linesOf [97, 10] = [[97]] := by decide
theorem name_a : nameB [97] = true := by decide

/-! the contracts, wherever one is -/
theorem parse_at {w w1 : World} (hT : Tabs w) (hb : Below w.heap.size w w1) (s : ByteArray) (hs : s.size ≤ 281474976710656) : Calls Tryd.prog 12 #[.string s] w1 fun e w' => e = .returned (.tuple #[.float .f64 (parseR s.data.toList).1, .int .i64 (parseR s.data.toList).2]) ∧ Below w.heap.size w w' :=
  (parse_any s w1 (hT.on hb) hs).mono fun _ _ ⟨he, hw⟩ => ⟨he, below_chain hb hw⟩
theorem print_at {w w1 : World} (hT : Tabs w) (hb : Below w.heap.size w w1) (b : Nat) (h : b < 18446744073709551616) : Calls Tryd.prog 13 #[.float .f64 b] w1 fun e w' => e = .returned (.string ⟨(printT b).toArray⟩) ∧ Below w.heap.size w w' :=
  (print_any b w1 h (hT.on hb)).mono fun _ _ ⟨he, hw⟩ => ⟨he, below_chain hb hw⟩
theorem split_at {w w1 : World} (hb : Below w.heap.size w w1) (s : ByteArray) (h : s.size ≤ 1024) : Calls Tryd.prog 17 #[.string s] w1 fun e w' => ∃ ao c, e = .returned (.tuple #[.slice ao (wordsOf s.data.toList).length c, .int .i64 0]) ∧ Below w.heap.size w w' ∧ Lst w1.heap.size w' (.slice ao (wordsOf s.data.toList).length c) (wordsOf s.data.toList) :=
  (split_any s w1 h).mono fun _ _ ⟨v, he, hl, hw⟩ => by
    obtain ⟨ao, c, e⟩ := hl.len
    rw [e] at he hl
    exact ⟨ao, c, he, below_chain hb hw, hl⟩
theorem lines_at {w w1 : World} (hb : Below w.heap.size w w1) (s : ByteArray) (h : s.size ≤ 8796093022206) : Calls Tryd.prog 9 #[.string s] w1 fun e w' => ∃ ao c, e = .returned (.slice ao (linesOf s.data.toList).length c) ∧ Below w.heap.size w w' ∧ Lst w1.heap.size w' (.slice ao (linesOf s.data.toList).length c) (linesOf s.data.toList) :=
  (lines_any s w1 h).mono fun _ _ ⟨v, he, hl, hw⟩ => by
    obtain ⟨ao, c, e⟩ := hl.len
    rw [e] at he hl
    exact ⟨ao, c, he, below_chain hb hw, hl⟩
theorem name_at {w w1 : World} (hb : Below w.heap.size w w1) (s : ByteArray) : Calls Tryd.prog 19 #[.string s] w1 fun e w' => e = .returned (.bool (nameB s.data.toList)) ∧ Below w.heap.size w w' :=
  (name_any s w1).mono fun _ _ ⟨he, hw⟩ => ⟨he, below_chain hb hw⟩

set_option maxHeartbeats 2000000 in
set_option maxRecDepth 100000 in
theorem live_any (w : World) (hT : Tabs w) : Calls Tryd.prog 7 #[] w fun e w' => e = .returned (.bool true) ∧ Below w.heap.size w w' := by
  have HT := Lib.hid hT
  have h0 : Below w.heap.size w w := Below.refl _ _
  have p1 := parse_m12
  have p2 := parse_01
  have p3 := print_7
  have p4 := words_ab
  have p5 := lines_a
  have p6 := name_a
  have p7 : (FloatKind.f64.format.order 13846317054350589952 13846317054350589952 == some .eq) = true := by rw [self_num (by decide)]; rfl
  clear hT
  go_enter Tryd.func7, Tryd.ntmps7
  go_wp2_with (first
    | (go_at_call 12; refine (parse_at HT.out (by assumption) _ (by decide)).mono ?_; rintro e w' ⟨rfl, hb⟩)
    | (go_at_call 13; refine (print_at HT.out (by assumption) _ (by decide)).mono ?_; rintro e w' ⟨rfl, hb⟩)
    | (go_at_call 17; refine (split_at (by assumption) _ (by decide)).mono ?_; rintro e w' ⟨ao, c, rfl, hb, hl⟩)
    | (go_at_call 9; refine (lines_at (by assumption) _ (by decide)).mono ?_; rintro e w' ⟨ao, c, rfl, hb, hl⟩)
    | (go_at_call 19; refine (name_at (by assumption) _).mono ?_; rintro e w' ⟨rfl, hb⟩))
  go_ret
  exact ⟨rfl, hb⟩
theorem live_at {w w1 : World} (hT : Tabs w) (hb : Below w.heap.size w w1) : Calls Tryd.prog 7 #[] w1 fun e w' => e = .returned (.bool true) ∧ Below w.heap.size w w' :=
  (live_any w1 (hT.on hb)).mono fun _ _ ⟨he, hw⟩ => ⟨he, below_chain hb hw⟩
theorem raw2_any (n : Nat) (w : World) : Calls Tryd.prog 11 #[.int .u64 n] w fun e w' => e = .returned (.float .f64 n) ∧ w' = w := by
  go_enter Tryd.func11, Tryd.ntmps11
  go_wp2
  go_ret
  exact ⟨rfl, rfl⟩
theorem refSplit_at {w w1 : World} (hb : Below w.heap.size w w1) (s : ByteArray) (h : s.size ≤ 1024) : Calls Tryd.prog 18 #[.string s] w1 fun e w' => ∃ ao c, e = .returned (.tuple #[.slice ao (wordsOf s.data.toList).length c, .int .i64 0]) ∧ Below w.heap.size w w' ∧ Below w1.heap.size w1 w' ∧ Lst w1.heap.size w' (.slice ao (wordsOf s.data.toList).length c) (wordsOf s.data.toList) :=
  (refSplit_any s w1 h).mono fun _ _ ⟨v, he, hl, hw⟩ => by
    obtain ⟨ao, c, e⟩ := hl.len
    rw [e] at he hl
    exact ⟨ao, c, he, below_chain hb hw, hw, hl⟩
theorem refLines_at {w w1 : World} (hb : Below w.heap.size w w1) (s : ByteArray) (h : s.size ≤ 8796093022206) : Calls Tryd.prog 10 #[.string s] w1 fun e w' => ∃ ao c, e = .returned (.slice ao (linesOf s.data.toList).length c) ∧ Below w.heap.size w w' ∧ Below w1.heap.size w1 w' ∧ Lst w1.heap.size w' (.slice ao (linesOf s.data.toList).length c) (linesOf s.data.toList) :=
  (refLines_any s w1 h).mono fun _ _ ⟨v, he, hl, hw⟩ => by
    obtain ⟨ao, c, e⟩ := hl.len
    rw [e] at he hl
    exact ⟨ao, c, he, below_chain hb hw, hw, hl⟩
theorem cut_len (p : UInt8 → Bool) (f : List (List UInt8) → List UInt8 → List (List UInt8)) (hf : ∀ acc cur, (f acc cur).length ≤ acc.length + 1) : ∀ (l : List UInt8) (acc : List (List UInt8)) (cur : List UInt8), (cutA p f l acc cur).length ≤ acc.length + l.length + 1
  | [], acc, cur => by
    have := pushW_length acc cur
    show (pushW acc cur).length ≤ _
    simp
    omega
  | c :: l, acc, cur => by
    show (if p c then cutA p f l (f acc cur) [] else cutA p f l acc (cur ++ [c])).length ≤ _
    rw [List.length_cons]
    split
    · have h1 := cut_len p f hf l (f acc cur) []
      have h2 := hf acc cur
      omega
    · have h1 := cut_len p f hf l acc (cur ++ [c])
      omega
end Go.Proofs.YtffgnfbfifooeabDoor
