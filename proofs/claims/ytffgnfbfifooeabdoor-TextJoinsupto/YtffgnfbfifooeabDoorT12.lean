import Derived.Test.YtffgnfbfifooeabDoorT11
namespace Go.Proofs.YtffgnfbfifooeabDoor
open Go.ChangeShapes Go.WideShapes Go.ChangeAt Go.RowKit Num
attribute [local go_sem] frombits_run bits_run

/-! Parse, by a guess -/
def parseR (l : List UInt8) : Nat × Int := if printT (gT l) = l then (gT l, 0) else (0, 20)
theorem itoa_length {z : Int} (h0 : -9007199254740992 < z) (h1 : z < 9007199254740992) : (Lib.itoa z).length ≤ 21 := Lib.itoa_length_le z (by omega) (by omega)
theorem printT_length {b : Nat} : (printT b).length ≤ 30 := by
  unfold printT
  split
  · decide
  · split
    · decide
    · split
      · decide
      · split
        · decide
        · split
          · rename_i hw
            have := intB_lt (wholeB_rung hw)
            have := itoa_length this.1 this.2
            omega
          · rw [List.length_cons, hexN_length]; decide

set_option maxHeartbeats 4000000 in
set_option maxRecDepth 100000 in
theorem parse_any (s : ByteArray) (w : World) (hT : Tabs w) (hs : s.size ≤ 281474976710656) :
    Calls Tryd.prog 12 #[.string s] w fun e w' => e = .returned (.tuple #[.float .f64 (parseR s.data.toList).1, .int .i64 (parseR s.data.toList).2]) ∧ Below w.heap.size w w' := by
  have HC := Lib.hid (guess_any s w hT hs)
  have HT := Lib.hid hT
  have HL := Lib.hid (gT_lt s.data.toList)
  by_cases h : printT (gT s.data.toList) = s.data.toList
  · have e : parseR s.data.toList = (gT s.data.toList, 0) := by unfold parseR; rw [if_pos h]
    rw [e]
    have hq : (printT (gT s.data.toList) == s.toList) = true := by rw [beq_iff_eq, ByteArray.toList_eq]; exact h
    clear e h hT hs
    generalize gT s.data.toList = x at *
    go_enter Tryd.func12, Tryd.ntmps12
    go_wp2_with (first | (go_at_call 22; refine HC.out.mono ?_; rintro e w1 ⟨rfl, hw⟩) | (go_at_call 13; refine (print_any _ _ HL.out (HT.out.on hw)).mono ?_; rintro e w2 ⟨rfl, hw2⟩))
    go_ret2
    exact ⟨rfl, below_chain hw hw2⟩
  · have e : parseR s.data.toList = (0, 20) := by unfold parseR; rw [if_neg h]
    rw [e]
    have hq : (printT (gT s.data.toList) == s.toList) = false := by rw [beq_eq_false_iff_ne, ByteArray.toList_eq]; exact h
    clear e h hT hs
    generalize gT s.data.toList = x at *
    go_enter Tryd.func12, Tryd.ntmps12
    go_wp2_with (first | (go_at_call 22; refine HC.out.mono ?_; rintro e w1 ⟨rfl, hw⟩) | (go_at_call 13; refine (print_any _ _ HL.out (HT.out.on hw)).mono ?_; rintro e w2 ⟨rfl, hw2⟩))
    go_ret2
    exact ⟨rfl, below_chain hw hw2⟩

/-! the document's guess -/
def spN : Nat → Nat
  | 0 => 9221120237041090560
  | 1 => 9218868437227405312
  | 2 => 18442240474082181120
  | _ => 9223372036854775808
def spT (i : Nat) : List UInt8 := printT (spN i)
def grT (l : List UInt8) : Nat :=
  if l.length = 17 ∧ l.head? = some 120 then fixB (readR 16 l.tail).1 else if l.head? = some 45 then floatOfInt .f64 (readR 10 l.tail).1 ^^^ 9223372036854775808 else floatOfInt .f64 (readR 10 l).1
def gR (l : List UInt8) : Nat := if l = spT 0 then spN 0 else if l = spT 1 then spN 1 else if l = spT 2 then spN 2 else if l = spT 3 then spN 3 else grT l
theorem gR_hit (l : List UInt8) (j : Nat) (hj : j < 4) (hn : ∀ i, i < j → l ≠ spT i) (h : l = spT j) : gR l = spN j := by
  unfold gR
  match j, hj with
  | 0, _ => rw [if_pos h]
  | 1, _ => rw [if_neg (hn 0 (by decide)), if_pos h]
  | 2, _ => rw [if_neg (hn 0 (by decide)), if_neg (hn 1 (by decide)), if_pos h]
  | 3, _ => rw [if_neg (hn 0 (by decide)), if_neg (hn 1 (by decide)), if_neg (hn 2 (by decide)), if_pos h]
theorem gR_rest (l : List UInt8) (hn : ∀ i, i < 4 → l ≠ spT i) : gR l = grT l := by
  unfold gR
  rw [if_neg (hn 0 (by decide)), if_neg (hn 1 (by decide)), if_neg (hn 2 (by decide)), if_neg (hn 3 (by decide))]
theorem spN_fix : ∀ i, fixB (spN i) = spN i
  | 0 => by decide
  | 1 => by decide
  | 2 => by decide
  | _ + 3 => by show fixB 9223372036854775808 = 9223372036854775808; decide
theorem spN_lt : ∀ i, spN i < 18446744073709551616
  | 0 => by decide
  | 1 => by decide
  | 2 => by decide
  | _ + 3 => by show 9223372036854775808 < 18446744073709551616; decide

end Go.Proofs.YtffgnfbfifooeabDoor
