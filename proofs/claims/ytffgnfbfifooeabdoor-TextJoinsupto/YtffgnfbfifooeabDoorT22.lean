import Derived.Test.YtffgnfbfifooeabDoorT20
namespace Go.Proofs.YtffgnfbfifooeabDoor
open Go.ChangeShapes Go.WideShapes Go.ChangeAt Go.RowKit Num

/-! words or none -/
def splitW (l : List UInt8) : List (List UInt8) := if l.length ≤ 1024 then wordsOf l else []
def splitE (l : List UInt8) : Int := if l.length ≤ 1024 then 0 else 2
theorem split_gen {w w1 : World} (hb : Below w.heap.size w w1) (s : ByteArray) : Calls Tryd.prog 17 #[.string s] w1 fun e w' => ∃ ao c, e = .returned (.tuple #[.slice ao (splitW s.data.toList).length c, .int .i64 (splitE s.data.toList)]) ∧ Below w.heap.size w w' ∧ Below w1.heap.size w1 w' ∧ Lst w1.heap.size w' (.slice ao (splitW s.data.toList).length c) (splitW s.data.toList) := by
  unfold splitW splitE
  rw [← size_list]
  by_cases h : s.size ≤ 1024
  · rw [if_pos h, if_pos h]
    refine (split_any s w1 h).mono fun _ _ ⟨v, he, hl, hw⟩ => ?_
    obtain ⟨ao, c, e⟩ := hl.len
    rw [e] at he hl
    exact ⟨ao, c, he, below_chain hb hw, hw, hl⟩
  · rw [if_neg h, if_neg h]
    refine (split_long s w1 (by omega)).mono fun _ _ ⟨he, hw⟩ => ?_
    subst hw
    exact ⟨none, 0, he, hb, Below.refl _ _, Lst.nil _ _⟩
theorem refSplit_gen {w w1 : World} (hb : Below w.heap.size w w1) (s : ByteArray) : Calls Tryd.prog 18 #[.string s] w1 fun e w' => ∃ ao c, e = .returned (.tuple #[.slice ao (splitW s.data.toList).length c, .int .i64 (splitE s.data.toList)]) ∧ Below w.heap.size w w' ∧ Below w1.heap.size w1 w' ∧ Lst w1.heap.size w' (.slice ao (splitW s.data.toList).length c) (splitW s.data.toList) := by
  unfold splitW splitE
  rw [← size_list]
  by_cases h : s.size ≤ 1024
  · rw [if_pos h, if_pos h]
    refine (refSplit_any s w1 h).mono fun _ _ ⟨v, he, hl, hw⟩ => ?_
    obtain ⟨ao, c, e⟩ := hl.len
    rw [e] at he hl
    exact ⟨ao, c, he, below_chain hb hw, hw, hl⟩
  · rw [if_neg h, if_neg h]
    refine (refSplit_long s w1 (by omega)).mono fun _ _ ⟨he, hw⟩ => ?_
    subst hw
    exact ⟨none, 0, he, hb, Below.refl _ _, Lst.nil _ _⟩
end Go.Proofs.YtffgnfbfifooeabDoor
