/- CodeParses -/
import Derived.Test.YtlnobfmbnnfbdaaGreatDoorCJ2
import Derived.Test.YtlnobfmbnnfbdaaGreatDoorCL0
import Derived.Test.YtlnobfmbnnfbdaaGreatDoorC9
namespace Go.Proofs.YtlnobfmbnnfbdaaGreatDoor
open Go.ChangeShapes Go.WideShapes Go.ChangeAt Go.RowKit Num

theorem same_own (t : Int) (c : List Ins) : sameB t t c c = true := by
  unfold sameB
  simp only [decide_true, Bool.true_and, List.all_eq_true, List.mem_range]
  intro k _
  unfold sameI
  simp
/-- what either Parse tells, in one form -/
abbrev ToldR (w w' : World) (t : Int) (c : List Ins) (x ln : Int) (e : Ending) : Prop := (∃ ao cap, e = .returned (.tuple #[.agg #[.int .i64 t, .slice ao c.length cap], .int .i64 x, .int .i64 ln]) ∧ CodeRow w.heap.size w' (.slice ao c.length cap) c) ∧ Below w.heap.size w w'
theorem told_of {w w' : World} {l : List UInt8} {e : Ending} (h : ParseR w w' l e ∧ Below w.heap.size w w') : match parseP l with
    | .error (x, ln) => ToldR w w' 0 [] x ln e
    | .ok (t, c) => ToldR w w' t c 0 0 e := by
  obtain ⟨h, hb⟩ := h
  unfold ParseR at h
  cases hp : parseP l with
  | error q =>
    obtain ⟨x, ln⟩ := q
    rw [hp] at h
    exact ⟨⟨none, 0, h, row_nil _ _⟩, hb⟩
  | ok q =>
    obtain ⟨t, c⟩ := q
    rw [hp] at h
    exact ⟨h, hb⟩
theorem told_both (l : List UInt8) : ∃ (t : Int) (c : List Ins) (x ln : Int), c.length ≤ 1024 ∧ ∀ (w w' : World) (e : Ending), ParseR w w' l e ∧ Below w.heap.size w w' → ToldR w w' t c x ln e := by
  cases hp : parseP l with
  | error q =>
    obtain ⟨x, ln⟩ := q
    refine ⟨0, [], x, ln, by decide, fun w w' e h => ?_⟩
    have := told_of h
    rw [hp] at this
    exact this
  | ok q =>
    obtain ⟨t, c⟩ := q
    refine ⟨t, c, 0, 0, (check_parts.1 (print_parse hp).2.1).2.2.1, fun w w' e h => ?_⟩
    have := told_of h
    rw [hp] at this
    exact this
theorem pb_new (w : World) (t : Int) (v : Value) : PBox (w.alloc (.cells #[.int .i64 t, v] 24)) w.heap.size t v := heap_alloc_new w _
section
variable {W : World} {a : ByteArray}
set_option maxHeartbeats 4000000 in
set_option maxRecDepth 100000 in
theorem parses_walk {t : Int} {c : List Ins} {x ln : Int}
    (HL : Hid (∀ w, Below W.heap.size W w → Calls Tryz.prog 9 #[] w fun e w' => e = .returned (.bool true) ∧ Below w.heap.size w w'))
    (HPA : Hid (∀ w, Below W.heap.size W w → Calls Tryz.prog 20 #[.string a] w fun e w' => ToldR w w' t c x ln e))
    (HPR : Hid (∀ w, Calls Tryz.prog 21 #[.string a] w fun e w' => ToldR w w' t c x ln e))
    (HSM : Hid (∀ w ao bo cap cap', CodeAt w ao c → CodeAt w bo c → Calls Tryz.prog 14 #[.agg #[.int .i64 t, .slice ao c.length cap], .agg #[.int .i64 t, .slice bo c.length cap']] w fun e w' => e = .returned (.bool true) ∧ Below w.heap.size w w'))
    : Calls Tryz.prog 6 #[.string a] W fun e W2 => e = .returned (.bool true) ∧ Below W.heap.size W W2 := by
  go_enter Tryz.func6, Tryz.ntmps6
  go_wp2_with (first
    | (go_at_call 14; refine (HSM.out _ ao bo _ _ (CP3.out.on (box5 _ _)) (CR3.out.on (box5 _ _))).mono ?_; rintro e w4 ⟨rfl, hb⟩; have HB4 := Lib.hid (chain5 HB3.out (chain5 (box5 _ _) hb)); clear hb)
    | (go_at_call 21; refine (HPR.out _).mono ?_; rintro e w3 ⟨⟨bo, cap', rfl, hr⟩, hb⟩; have CR3 := Lib.hid hr.codeAt; have CP3 := Lib.hid (CP2.out.on (chain5 (box5 _ _) hb)); have HB3 := Lib.hid (chain5 HB2.out (chain5 (box5 _ _) hb)); have xp := (pb_new w2 t (.slice ao c.length cap)).on hb; obtain ⟨p0, p1, p2⟩ := cells2_of xp; clear hb hr xp)
    | (go_at_call 20; refine (HPA.out _ HB1.out).mono ?_; rintro e w2 ⟨⟨ao, cap, rfl, hr⟩, hb⟩; have CP2 := Lib.hid hr.codeAt; have HB2 := Lib.hid (chain5 HB1.out hb); clear hb hr)
    | (go_at_call 9; refine (HL.out _ (Below.refl _ _)).mono ?_; rintro e w1 ⟨rfl, hb⟩; have HB1 := Lib.hid hb; clear hb))
  go_ret
  exact ⟨by simp, HB4.out⟩
theorem parses_any (hT : Tabs5 W) : Calls Tryz.prog 6 #[.string a] W fun e W2 => e = .returned (.bool true) ∧ Below W.heap.size W W2 := by
  obtain ⟨t, c, x, ln, hc, hb⟩ := told_both a.data.toList
  refine parses_walk (t := t) (c := c) (x := x) (ln := ln) (Lib.hid fun w h => live5_any w (hT.on h)) (Lib.hid fun w h => ?_) (Lib.hid fun w => ?_) (Lib.hid fun w ao bo cap cap' h1 h2 => ?_)
  · exact (code_parse a w (hT.on h)).mono fun e w' q => hb w w' e q
  · exact (refParse5_any a w).mono fun e w' q => hb w w' e q
  · have := refSame5_any t t cap cap' h1 h2 (by omega) (by omega)
    rw [same_own] at this
    exact this
end
end Go.Proofs.YtlnobfmbnnfbdaaGreatDoor
