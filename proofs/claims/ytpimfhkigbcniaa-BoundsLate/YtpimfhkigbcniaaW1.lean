import Derived.Test.YtpimfhkigbcniaaM9
import Derived.Test.YtpimfhkigbcniaaZB
import Derived.RangeFuncNested
import Derived.RangeFuncBound
import Derived.RangeFuncCalls
import Derived.RangeFuncLeaves
import Derived.Shelf.Abstract
import Derived.Shelf.RegionOpen
import Derived.WalkKit
import Derived.OwnWalkIn
import Derived.TacticsInMore
import Derived.LoopNIn
import Derived.LoopIn
namespace Go.Proofs.Ytpimfhkigbcniaa.Bo
open Go.ChangeShapes Go.WideShapes Go.ChangeAt Go.RowKit Go.Shelf Md En

/-! layer 18: bounds; Reader and Writer of both -/
abbrev cfgV (a b c e : Int) : Value := .agg #[.int .i64 a, .int .i64 b, .int .i64 c, .int .i64 e]
abbrev okV (n : Int) : Value := .tuple #[.int .i64 n, .int .i64 0]
abbrev noV (k : Int) : Value := .tuple #[.int .i64 0, .int .i64 k]
def rdN (c : Int) : Int := c * 4 + 6
def wrN (b c e : Int) : Int := c + rdN c + b + 3 * e + 8
theorem bcells4 {W w1 : World} {x : Nat} {v0 v1 v2 v3 : Value} {T : TypeId} (hb : Below W.heap.size W w1) (h : W.heap[x]? = some (.cells #[v0, v1, v2, v3] T (0, 0))) : w1.heap[x]? = some (.cells #[v0, v1, v2, v3] T (0, 0)) := (hb.block x (lt_of_block h)).trans h
section
variable (a b c e : Int) (w : World)
set_option maxRecDepth 100000 in
theorem reader_no (hc : cfgB a b c e = false) : Calls Try.prog 7 #[cfgV a b c e] w fun r w' => r = .returned (noV 1) ∧ Below w.heap.size w w' := by
  have HP := fun W => place_any a b c e W
  rw [hc, if_neg Bool.false_ne_true] at HP
  replace HP := Lib.hid HP
  clear hc
  go_enter Try.func7, Try.ntmps7
  go_wp2_with (go_at_call 13; refine (HP.out _).mono ?_; rintro r w1 ⟨rfl, hb⟩; have HB := Lib.hid hb; clear hb)
  refine bodyPost_ret (v := noV 1) (by simp [results, Try.results7, go_sem]) rfl ?_
  exact ⟨rfl, (below_chain ((Below.refl _ _).alloc (Nat.le_refl _) _) HB.out).alloc (by have := HB.out.size; simp at this; omega) _⟩
set_option maxRecDepth 100000 in
theorem reader_yes (hc : cfgB a b c e = true) : Calls Try.prog 7 #[cfgV a b c e] w fun r w' => r = .returned (okV (rdN c)) ∧ Below w.heap.size w w' := by
  have HP := fun W => place_any a b c e W
  rw [hc, if_pos rfl] at HP
  replace HP := Lib.hid HP
  obtain ⟨⟨a1, a2⟩, ⟨b1, b2⟩, ⟨c1, c2⟩, ⟨e1, e2⟩⟩ := cfgB_iff.1 hc
  clear hc
  go_enter Try.func7, Try.ntmps7
  go_wp2_with (go_at_call 13; refine (HP.out _).mono ?_; rintro r w1 ⟨rfl, hb⟩; have HB := Lib.hid hb; obtain ⟨q0, q1, q2, q3, q4⟩ := cells4 (bcells4 hb (heap_alloc_new w _)); clear hb)
  refine bodyPost_ret (v := okV (rdN c)) (by simp [results, Try.results7, go_sem, rdN]) rfl ?_
  exact ⟨rfl, (below_chain ((Below.refl _ _).alloc (Nat.le_refl _) _) HB.out).alloc (by have := HB.out.size; simp at this; omega) _⟩
set_option maxRecDepth 100000 in
theorem writer_no (hc : cfgB a b c e = false) : Calls Try.prog 9 #[cfgV a b c e] w fun r w' => r = .returned (noV 1) ∧ Below w.heap.size w w' := by
  have HP := Lib.hid (fun W => reader_no a b c e W hc)
  clear hc
  go_enter Try.func9, Try.ntmps9
  go_wp2_with (go_at_call 7; refine (HP.out _).mono ?_; rintro r w1 ⟨rfl, hb⟩; have HB := Lib.hid hb; clear hb)
  refine bodyPost_ret (v := noV 1) (by simp [results, Try.results9, go_sem]) rfl ?_
  exact ⟨rfl, below_chain ((Below.refl _ _).alloc (Nat.le_refl _) _) HB.out⟩
set_option maxRecDepth 100000 in
theorem writer_yes (hc : cfgB a b c e = true) : Calls Try.prog 9 #[cfgV a b c e] w fun r w' => r = .returned (okV (wrN b c e)) ∧ Below w.heap.size w w' := by
  have HP := Lib.hid (fun W => reader_yes a b c e W hc)
  obtain ⟨⟨a1, a2⟩, ⟨b1, b2⟩, ⟨c1, c2⟩, ⟨e1, e2⟩⟩ := cfgB_iff.1 hc
  clear hc
  have hr : rdN c = c * 4 + 6 := rfl
  have h1 : 10 ≤ rdN c := by omega
  have h2 : rdN c ≤ 4102 := by omega
  go_enter Try.func9, Try.ntmps9
  go_wp2_with (go_at_call 7; refine (HP.out _).mono ?_; rintro r w1 ⟨rfl, hb⟩; have HB := Lib.hid hb; obtain ⟨q0, q1, q2, q3, q4⟩ := cells4 (bcells4 hb (heap_alloc_new w _)); clear hb)
  refine bodyPost_ret (v := okV (wrN b c e)) (by simp [results, Try.results9, go_sem, wrN, rdN]) rfl ?_
  exact ⟨rfl, below_chain ((Below.refl _ _).alloc (Nat.le_refl _) _) HB.out⟩
set_option maxRecDepth 100000 in
theorem rreader_no (hc : cfgB a b c e = false) : Calls Try.prog 8 #[cfgV a b c e] w fun r w' => r = .returned (noV 1) ∧ Below w.heap.size w w' := by
  have HP := fun W => refPlace_any a b c e W
  rw [hc, if_neg Bool.false_ne_true] at HP
  replace HP := Lib.hid HP
  clear hc
  go_enter Try.func8, Try.ntmps8
  go_wp2_with (go_at_call 14; refine (HP.out _).mono ?_; rintro r w1 ⟨rfl, hb⟩; have HB := Lib.hid hb; clear hb)
  refine bodyPost_ret (v := noV 1) (by simp [results, Try.results8, go_sem]) rfl ?_
  exact ⟨rfl, (below_chain ((Below.refl _ _).alloc (Nat.le_refl _) _) HB.out).alloc (by have := HB.out.size; simp at this; omega) _⟩
set_option maxRecDepth 100000 in
theorem rreader_yes (hc : cfgB a b c e = true) : Calls Try.prog 8 #[cfgV a b c e] w fun r w' => r = .returned (okV (rdN c)) ∧ Below w.heap.size w w' := by
  have HP := fun W => refPlace_any a b c e W
  rw [hc, if_pos rfl] at HP
  replace HP := Lib.hid HP
  obtain ⟨⟨a1, a2⟩, ⟨b1, b2⟩, ⟨c1, c2⟩, ⟨e1, e2⟩⟩ := cfgB_iff.1 hc
  clear hc
  go_enter Try.func8, Try.ntmps8
  go_wp2_with (go_at_call 14; refine (HP.out _).mono ?_; rintro r w1 ⟨rfl, hb⟩; have HB := Lib.hid hb; obtain ⟨q0, q1, q2, q3, q4⟩ := cells4 (bcells4 hb (heap_alloc_new w _)); clear hb)
  refine bodyPost_ret (v := okV (rdN c)) (by simp [results, Try.results8, go_sem, rdN, Int.mul_comm]) rfl ?_
  exact ⟨rfl, (below_chain ((Below.refl _ _).alloc (Nat.le_refl _) _) HB.out).alloc (by have := HB.out.size; simp at this; omega) _⟩
set_option maxRecDepth 100000 in
theorem rwriter_no (hc : cfgB a b c e = false) : Calls Try.prog 10 #[cfgV a b c e] w fun r w' => r = .returned (noV 1) ∧ Below w.heap.size w w' := by
  have HP := Lib.hid (fun W => rreader_no a b c e W hc)
  clear hc
  go_enter Try.func10, Try.ntmps10
  go_wp2_with (go_at_call 8; refine (HP.out _).mono ?_; rintro r w1 ⟨rfl, hb⟩; have HB := Lib.hid hb; clear hb)
  refine bodyPost_ret (v := noV 1) (by simp [results, Try.results10, go_sem]) rfl ?_
  exact ⟨rfl, below_chain ((Below.refl _ _).alloc (Nat.le_refl _) _) HB.out⟩
set_option maxRecDepth 100000 in
theorem rwriter_yes (hc : cfgB a b c e = true) : Calls Try.prog 10 #[cfgV a b c e] w fun r w' => r = .returned (okV (wrN b c e)) ∧ Below w.heap.size w w' := by
  have HP := Lib.hid (fun W => rreader_yes a b c e W hc)
  obtain ⟨⟨a1, a2⟩, ⟨b1, b2⟩, ⟨c1, c2⟩, ⟨e1, e2⟩⟩ := cfgB_iff.1 hc
  clear hc
  have hr : rdN c = c * 4 + 6 := rfl
  have h1 : 10 ≤ rdN c := by omega
  have h2 : rdN c ≤ 4102 := by omega
  go_enter Try.func10, Try.ntmps10
  go_wp2_with (go_at_call 8; refine (HP.out _).mono ?_; rintro r w1 ⟨rfl, hb⟩; have HB := Lib.hid hb; obtain ⟨q0, q1, q2, q3, q4⟩ := cells4 (bcells4 hb (heap_alloc_new w _)); clear hb)
  refine bodyPost_ret (v := okV (wrN b c e)) (by simp [results, Try.results10, go_sem, wrN, rdN]) rfl ?_
  exact ⟨rfl, below_chain ((Below.refl _ _).alloc (Nat.le_refl _) _) HB.out⟩
end
end Go.Proofs.Ytpimfhkigbcniaa.Bo
