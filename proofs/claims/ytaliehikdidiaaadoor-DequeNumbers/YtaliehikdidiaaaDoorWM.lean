/- stage 22 (deque): DequeNumbers -/
import Derived.Test.YtaliehikdidiaaaDoorWL
namespace Go.Proofs.YtaliehikdidiaaaDoor.Dq
open Go.ChangeShapes Go.WideShapes Go.ChangeAt Go.RowKit Num Go.Maps As
open Go.ChangeMaps Go.MapKept
attribute [local go_sem] run_store_float frombits_run bits_run

set_option maxHeartbeats 1000000 in
set_option maxRecDepth 100000 in
theorem numbers_any (w : World) (hT : Shaped5 w) : Calls Tryd.prog 3 #[] w fun e w' => e = .returned (.bool true) ∧ Below w.heap.size w w' := by
  have H1 : Hid (∀ w : World, Calls Tryd.prog 4 #[.int .i64 0, .int .i64 2] w fun e w' => e = .returned (.tuple #[.agg #[.int .i64 0, .slice none 0 0, .int .i64 0, .slice none 0 0, .int .i64 0, .slice none 0 0, .int .i64 0, .slice none 0 0, .int .i64 0, .slice none 0 0, .int .i64 0, .slice none 0 0, .int .i64 0, .slice none 0 0], .int .i64 200]) ∧ Below w.heap.size w w') := fun w => make_no (by decide) (by decide) (by decide)
  have H2 : Hid (∀ u : World, Below w.heap.size w u → Calls Tryd.prog 4 #[.int .i64 253, .int .i64 3] u fun e w' => ∃ q, e = .returned (.tuple #[.agg #[.int .i64 2, .slice (q 0).p (q 0).n (q 0).c, .int .i64 2, .slice (q 1).p (q 1).n (q 1).c, .int .i64 2, .slice (q 2).p (q 2).n (q 2).c, .int .i64 2, .slice (q 3).p (q 3).n (q 3).c, .int .i64 1, .slice (q 4).p (q 4).n (q 4).c, .int .i64 1, .slice (q 5).p (q 5).n (q 5).c, .int .i64 1, .slice (q 6).p (q 6).n (q 6).c], .int .i64 0]) ∧ Hid (DqAt w' 253 (roomV 3) q ∧ Below u.heap.size u w')) := fun u k => make_yes (hT.on k) (by decide) (by decide) (by decide) (by decide)
  have H3 : Hid (∀ w : World, Calls Tryd.prog 5 #[.int .i64 256] w fun e w' => e = .returned (.int .i64 16) ∧ w' = w) := fun w => room_any 256 (by decide) w
  have H4 : Hid (∀ w : World, Calls Tryd.prog 5 #[.int .i64 3] w fun e w' => e = .returned (.int .i64 1) ∧ w' = w) := fun w => room_any 3 (by decide) w
  clear hT
  go_enter Tryd.func3, Tryd.ntmps3
  go_wp2_with (first
    | (go_at_call 4; refine (H1.out _).mono ?_; rintro e u1 ⟨rfl, k1⟩; have K := Lib.hid k1; clear k1 H1)
    | (go_at_call 4; refine (H2.out _ (K.out.trans ((bl1 _ _).mono K.out.size))).mono ?_; rintro e u2 ⟨q, rfl, k2⟩; replace K := Lib.hid ((K.out.trans ((bl1 _ _).mono K.out.size)).trans (k2.out.2.mono (K.out.trans ((bl1 _ _).mono K.out.size)).size)); clear k2 H2)
    | (go_at_call 5; refine (H3.out _).mono ?_; rintro e u3 ⟨rfl, hu⟩; subst u3; clear H3)
    | (go_at_call 5; refine (H4.out _).mono ?_; rintro e u4 ⟨rfl, hu⟩; subst u4; clear H4))
  go_ret
  exact ⟨rfl, K.out.trans ((bl1 _ _).mono K.out.size)⟩
end Go.Proofs.YtaliehikdidiaaaDoor.Dq
