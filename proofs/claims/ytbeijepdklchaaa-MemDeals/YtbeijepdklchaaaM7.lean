import Derived.Test.YtbeijepdklchaaaM6
namespace Go.Proofs.Ytbeijepdklchaaa
open Go.ChangeShapes Go.WideShapes Go.ChangeAt Go.RowKit

theorem below_chg {w w1 w2 : World} {b g : Nat} (h : Below w.heap.size w w1) (k : Chg b g w1 w2) (hb : w.heap.size ≤ b) (hg : w.heap.size ≤ g) : Below w.heap.size w w2 :=
  h.trans (k.below hb hg h.size)
theorem below_chain {a b c : World} (h : Below a.heap.size a b) (k : Below b.heap.size b c) : Below a.heap.size a c := h.trans (k.mono h.size)
theorem lv1 : errA [0, 0] true 1 = 0 := by decide
theorem lv2 : stored [0, 0] true 1 7 = [0, 7] := by decide
theorem lv3 : spentO [0, 0] true 1 = false := by decide
theorem lv4 : spentC [0, 0] true 1 0 = 1 := by decide +kernel
theorem lv5 : errA [0, 7] false 1 = 31 := by decide
theorem lv6 : toldW [0, 7] false 1 = 0 := by decide
theorem lv7 : spentO [0, 7] false 1 = false := by decide
theorem lv8 : spentC [0, 7] false 1 1 = 1 := by decide +kernel
theorem lv9 : errP [0, 7] 1 = 0 := by decide
theorem lv10 : (if hasB [0, 7] 1 then wordAt [0, 7] 1 else 0) = 7 := by decide
theorem new_at (i : Int) (h1 : 1 ≤ i) (h2 : i ≤ 4096) (w : World) : Calls Try.prog 9 #[.int .i64 i] w fun e w' => ∃ ws : List Int, e = .returned (.tuple #[.pointer (some ⟨w.heap.size + 1, 0, none⟩), .int .i64 0]) ∧ (ws.length : Int) = i ∧ Hid (ws = List.replicate i.toNat 0) ∧ MemAt 57 w' (w.heap.size + 1) w.heap.size ws false 0 ∧ Below w.heap.size w w' := by
  obtain ⟨n, rfl⟩ : ∃ n : Nat, i = n := ⟨i.toNat, by omega⟩
  exact (new_some n (by omega) (by omega) w).mono fun e w' ⟨he, hm, hb⟩ => ⟨_, he, by rw [List.length_replicate]; rfl, rfl, hm, hb⟩
set_option maxRecDepth 100000 in
set_option maxHeartbeats 1000000 in
theorem live_any (w : World) : Calls Try.prog 11 #[] w fun e w' => e = .returned (.bool true) ∧ Below w.heap.size w w' := by
  go_enter Try.func11, Try.ntmps11
  go_wp2_with (first
    | (go_at_call 9; refine (new_some 2 (by decide) (by decide) _).mono ?_; rintro e w1 ⟨rfl, hm, hb⟩; have HM1 : Hid (MemAt 57 w1 (w.heap.size + 1) w.heap.size [0, 0] false 0) := hm; have HB1 := Lib.hid hb; clear hm hb)
    | (go_at_call 24; refine (open_any HM1.out).mono ?_; rintro e w2 ⟨rfl, hm, hc⟩; have HM2 := Lib.hid hm; have HC2 := Lib.hid hc; clear hm hc HM1)
    | (go_at_call 26; refine (store_any HM2.out _ _).mono ?_; rw [lv1, lv2, lv3, lv4]; rintro e w3 ⟨rfl, hm, hc⟩; have HM3 := Lib.hid hm; have HC3 := Lib.hid hc; clear hm hc HM2)
    | (go_at_call 25; refine (load_any HM3.out _).mono ?_; rw [lv5, lv6, lv7, lv8]; rintro e w4 ⟨rfl, hm, hc⟩; have HM4 := Lib.hid hm; have HC4 := Lib.hid hc; clear hm hc HM3)
    | (go_at_call 30; refine (peek_any HM4.out _).mono ?_; rw [lv9, lv10]; rintro e w5 ⟨rfl, hw⟩; subst w5)
    | (go_at_call 19; refine (count_any HM4.out).mono ?_; rintro e w6 ⟨rfl, hw⟩; subst w6)
    | (go_at_call 10; refine (len_any HM4.out).mono ?_; rintro e w7 ⟨rfl, hw⟩; subst w7))
  go_ret
  exact ⟨rfl, below_chg (below_chg (below_chg HB1.out HC2.out (by omega) (by omega)) HC3.out (by omega) (by omega)) HC4.out (by omega) (by omega)⟩
set_option maxRecDepth 100000 in
theorem numbers_any (w : World) : Calls Try.prog 3 #[] w fun e w' => e = .returned (.bool true) ∧ Below w.heap.size w w' := by
  have HA := Lib.hid (new_none 4097 (by omega) w)
  have HB := Lib.hid (new_at 4096 (by decide) (by decide) w)
  go_enter Try.func3, Try.ntmps3
  go_wp2_with (first
    | (go_at_call 9; refine HA.out.mono ?_; rintro e w1 ⟨rfl, hw⟩; subst w1; clear HA)
    | (go_at_call 9; refine HB.out.mono ?_; rintro e w1 ⟨ws, rfl, hl, hx, hm, hb⟩; have HM1 := Lib.hid hm; have HB1 := Lib.hid hb; clear hm hb)
    | (go_at_call 10; refine (len_any HM1.out).mono ?_; rintro e w7 ⟨rfl, hw⟩; subst w7))
  go_ret
  exact ⟨rfl, HB1.out⟩
end Go.Proofs.Ytbeijepdklchaaa
