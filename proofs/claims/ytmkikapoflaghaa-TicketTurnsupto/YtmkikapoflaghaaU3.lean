import Derived.Test.YtmkikapoflaghaaU2
namespace Go.Proofs.Ytmkikapoflaghaa
open Go.ChangeShapes Go.WideShapes Go.ChangeAt Go.RowKit

theorem tv1 : toldW [0, 0] true 0 = 0 ∧ errA [0, 0] true 0 = 0 ∧ stored [0, 0] true 0 (addV (wordAt [0, 0] 0) 1) = [1, 0] ∧ spentO [0, 0] true 0 = false ∧ spentC [0, 0] true 0 0 = 1 := by decide +kernel
theorem tv2 : toldW [1, 0] true 0 = 1 ∧ errA [1, 0] true 0 = 0 ∧ stored [1, 0] true 0 (addV (wordAt [1, 0] 0) 1) = [2, 0] ∧ spentO [1, 0] true 0 = false ∧ spentC [1, 0] true 0 1 = 2 := by decide +kernel
theorem tv3 : aheadI [2, 0] 1 1 = 1 ∧ errP [2, 0] 1 = 0 := by decide +kernel
theorem tv4 : errA [2, 0] false 1 = 31 ∧ stored [2, 0] false 1 (passV 0) = [2, 0] ∧ spentO [2, 0] false 1 = false ∧ spentC [2, 0] false 1 2 = 2 := by decide +kernel
theorem tv5 : errA [2, 0] true 1 = 0 ∧ stored [2, 0] true 1 (passV 0) = [2, 1] ∧ spentO [2, 0] true 1 = false ∧ spentC [2, 0] true 1 2 = 3 := by decide +kernel
theorem tv6 : lookB [2, 1] true 1 1 = true ∧ errA [2, 1] true 1 = 0 := by decide +kernel
theorem tv7 : errA [0, 0] true 1 = 0 ∧ stored [0, 0] true 1 (passV 18446744073709551615) = [0, 0] ∧ spentO [0, 0] true 1 = false ∧ spentC [0, 0] true 1 0 = 1 := by decide +kernel
theorem tv8 : lookB [0, 0] true 1 0 = true ∧ errA [0, 0] true 1 = 0 ∧ spentO [0, 0] true 1 = false ∧ spentC [0, 0] true 1 1 = 2 := by decide +kernel
theorem tv9 : toldW [0, 0] false 2 = 0 ∧ errA [0, 0] false 2 = 30 ∧ stored [0, 0] false 2 (addV (wordAt [0, 0] 2) 1) = [0, 0] ∧ spentO [0, 0] false 2 = false ∧ spentC [0, 0] false 2 2 = 2 := by decide +kernel
theorem tv10 : aheadI [0, 0] 1 9223372036854775808 = 2147483647 ∧ errP [0, 0] 1 = 0 := by decide +kernel
set_option maxRecDepth 100000 in
theorem two_any (w : World) : Calls Try.prog 6 #[] w fun e w' => e = .returned (.pointer (some ⟨w.heap.size + 1, 0, none⟩)) ∧ MemAt 59 w' (w.heap.size + 1) w.heap.size [0, 0] false 0 ∧ Below w.heap.size w w' := by
  go_enter Try.func6, Try.ntmps6
  go_wp2_with (go_at_call 13; refine (new_some 2 (by decide) (by decide) _).mono ?_; rintro e w1 ⟨rfl, hm, hb⟩; have HM1 : Hid (MemAt 59 w1 (w.heap.size + 1) w.heap.size [0, 0] false 0) := hm; have HB1 := Lib.hid hb; clear hm hb)
  go_ret
  exact ⟨rfl, HM1.out, HB1.out⟩
/-- a plan in a block of its own -/
def PlnAt (w : World) (q : Nat) (a0 a1 a2 a3 a4 a5 : Int) : Prop := w.heap[q]? = some (.cells #[.int .i64 a0, .int .i64 a1, .int .i64 a2, .int .i64 a3, .int .i64 a4, .int .i64 a5] 25 (0, 0))
theorem PlnAt.cells {w : World} {q : Nat} {a0 a1 a2 a3 a4 a5 : Int} (h : PlnAt w q a0 a1 a2 a3 a4 a5) : w.cell? ⟨q, 0, none⟩ = some (.int .i64 a0) ∧ w.cell? ⟨q, 1, none⟩ = some (.int .i64 a1) ∧ w.cell? ⟨q, 2, none⟩ = some (.int .i64 a2) ∧ w.cell? ⟨q, 3, none⟩ = some (.int .i64 a3) ∧ w.cell? ⟨q, 4, none⟩ = some (.int .i64 a4) ∧ w.cell? ⟨q, 5, none⟩ = some (.int .i64 a5) ∧ q < w.heap.size :=
  ⟨by rw [cell_of_row w q 0 _ _ _ h]; rfl, by rw [cell_of_row w q 1 _ _ _ h]; rfl, by rw [cell_of_row w q 2 _ _ _ h]; rfl, by rw [cell_of_row w q 3 _ _ _ h]; rfl, by rw [cell_of_row w q 4 _ _ _ h]; rfl, by rw [cell_of_row w q 5 _ _ _ h]; rfl, lt_of_block h⟩
/-- a memory of one's own, new since W, and a plan (0, 1) beside it -/
structure Own1 (W w : World) (b g q : Nat) (ws : List Int) (o : Bool) (c : Int) : Prop where
  m : MemAt 59 w b g ws o c
  p : PlnAt w q 0 1 0 0 0 0
  below : Below W.heap.size W w
  hb : W.heap.size ≤ b
  hg : W.heap.size ≤ g
  ne : q ≠ b ∧ q ≠ g
section
variable {W w w' : World} {b g q : Nat} {ws ws' : List Int} {o o' : Bool} {c c' : Int}
theorem Own1.on (h : Own1 W w b g q ws o c) (k : Below w.heap.size w w') : Own1 W w' b g q ws o c := ⟨h.m.on k, (k.block q (lt_of_block h.p)).trans h.p, below_chain h.below k, h.hb, h.hg, h.ne⟩
theorem Own1.chg (h : Own1 W w b g q ws o c) (hm : MemAt 59 w' b g ws' o' c') (k : Chg b g w w') : Own1 W w' b g q ws' o' c' := ⟨hm, (k.block q (lt_of_block h.p) h.ne.1 h.ne.2).trans h.p, below_chg h.below k h.hb h.hg, h.hb, h.hg, h.ne⟩
theorem own1_new (hm : MemAt 59 w (W.heap.size + 1) W.heap.size ws o c) (hb : Below W.heap.size W w) : Own1 W (w.alloc (.cells #[.int .i64 0, .int .i64 1, .int .i64 0, .int .i64 0, .int .i64 0, .int .i64 0] 25)) (W.heap.size + 1) W.heap.size w.heap.size ws o c :=
  ⟨hm.alloc _, heap_alloc_new _ _, hb.alloc hb.size _, by omega, Nat.le_refl _, ⟨Nat.ne_of_gt hm.ltB, Nat.ne_of_gt hm.ltG⟩⟩
end
set_option maxRecDepth 100000 in
set_option maxHeartbeats 4000000 in
theorem live12_any (w : World) : Calls Try.prog 12 #[] w fun e w' => e = .returned (.bool true) ∧ Below w.heap.size w w' := by
  go_enter Try.func12, Try.ntmps12
  go_wp2_with (first
    | (go_at_call 6; refine (two_any _).mono ?_; rintro e w1 ⟨rfl, hm, hb⟩; have H1 := Lib.hid (own1_new hm hb); clear hm hb)
    | (go_at_call 7; refine (open_any H1.out.m).mono ?_; rintro e w2 ⟨rfl, hm, hc⟩; have H2 := Lib.hid (H1.out.chg hm hc); obtain ⟨p20, p21, p22, p23, p24, p25, p26⟩ := H2.out.p.cells; clear hm hc H1)
    | (go_at_call 10; refine (draw_any H2.out.m 0 1 0 0 0 0).mono ?_; rw [tv1.1, tv1.2.1, tv1.2.2.1, tv1.2.2.2.1, tv1.2.2.2.2]; rintro e w3 ⟨rfl, hm, hc⟩; have H3 := Lib.hid (H2.out.chg hm hc); obtain ⟨p30, p31, p32, p33, p34, p35, p36⟩ := H3.out.p.cells; clear hm hc H2)
    | (go_at_call 7; refine (open_any H3.out.m).mono ?_; rintro e w4 ⟨rfl, hm, hc⟩; have H4 := Lib.hid (H3.out.chg hm hc); obtain ⟨p40, p41, p42, p43, p44, p45, p46⟩ := H4.out.p.cells; clear hm hc H3)
    | (go_at_call 10; refine (draw_any H4.out.m 0 1 0 0 0 0).mono ?_; rw [tv2.1, tv2.2.1, tv2.2.2.1, tv2.2.2.2.1, tv2.2.2.2.2]; rintro e w5 ⟨rfl, hm, hc⟩; have H5 := Lib.hid (H4.out.chg hm hc); obtain ⟨p50, p51, p52, p53, p54, p55, p56⟩ := H5.out.p.cells; clear hm hc H4)
    | (go_at_call 11; refine (ahead_any H5.out.m 0 1 0 0 0 0 1).mono ?_; rw [tv3.1, tv3.2]; rintro e w6 ⟨rfl, hm, hb⟩; have H6 := Lib.hid (H5.out.on hb); obtain ⟨p60, p61, p62, p63, p64, p65, p66⟩ := H6.out.p.cells; clear hm hb H5)
    | (go_at_call 8; refine (pass_any H6.out.m 0 1 0 0 0 0 0).mono ?_; rw [tv4.1, tv4.2.1, tv4.2.2.1, tv4.2.2.2]; rintro e w7 ⟨rfl, hm, hc⟩; have H7 := Lib.hid (H6.out.chg hm hc); obtain ⟨p70, p71, p72, p73, p74, p75, p76⟩ := H7.out.p.cells; clear hm hc H6)
    | (go_at_call 7; refine (open_any H7.out.m).mono ?_; rintro e w8 ⟨rfl, hm, hc⟩; have H8 := Lib.hid (H7.out.chg hm hc); obtain ⟨p80, p81, p82, p83, p84, p85, p86⟩ := H8.out.p.cells; clear hm hc H7)
    | (go_at_call 8; refine (pass_any H8.out.m 0 1 0 0 0 0 0).mono ?_; rw [tv5.1, tv5.2.1, tv5.2.2.1, tv5.2.2.2]; rintro e w9 ⟨rfl, hm, hc⟩; have H9 := Lib.hid (H8.out.chg hm hc); obtain ⟨p90, p91, p92, p93, p94, p95, p96⟩ := H9.out.p.cells; clear hm hc H8)
    | (go_at_call 7; refine (open_any H9.out.m).mono ?_; rintro e w10 ⟨rfl, hm, hc⟩; have H10 := Lib.hid (H9.out.chg hm hc); obtain ⟨p100, p101, p102, p103, p104, p105, p106⟩ := H10.out.p.cells; clear hm hc H9)
    | (go_at_call 9; refine (look_any H10.out.m 0 1 0 0 0 0 1).mono ?_; rw [tv6.1, tv6.2]; rintro e w11 ⟨rfl, hm, hc⟩; have H11 := Lib.hid (H10.out.chg hm hc); obtain ⟨p110, p111, p112, p113, p114, p115, p116⟩ := H11.out.p.cells; clear hm hc H10))
  go_ret
  exact ⟨rfl, H11.out.below⟩
set_option maxRecDepth 100000 in
set_option maxHeartbeats 4000000 in
theorem numbers12_any (w : World) : Calls Try.prog 3 #[] w fun e w' => e = .returned (.bool true) ∧ Below w.heap.size w w' := by
  go_enter Try.func3, Try.ntmps3
  go_wp2_with (first
    | (go_at_call 6; refine (two_any _).mono ?_; rintro e w1 ⟨rfl, hm, hb⟩; have H1 := Lib.hid (own1_new hm hb); clear hm hb)
    | (go_at_call 7; refine (open_any H1.out.m).mono ?_; rintro e w2 ⟨rfl, hm, hc⟩; have H2 := Lib.hid (H1.out.chg hm hc); obtain ⟨p20, p21, p22, p23, p24, p25, p26⟩ := H2.out.p.cells; clear hm hc H1)
    | (go_at_call 8; refine (pass_any H2.out.m 0 1 0 0 0 0 18446744073709551615).mono ?_; rw [tv7.1, tv7.2.1, tv7.2.2.1, tv7.2.2.2]; rintro e w3 ⟨rfl, hm, hc⟩; have H3 := Lib.hid (H2.out.chg hm hc); obtain ⟨p30, p31, p32, p33, p34, p35, p36⟩ := H3.out.p.cells; clear hm hc H2)
    | (go_at_call 7; refine (open_any H3.out.m).mono ?_; rintro e w4 ⟨rfl, hm, hc⟩; have H4 := Lib.hid (H3.out.chg hm hc); obtain ⟨p40, p41, p42, p43, p44, p45, p46⟩ := H4.out.p.cells; clear hm hc H3)
    | (go_at_call 9; refine (look_any H4.out.m 0 1 0 0 0 0 0).mono ?_; rw [tv8.1, tv8.2.1, tv8.2.2.1, tv8.2.2.2]; rintro e w5 ⟨rfl, hm, hc⟩; have H5 := Lib.hid (H4.out.chg hm hc); obtain ⟨p50, p51, p52, p53, p54, p55, p56⟩ := H5.out.p.cells; clear hm hc H4)
    | (go_at_call 10; refine (draw_any H5.out.m 2 0 0 0 0 0).mono ?_; rw [tv9.1, tv9.2.1, tv9.2.2.1, tv9.2.2.2.1, tv9.2.2.2.2]; rintro e w6 ⟨rfl, hm, hc⟩; have H6 := Lib.hid (H5.out.chg hm hc); obtain ⟨p60, p61, p62, p63, p64, p65, p66⟩ := H6.out.p.cells; clear hm hc H5)
    | (go_at_call 11; refine (ahead_any H6.out.m 0 1 0 0 0 0 9223372036854775808).mono ?_; rw [tv10.1, tv10.2]; rintro e w7 ⟨rfl, hm, hb⟩; have H7 := Lib.hid (H6.out.on hb); obtain ⟨p70, p71, p72, p73, p74, p75, p76⟩ := H7.out.p.cells; clear hm hb H6))
  go_ret
  exact ⟨rfl, H7.out.below⟩
end Go.Proofs.Ytmkikapoflaghaa
