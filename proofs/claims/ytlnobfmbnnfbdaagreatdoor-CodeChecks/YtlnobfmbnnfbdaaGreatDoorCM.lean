/- CodeChecks -/
import Derived.Test.YtlnobfmbnnfbdaaGreatDoorCL0
import Derived.Test.YtlnobfmbnnfbdaaGreatDoorCQ
import Derived.Test.YtlnobfmbnnfbdaaGreatDoorC8
namespace Go.Proofs.YtlnobfmbnnfbdaaGreatDoor
open Go.ChangeShapes Go.WideShapes Go.ChangeAt Go.RowKit Num

/-- a program's box -/
def BoxAt (w : World) (b : Nat) (v0 v1 : Value) : Prop := w.heap[b]? = some (.cells #[v0, v1] 24 (0, 0))
theorem BoxAt.on {w w' : World} {b : Nat} {v0 v1 : Value} (h : BoxAt w b v0 v1) (hb : Below w.heap.size w w') : BoxAt w' b v0 v1 := (hb.block b (lt_of_block h)).trans h
theorem BoxAt.cells {w : World} {b : Nat} {v0 v1 : Value} (h : BoxAt w b v0 v1) : w.cell? ⟨b, 0, none⟩ = some v0 ∧ w.cell? ⟨b, 1, none⟩ = some v1 ∧ b < w.heap.size := cells2_of h
theorem BoxAt.new (w : World) (v0 v1 : Value) : BoxAt (w.alloc (.cells #[v0, v1] 24)) w.heap.size v0 v1 := heap_alloc_new w _
theorem BoxAt.snd (w : World) (A : Obj) (v0 v1 : Value) : BoxAt ((w.alloc A).alloc (.cells #[v0, v1] 24)) (w.heap.size + 1) v0 v1 := by
  have e := heap_alloc_new (w.alloc A) (.cells #[v0, v1] 24)
  have hz : (w.alloc A).heap.size = w.heap.size + 1 := by simp
  rw [hz] at e
  exact e
abbrev LentR (w w' : World) (t : Int) (c : List Ins) (e : Ending) : Prop := (∃ g, e = .returned (.agg #[.int .i64 t, .slice (some ⟨g, 0, none⟩) c.length (c.length + 2)]) ∧ CodeAt w' (some ⟨g, 0, none⟩) (lentI c)) ∧ Below w.heap.size w w'
section
variable {W : World} {t0 t1 : Int} {o0 o1 : Option Addr} {c0 c1 : List Ins} {k0 k1 : Nat}
abbrev pqW (W : World) (t0 t1 : Int) (o0 o1 : Option Addr) (n0 n1 k0 k1 : Nat) : World := (W.alloc (.cells #[.int .i64 t0, .slice o0 n0 k0] 24)).alloc (.cells #[.int .i64 t1, .slice o1 n1 k1] 24)
set_option maxHeartbeats 8000000 in
set_option maxRecDepth 100000 in
theorem checks_walk {E0 E1 : Int} {S : Bool}
    (HL : Hid (∀ w, Below W.heap.size W w → Calls Tryz.prog 9 #[] w fun e w' => e = .returned (.bool true) ∧ Below w.heap.size w w'))
    (HLP : Hid (∀ w, Below W.heap.size W w → Calls Tryz.prog 10 #[.agg #[.int .i64 t0, .slice o0 c0.length k0]] w fun e w' => LentR w w' t0 c0 e))
    (HLQ : Hid (∀ w, Below W.heap.size W w → Calls Tryz.prog 10 #[.agg #[.int .i64 t1, .slice o1 c1.length k1]] w fun e w' => LentR w w' t1 c1 e))
    (HCA : Hid (∀ w g, Below W.heap.size W w → CodeAt w (some ⟨g, 0, none⟩) (lentI c0) → Calls Tryz.prog 11 #[.agg #[.int .i64 t0, .slice (some ⟨g, 0, none⟩) c0.length (c0.length + 2)]] w fun e w' => e = .returned (.int .i64 E0) ∧ Below w.heap.size w w'))
    (HCB : Hid (∀ w g, Below W.heap.size W w → CodeAt w (some ⟨g, 0, none⟩) (lentI c1) → Calls Tryz.prog 11 #[.agg #[.int .i64 t1, .slice (some ⟨g, 0, none⟩) c1.length (c1.length + 2)]] w fun e w' => e = .returned (.int .i64 E1) ∧ Below w.heap.size w w'))
    (HSS : Hid (∀ w g h, CodeAt w (some ⟨g, 0, none⟩) (lentI c0) → CodeAt w (some ⟨h, 0, none⟩) (lentI c1) → Calls Tryz.prog 12 #[.agg #[.int .i64 t0, .slice (some ⟨g, 0, none⟩) c0.length (c0.length + 2)], .agg #[.int .i64 t1, .slice (some ⟨h, 0, none⟩) c1.length (c1.length + 2)]] w fun e w' => e = .returned (.bool S) ∧ Below w.heap.size w w'))
    (HSL : Hid (∀ w g h, CodeAt w (some ⟨g, 0, none⟩) (lentI c0) → CodeAt w (some ⟨h, 0, none⟩) (lentI c0) → Calls Tryz.prog 12 #[.agg #[.int .i64 t0, .slice (some ⟨g, 0, none⟩) c0.length (c0.length + 2)], .agg #[.int .i64 t0, .slice (some ⟨h, 0, none⟩) c0.length (c0.length + 2)]] w fun e w' => e = .returned (.bool true) ∧ Below w.heap.size w w'))
    (HRP : Hid (∀ w, Below W.heap.size W w → Calls Tryz.prog 13 #[.agg #[.int .i64 t0, .slice o0 c0.length k0]] w fun e w' => e = .returned (.int .i64 E0) ∧ Below w.heap.size w w'))
    (HRQ : Hid (∀ w, Below W.heap.size W w → Calls Tryz.prog 13 #[.agg #[.int .i64 t1, .slice o1 c1.length k1]] w fun e w' => e = .returned (.int .i64 E1) ∧ Below w.heap.size w w'))
    (HRS : Hid (∀ w, Below W.heap.size W w → Calls Tryz.prog 14 #[.agg #[.int .i64 t0, .slice o0 c0.length k0], .agg #[.int .i64 t1, .slice o1 c1.length k1]] w fun e w' => e = .returned (.bool S) ∧ Below w.heap.size w w'))
    (HTP : Hid (∀ w g, Below W.heap.size W w → CodeAt w (some ⟨g, 0, none⟩) (lentI c0) → Calls Tryz.prog 15 #[.agg #[.int .i64 t0, .slice (some ⟨g, 0, none⟩) c0.length (c0.length + 2)], .agg #[.int .i64 t0, .slice o0 c0.length k0]] w fun e w' => e = .returned (.bool true) ∧ Below w.heap.size w w'))
    (HTQ : Hid (∀ w g, Below W.heap.size W w → CodeAt w (some ⟨g, 0, none⟩) (lentI c1) → Calls Tryz.prog 15 #[.agg #[.int .i64 t1, .slice (some ⟨g, 0, none⟩) c1.length (c1.length + 2)], .agg #[.int .i64 t1, .slice o1 c1.length k1]] w fun e w' => e = .returned (.bool true) ∧ Below w.heap.size w w'))
    : Calls Tryz.prog 3 #[.agg #[.int .i64 t0, .slice o0 c0.length k0], .agg #[.int .i64 t1, .slice o1 c1.length k1]] W fun e W2 => e = .returned (.bool true) ∧ Below W.heap.size W W2 := by
  have XP := Lib.hid ((BoxAt.new W (.int .i64 t0) (.slice o0 c0.length k0)).on (box5 _ (.cells #[.int .i64 t1, .slice o1 c1.length k1] 24)))
  have XQ := Lib.hid (BoxAt.snd W (.cells #[.int .i64 t0, .slice o0 c0.length k0] 24) (.int .i64 t1) (.slice o1 c1.length k1))
  go_enter Tryz.func3, Tryz.ntmps3
  go_wp2_with (first
    | (go_at_call 12; refine (HSS.out _ ga gb CA5.out CB5.out).mono ?_; rintro e w6 ⟨rfl, hb⟩; have HB6 := Lib.hid (chain5 HB5.out hb); have XP6 := Lib.hid (XP5.out.on hb); have XQ6 := Lib.hid (XQ5.out.on hb); have XA6 := Lib.hid (XA5.out.on hb); have XB6 := Lib.hid (XB5.out.on hb); have CA6 := Lib.hid (CA5.out.on hb); have CB6 := Lib.hid (CB5.out.on hb); obtain ⟨p0, p1, p2⟩ := XP6.out.cells; obtain ⟨q0, q1, q2⟩ := XQ6.out.cells; obtain ⟨a0, a1, a2⟩ := XA6.out.cells; obtain ⟨b0, b1, b2⟩ := XB6.out.cells; clear hb XP5 XQ5 XA5 XB5 CA5 CB5 HB5)
    | (go_at_call 11; refine (HCB.out _ gb HB4.out CB4.out).mono ?_; rintro e w5 ⟨rfl, hb⟩; have HB5 := Lib.hid (chain5 HB4.out hb); have XP5 := Lib.hid (XP4.out.on hb); have XQ5 := Lib.hid (XQ4.out.on hb); have XA5 := Lib.hid (XA4.out.on hb); have XB5 := Lib.hid (XB4.out.on hb); have CA5 := Lib.hid (CA4.out.on hb); have CB5 := Lib.hid (CB4.out.on hb); obtain ⟨a0, a1, a2⟩ := XA5.out.cells; obtain ⟨b0, b1, b2⟩ := XB5.out.cells; clear hb XP4 XQ4 XA4 XB4 CA4 CB4 HB4)
    | (go_at_call 11; refine (HCA.out _ ga (bl_alloc _ HB3.out) (CA3.out.on (box5 _ _))).mono ?_; rintro e w4 ⟨rfl, hb0⟩; have hb := chain5 (box5 _ _) hb0; have HB4 := Lib.hid (chain5 HB3.out hb); have XP4 := Lib.hid (XP3.out.on hb); have XQ4 := Lib.hid (XQ3.out.on hb); have XA4 := Lib.hid (XA3.out.on hb); have XB4 := Lib.hid ((BoxAt.new _ _ _).on hb0); have CA4 := Lib.hid (CA3.out.on hb); have CB4 := Lib.hid (CB3.out.on hb); obtain ⟨a0, a1, a2⟩ := XA4.out.cells; obtain ⟨b0, b1, b2⟩ := XB4.out.cells; clear hb hb0 XP3 XQ3 XA3 CA3 CB3 HB3)
    | (go_at_call 10; refine (HLQ.out _ (bl_alloc _ HB2.out)).mono ?_; rintro e w3 ⟨⟨gb, rfl, hc⟩, hb0⟩; have hb := chain5 (box5 _ _) hb0; have HB3 := Lib.hid (chain5 HB2.out hb); have XP3 := Lib.hid (XP2.out.on hb); have XQ3 := Lib.hid (XQ2.out.on hb); have XA3 := Lib.hid ((BoxAt.new _ _ _).on hb0); have CA3 := Lib.hid (CA2.out.on hb); have CB3 := Lib.hid hc; obtain ⟨a0, a1, a2⟩ := XA3.out.cells; clear hb hb0 hc XP2 XQ2 CA2 HB2)
    | (go_at_call 10; refine (HLP.out _ HB1.out).mono ?_; rintro e w2 ⟨⟨ga, rfl, hc⟩, hb⟩; have HB2 := Lib.hid (chain5 HB1.out hb); have XP2 := Lib.hid (XP1.out.on hb); have XQ2 := Lib.hid (XQ1.out.on hb); have CA2 := Lib.hid hc; obtain ⟨q0, q1, q2⟩ := XQ2.out.cells; clear hb hc XP1 XQ1 HB1)
    | (go_at_call 9; refine (HL.out _ (bl_alloc _ (box5 _ _))).mono ?_; rintro e w1 ⟨rfl, hb⟩; have HB1 := Lib.hid (chain5 (bl_alloc _ (box5 _ _)) hb); have XP1 := Lib.hid (XP.out.on hb); have XQ1 := Lib.hid (XQ.out.on hb); obtain ⟨p0, p1, p2⟩ := XP1.out.cells; clear hb))
  go_region_with (first
    | (go_at_call 12; refine (HSL.out _ ga gc CA7.out CC7.out).mono ?_; rintro e w8 ⟨rfl, hb⟩; have HB8 := Lib.hid (chain5 HB7.out hb); have XP8 := Lib.hid (XP7.out.on hb); have XQ8 := Lib.hid (XQ7.out.on hb); have XA8 := Lib.hid (XA7.out.on hb); have XB8 := Lib.hid (XB7.out.on hb); have CA8 := Lib.hid (CA7.out.on hb); have CB8 := Lib.hid (CB7.out.on hb); obtain ⟨p0, p1, p2⟩ := XP8.out.cells; obtain ⟨q0, q1, q2⟩ := XQ8.out.cells; obtain ⟨a0, a1, a2⟩ := XA8.out.cells; obtain ⟨b0, b1, b2⟩ := XB8.out.cells; clear hb XP7 XQ7 XA7 XB7 CA7 CB7 HB7)
    | (go_at_call 10; refine (HLP.out _ (by first | exact HB6.out | exact bl_drew HB6.out | exact bl_drewN _ HB6.out)).mono ?_; rintro e w7 ⟨⟨gc, rfl, hc⟩, hb0⟩; have hb : Below w6.heap.size w6 w7 := (by first | exact hb0 | exact chain5 (bl_drew (Below.refl _ _)) hb0 | exact chain5 (bl_drewN _ (Below.refl _ _)) hb0); have HB7 := Lib.hid (chain5 HB6.out hb); have XP7 := Lib.hid (XP6.out.on hb); have XQ7 := Lib.hid (XQ6.out.on hb); have XA7 := Lib.hid (XA6.out.on hb); have XB7 := Lib.hid (XB6.out.on hb); have CA7 := Lib.hid (CA6.out.on hb); have CB7 := Lib.hid (CB6.out.on hb); have CC7 := Lib.hid hc; obtain ⟨a0, a1, a2⟩ := XA7.out.cells; clear hb hb0 hc))
  all_goals go_wp2_with (first
    | (go_at_call 15; refine (HTQ.out _ gb HB12.out CB12.out).mono ?_; rintro e w13 ⟨rfl, hb⟩; have HB13 := Lib.hid (chain5 HB12.out hb); have XP13 := Lib.hid (XP12.out.on hb); have XQ13 := Lib.hid (XQ12.out.on hb); have XA13 := Lib.hid (XA12.out.on hb); have XB13 := Lib.hid (XB12.out.on hb); have CA13 := Lib.hid (CA12.out.on hb); have CB13 := Lib.hid (CB12.out.on hb); obtain ⟨p0, p1, p2⟩ := XP13.out.cells; obtain ⟨q0, q1, q2⟩ := XQ13.out.cells; obtain ⟨a0, a1, a2⟩ := XA13.out.cells; obtain ⟨b0, b1, b2⟩ := XB13.out.cells; clear hb XP12 XQ12 XA12 XB12 CA12 CB12 HB12)
    | (go_at_call 15; refine (HTP.out _ ga HB11.out CA11.out).mono ?_; rintro e w12 ⟨rfl, hb⟩; have HB12 := Lib.hid (chain5 HB11.out hb); have XP12 := Lib.hid (XP11.out.on hb); have XQ12 := Lib.hid (XQ11.out.on hb); have XA12 := Lib.hid (XA11.out.on hb); have XB12 := Lib.hid (XB11.out.on hb); have CA12 := Lib.hid (CA11.out.on hb); have CB12 := Lib.hid (CB11.out.on hb); obtain ⟨p0, p1, p2⟩ := XP12.out.cells; obtain ⟨q0, q1, q2⟩ := XQ12.out.cells; obtain ⟨a0, a1, a2⟩ := XA12.out.cells; obtain ⟨b0, b1, b2⟩ := XB12.out.cells; clear hb XP11 XQ11 XA11 XB11 CA11 CB11 HB11)
    | (go_at_call 14; refine (HRS.out _ HB10.out).mono ?_; rintro e w11 ⟨rfl, hb⟩; have HB11 := Lib.hid (chain5 HB10.out hb); have XP11 := Lib.hid (XP10.out.on hb); have XQ11 := Lib.hid (XQ10.out.on hb); have XA11 := Lib.hid (XA10.out.on hb); have XB11 := Lib.hid (XB10.out.on hb); have CA11 := Lib.hid (CA10.out.on hb); have CB11 := Lib.hid (CB10.out.on hb); obtain ⟨p0, p1, p2⟩ := XP11.out.cells; obtain ⟨q0, q1, q2⟩ := XQ11.out.cells; obtain ⟨a0, a1, a2⟩ := XA11.out.cells; obtain ⟨b0, b1, b2⟩ := XB11.out.cells; clear hb XP10 XQ10 XA10 XB10 CA10 CB10 HB10)
    | (go_at_call 13; refine (HRQ.out _ HB9.out).mono ?_; rintro e w10 ⟨rfl, hb⟩; have HB10 := Lib.hid (chain5 HB9.out hb); have XP10 := Lib.hid (XP9.out.on hb); have XQ10 := Lib.hid (XQ9.out.on hb); have XA10 := Lib.hid (XA9.out.on hb); have XB10 := Lib.hid (XB9.out.on hb); have CA10 := Lib.hid (CA9.out.on hb); have CB10 := Lib.hid (CB9.out.on hb); obtain ⟨p0, p1, p2⟩ := XP10.out.cells; obtain ⟨q0, q1, q2⟩ := XQ10.out.cells; obtain ⟨a0, a1, a2⟩ := XA10.out.cells; obtain ⟨b0, b1, b2⟩ := XB10.out.cells; clear hb XP9 XQ9 XA9 XB9 CA9 CB9 HB9)
    | (go_at_call 13; refine (HRP.out _ HB8.out).mono ?_; rintro e w9 ⟨rfl, hb⟩; have HB9 := Lib.hid (chain5 HB8.out hb); have XP9 := Lib.hid (XP8.out.on hb); have XQ9 := Lib.hid (XQ8.out.on hb); have XA9 := Lib.hid (XA8.out.on hb); have XB9 := Lib.hid (XB8.out.on hb); have CA9 := Lib.hid (CA8.out.on hb); have CB9 := Lib.hid (CB8.out.on hb); obtain ⟨p0, p1, p2⟩ := XP9.out.cells; obtain ⟨q0, q1, q2⟩ := XQ9.out.cells; obtain ⟨a0, a1, a2⟩ := XA9.out.cells; obtain ⟨b0, b1, b2⟩ := XB9.out.cells; clear hb XP8 XQ8 XA8 XB8 CA8 CB8 HB8))
  all_goals go_ret
  all_goals exact ⟨by simp, HB13.out⟩
theorem checks_any (hT : Tabs5 W) (hp : CodeAt W o0 c0) (hq : CodeAt W o1 c1) (zp : c0.length * 24 ≤ reachBytes) (zq : c1.length * 24 ≤ reachBytes) : Calls Tryz.prog 3 #[progV t0 o0 c0.length k0, progV t1 o1 c1.length k1] W fun e W2 => e = .returned (.bool true) ∧ Below W.heap.size W W2 := by
  have h2 := reachBytes_lt
  have e3 : (2 : Nat) ^ 47 = 140737488355328 := by decide
  have lp : c0.length ≤ 9223372036854775807 := by omega
  have lq : c1.length ≤ 9223372036854775807 := by omega
  refine checks_walk (E0 := checkE t0 c0) (E1 := checkE t1 c1) (S := sameB t0 t1 c0 c1) (Lib.hid fun w h => live5_any w (hT.on h)) (Lib.hid fun w h => ?_) (Lib.hid fun w h => ?_) (Lib.hid fun w g h hg => ?_) (Lib.hid fun w g h hg => ?_) (Lib.hid fun w g g2 hg hh => ?_) (Lib.hid fun w g g2 hg hh => ?_) (Lib.hid fun w h => ?_) (Lib.hid fun w h => ?_) (Lib.hid fun w h => ?_) (Lib.hid fun w g h hg => ?_) (Lib.hid fun w g h hg => ?_)
  · exact (lent_any t0 k0 (hp.on h) zp).mono fun e w' ⟨g, he, hc, hb⟩ => ⟨⟨g, he, hc⟩, hb⟩
  · exact (lent_any t1 k1 (hq.on h) zq).mono fun e w' ⟨g, he, hc, hb⟩ => ⟨⟨g, he, hc⟩, hb⟩
  · exact check_any t0 (c0.length + 2) (hT.on h).sh hg.head lp
  · exact check_any t1 (c1.length + 2) (hT.on h).sh hg.head lq
  · exact same5_any t0 t1 (c0.length + 2) (c1.length + 2) hg.head hh.head lp lq
  · have := same5_any t0 t0 (c0.length + 2) (c0.length + 2) hg.head hh.head lp lp
    rw [same_self] at this
    exact this
  · exact refCheck_any t0 k0 (hp.on h) lp
  · exact refCheck_any t1 k1 (hq.on h) lq
  · exact refSame5_any t0 t1 k0 k1 (hp.on h) (hq.on h) lp lq
  · exact still_any t0 k0 (hp.on h) hg zp
  · exact still_any t1 k1 (hq.on h) hg zq
end
end Go.Proofs.YtlnobfmbnnfbdaaGreatDoor
