/- CodePrints -/
import Derived.Test.YtlnobfmbnnfbdaaGreatDoorCF
import Derived.Test.YtlnobfmbnnfbdaaGreatDoorCQ
import Derived.Test.YtlnobfmbnnfbdaaGreatDoorCL0
namespace Go.Proofs.YtlnobfmbnnfbdaaGreatDoor
open Go.ChangeShapes Go.WideShapes Go.ChangeAt Go.RowKit Num

set_option maxHeartbeats 4000000 in
set_option maxRecDepth 100000 in
theorem refPrint5_any {w : World} (t : Int) {ao : Option Addr} {c : List Ins} (cap : Nat) (hc : CodeAt w ao c) (hl : c.length ≤ 9223372036854775807) (hx : ∀ i ∈ c, i.x < 18446744073709551616) :
    Calls Tryz.prog 19 #[progV t ao c.length cap] w fun e w' => e = .returned (.tuple #[.string ⟨(printP t c).toArray⟩, .int .i64 (checkE t c)]) ∧ Below w.heap.size w w' := by
  cases hck : checkB t c with
  | true =>
    have e1 : printP t c = textP t c := by unfold printP; rw [hck]; rfl
    rw [e1, checkE_yes hck]
    exact refPrint_ok t cap hc hx hck
  | false =>
    have e1 : printP t c = [] := by unfold printP; rw [hck]; rfl
    have HCK := Lib.hid (refCheck_any t cap (hc.on (box5 w (.cells #[.int .i64 t, .slice ao c.length cap] 24))) hl)
    rw [e1, checkE_no hck]
    rw [checkE_no hck] at HCK
    unfold progV at HCK ⊢
    clear hc hx hck e1
    go_enter Tryz.func19, Tryz.ntmps19
    go_wp2_with (first
      | (go_at_call 13; refine HCK.out.mono ?_; rintro e w2 ⟨rfl, hb⟩; have HB2 := Lib.hid (chain5 (box5 w _) hb); clear hb))
    go_ret2
    exact ⟨rfl, HB2.out⟩
section
variable {W : World} {t0 : Int} {o0 : Option Addr} {c0 : List Ins} {k0 : Nat}
set_option maxHeartbeats 4000000 in
set_option maxRecDepth 100000 in
theorem prints_walk {E : Int} {P : ByteArray}
    (HL : Hid (∀ w, Below W.heap.size W w → Calls Tryz.prog 9 #[] w fun e w' => e = .returned (.bool true) ∧ Below w.heap.size w w'))
    (HLP : Hid (∀ w, Below W.heap.size W w → Calls Tryz.prog 10 #[.agg #[.int .i64 t0, .slice o0 c0.length k0]] w fun e w' => (∃ g, e = .returned (.agg #[.int .i64 t0, .slice (some ⟨g, 0, none⟩) c0.length (c0.length + 2)]) ∧ CodeAt w' (some ⟨g, 0, none⟩) (lentI c0)) ∧ Below w.heap.size w w'))
    (HPA : Hid (∀ w g, Below W.heap.size W w → CodeAt w (some ⟨g, 0, none⟩) (lentI c0) → Calls Tryz.prog 18 #[.agg #[.int .i64 t0, .slice (some ⟨g, 0, none⟩) c0.length (c0.length + 2)]] w fun e w' => e = .returned (.tuple #[.string P, .int .i64 E]) ∧ Below w.heap.size w w'))
    (HPR : Hid (∀ w, Below W.heap.size W w → Calls Tryz.prog 19 #[.agg #[.int .i64 t0, .slice o0 c0.length k0]] w fun e w' => e = .returned (.tuple #[.string P, .int .i64 E]) ∧ Below w.heap.size w w'))
    (HTP : Hid (∀ w g, Below W.heap.size W w → CodeAt w (some ⟨g, 0, none⟩) (lentI c0) → Calls Tryz.prog 15 #[.agg #[.int .i64 t0, .slice (some ⟨g, 0, none⟩) c0.length (c0.length + 2)], .agg #[.int .i64 t0, .slice o0 c0.length k0]] w fun e w' => e = .returned (.bool true) ∧ Below w.heap.size w w'))
    : Calls Tryz.prog 5 #[.agg #[.int .i64 t0, .slice o0 c0.length k0]] W fun e W2 => e = .returned (.bool true) ∧ Below W.heap.size W W2 := by
  have XP := Lib.hid (heap_alloc_new W (.cells #[.int .i64 t0, .slice o0 c0.length k0] 24))
  go_enter Tryz.func5, Tryz.ntmps5
  go_wp2_with (first
    | (go_at_call 15; refine (HTP.out _ ga HB4.out CA4.out).mono ?_; rintro e w5 ⟨rfl, hb⟩; have HB5 := Lib.hid (chain5 HB4.out hb); clear hb)
    | (go_at_call 19; refine (HPR.out _ HB3.out).mono ?_; rintro e w4 ⟨rfl, hb⟩; have HB4 := Lib.hid (chain5 HB3.out hb); have CA4 := Lib.hid (CA3.out.on hb); have xp := (hb.block _ (lt_of_block XP3.out)).trans XP3.out; have xa := (hb.block _ (lt_of_block XA3.out)).trans XA3.out; obtain ⟨p0, p1, p2⟩ := cells2_of xp; obtain ⟨a0, a1, a2⟩ := cells2_of xa; clear hb xp xa)
    | (go_at_call 18; refine (HPA.out _ ga (bl_alloc _ HB2.out) (CA2.out.on (box5 _ _))).mono ?_; rintro e w3 ⟨rfl, hb0⟩; have hb := chain5 (box5 _ _) hb0; have HB3 := Lib.hid (chain5 HB2.out hb); have CA3 := Lib.hid (CA2.out.on hb); have XP3 := Lib.hid ((hb.block _ (lt_of_block XP2.out)).trans XP2.out); have XA3 := Lib.hid ((hb0.block _ (lt_of_block (heap_alloc_new w2 _))).trans (heap_alloc_new w2 (.cells #[.int .i64 t0, .slice (some ⟨ga, 0, none⟩) c0.length (c0.length + 2)] 24))); obtain ⟨p0, p1, p2⟩ := cells2_of XP3.out; clear hb hb0)
    | (go_at_call 10; refine (HLP.out _ HB1.out).mono ?_; rintro e w2 ⟨⟨ga, rfl, hc⟩, hb⟩; have HB2 := Lib.hid (chain5 HB1.out hb); have XP2 := Lib.hid ((hb.block _ (lt_of_block XP1.out)).trans XP1.out); have CA2 := Lib.hid hc; clear hb hc)
    | (go_at_call 9; refine (HL.out _ (box5 _ _)).mono ?_; rintro e w1 ⟨rfl, hb⟩; have HB1 := Lib.hid (chain5 (box5 _ _) hb); have XP1 := Lib.hid ((hb.block _ (lt_of_block XP.out)).trans XP.out); obtain ⟨p0, p1, p2⟩ := cells2_of XP1.out; clear hb))
  go_ret
  exact ⟨by simp, HB5.out⟩
theorem prints_any (hT : Tabs5 W) (hp : CodeAt W o0 c0) (zp : c0.length * 24 ≤ reachBytes) (hx : ∀ i ∈ c0, i.x < 18446744073709551616) : Calls Tryz.prog 5 #[progV t0 o0 c0.length k0] W fun e W2 => e = .returned (.bool true) ∧ Below W.heap.size W W2 := by
  have h2 := reachBytes_lt
  have e3 : (2 : Nat) ^ 47 = 140737488355328 := by decide
  have lp : c0.length ≤ 9223372036854775807 := by omega
  refine prints_walk (E := checkE t0 c0) (P := ⟨(printP t0 c0).toArray⟩) (Lib.hid fun w h => live5_any w (hT.on h)) (Lib.hid fun w h => ?_) (Lib.hid fun w g h hg => ?_) (Lib.hid fun w h => ?_) (Lib.hid fun w g h hg => ?_)
  · exact (lent_any t0 k0 (hp.on h) zp).mono fun e w' ⟨g, he, hc, hb⟩ => ⟨⟨g, he, hc⟩, hb⟩
  · exact print5_any t0 (c0.length + 2) (hT.on h) hg.head lp hx
  · exact refPrint5_any t0 k0 (hp.on h) lp hx
  · exact still_any t0 k0 (hp.on h) hg zp
end
end Go.Proofs.YtlnobfmbnnfbdaaGreatDoor
