/- CodeOwns -/
import Derived.Test.YtlnobfmbnnfbdaaGreatDoorCO
namespace Go.Proofs.YtlnobfmbnnfbdaaGreatDoor
open Go.ChangeShapes Go.WideShapes Go.ChangeAt Go.RowKit Num
attribute [local go_sem] run_store_float

theorem turn_at {F : List Nat} {w w' : World} {b o : Nat} (v : Value) (h : Turn F F w w') (hb : b ∈ F) : Turn F F w (w'.setCell ⟨b, o, none⟩ v) :=
  ⟨h.os, h.tape, h.output, by simpa using h.size, fun k hk hn => (heap_setCell_other _ _ _ _ (by simp; rintro rfl; exact hn hb)).trans (h.block k hk hn), h.own⟩
theorem row_far {B : Nat} {F : List Nat} {w w' : World} {v : Value} {c : List Ins} (h : CodeRow B w v c) (hn : ∀ g, v.ownBlock = some g → g ∉ F) (k : Turn F F w w') : CodeRow B w' v c := by
  refine ⟨h.1, ?_⟩
  rcases h.2 with q | ⟨g, cap, cur, hv, hB, hg, rest⟩
  · exact .inl q
  · refine .inr ⟨g, cap, cur, hv, hB, ?_, rest⟩
    rw [k.block g (lt_of_block hg) (hn g (by rw [hv]; rfl))]
    exact hg
/-- the whole of a row, up to its room -/
def RoomAt (w : World) (ao : Option Addr) (cap : Nat) : Prop := cap ≤ 9223372036854775807 ∧ ((ao = none ∧ cap = 0) ∨ ∃ g, ao = some ⟨g, 0, none⟩ ∧ g < w.heap.size ∧ w.there g 0 (cap * 3))
theorem room_of {B : Nat} {w : World} {ao : Option Addr} {n cap : Nat} {c : List Ins} (h : CodeRow B w (.slice ao n cap) c) : RoomAt w ao cap := by
  rcases h.2 with ⟨hv, _⟩ | ⟨g, cap', cur, hv, _, hg, _, hm, hs, _⟩
  · cases hv
    exact ⟨by decide, .inl ⟨rfl, rfl⟩⟩
  · cases hv
    refine ⟨by unfold maxLen at hm; omega, .inr ⟨g, rfl, lt_of_block hg, fun j hj => ⟨?_, frozen_of_row _ _ _ _ _ hg⟩⟩⟩
    have hlt : j < cur.size := by omega
    rw [Nat.zero_add, cell_of_row _ _ _ _ _ _ hg, Array.getElem?_eq_getElem hlt]
    rfl
section
variable {W : World} {a : ByteArray}
set_option maxHeartbeats 4000000 in
set_option maxRecDepth 100000 in
theorem owns_walk {t : Int} {c : List Ins} {x ln : Int}
    (HL : Hid (∀ w, Below W.heap.size W w → Calls Tryz.prog 9 #[] w fun e w' => e = .returned (.bool true) ∧ Below w.heap.size w w'))
    (HPA : Hid (∀ w, Below W.heap.size W w → Calls Tryz.prog 20 #[.string a] w fun e w' => ToldR w w' t c x ln e))
    (HPR : Hid (∀ w, Calls Tryz.prog 21 #[.string a] w fun e w' => ToldR w w' t c x ln e))
    (HSM : Hid (∀ w ao bo cap cap', CodeAt w ao c → CodeAt w bo c → Calls Tryz.prog 14 #[.agg #[.int .i64 t, .slice ao c.length cap], .agg #[.int .i64 t, .slice bo c.length cap']] w fun e w' => e = .returned (.bool true) ∧ Below w.heap.size w w'))
    : Calls Tryz.prog 8 #[.string a] W fun e W2 => e = .returned (.bool true) ∧ Below W.heap.size W W2 := by
  go_enter Tryz.func8, Tryz.ntmps8
  go_wp2_with (first
    | (go_at_call 14; refine (HSM.out _ qo bo _ _ RQ5.out.codeAt RR5.out.codeAt).mono ?_; rintro e w6 ⟨rfl, hb⟩; have HB6 := Lib.hid (chain5 HB5.out hb); have RP6 := Lib.hid (ownsOn RP5.out hb); have RR6 := Lib.hid (ownsOn RR5.out hb); have RQ6 := Lib.hid (ownsOn RQ5.out hb); have XP6 := Lib.hid (XP5.out.on hb); have XR6 := Lib.hid (XR5.out.on hb); have XQ6 := Lib.hid (XQ5.out.on hb); obtain ⟨p0, p1, p2⟩ := cells2_of XP6.out; clear hb RP5 RR5 RQ5 XP5 XR5 XQ5 HB5)
    | (go_at_call 14; refine (HSM.out _ ao bo _ _ (RP4.out.codeAt.on (box5 _ _)) (RR4.out.codeAt.on (box5 _ _))).mono ?_; rintro e w5 ⟨rfl, hb0⟩; have hb := chain5 (box5 _ _) hb0; have HB5 := Lib.hid (chain5 HB4.out hb); have RP5 := Lib.hid (ownsOn RP4.out hb); have RR5 := Lib.hid (ownsOn RR4.out hb); have RQ5 := Lib.hid (ownsOn RQ4.out hb); have XP5 := Lib.hid (XP4.out.on hb); have XR5 := Lib.hid (XR4.out.on hb); have XQ5 := Lib.hid ((pb_new w4 t (.slice qo c.length capq)).on hb0); obtain ⟨p0, p1, p2⟩ := cells2_of XP5.out; obtain ⟨r0, r1, r2⟩ := cells2_of XR5.out; obtain ⟨q0, q1, q2⟩ := cells2_of XQ5.out; clear hb hb0 RP4 RR4 RQ4 XP4 XR4 HB4)
    | (go_at_call 20; have hgo := HB3.out; refine (HPA.out _ (bl_alloc _ HB3.out)).mono ?_; rintro e w4 ⟨⟨qo, capq, rfl, hr⟩, hb0⟩; have hb := chain5 (box5 _ _) hb0; have HB4 := Lib.hid (chain5 HB3.out hb); have RQ4 := Lib.hid hr; have RP4 := Lib.hid (ownsOn RP3.out hb); have RR4 := Lib.hid (ownsOn RR3.out hb); have XP4 := Lib.hid (XP3.out.on hb); have XR4 := Lib.hid ((pb_new w3 t (.slice bo c.length capr)).on hb0); have HZ4 : Hid (w3.heap.size < w4.heap.size) := lt_of_block XR4.out; obtain ⟨p0, p1, p2⟩ := cells2_of XP4.out; obtain ⟨r0, r1, r2⟩ := cells2_of XR4.out; clear hb hb0 hr hgo RP3 RR3 XP3 HB3)
    | (go_at_call 21; refine (HPR.out _).mono ?_; rintro e w3 ⟨⟨bo, capr, rfl, hr⟩, hb0⟩; have hb := chain5 (box5 _ _) hb0; have RR3 := Lib.hid hr; have RP3 := Lib.hid (ownsOn RP2.out hb); have HB3 := Lib.hid (chain5 HB2.out hb); have XP3 := Lib.hid ((pb_new w2 t (.slice ao c.length cap)).on hb0); have HZ3 : Hid (w2.heap.size < w3.heap.size) := lt_of_block XP3.out; clear hb hb0 hr RP2 HB2)
    | (go_at_call 20; refine (HPA.out _ HB1.out).mono ?_; rintro e w2 ⟨⟨ao, cap, rfl, hr⟩, hb⟩; have RP2 := Lib.hid hr; have HB2 := Lib.hid (chain5 HB1.out hb); have HG2 : Hid (∀ g, g ∈ fpR ao → W.heap.size ≤ g ∧ g < w2.heap.size) := (fun g hg => by have q := hr.lt g (own_fpR.1 hg); have := HB1.out.size; omega); clear hb hr HB1)
    | (go_at_call 9; refine (HL.out _ (Below.refl _ _)).mono ?_; rintro e w1 ⟨rfl, hb⟩; have HB1 := Lib.hid hb; clear hb))
  have HRM := Lib.hid (room_of RP6.out)
  have hcap : cap ≤ 9223372036854775807 := HRM.out.1
  go_loopw [60] (fun vi wr => ∃ i : Nat, vi = .int .i64 i ∧ i ≤ cap ∧ Hid (Turn (fpR ao) (fpR ao) w6 wr) ∧ Hid (RoomAt wr ao cap)) (fun vi _ => cap - (intOf vi).toNat)
  case atStart => exact ⟨0, rfl, Nat.zero_le _, Turn.refl _ _, HRM⟩
  case round =>
    obtain ⟨i, rfl, hi, HTU, HRO⟩ := hrel
    by_cases hlt : i < cap
    · have hlt' : (i : Int) < (cap : Int) := by omega
      obtain ⟨g, hao, hgw, hth⟩ : ∃ g, ao = some ⟨g, 0, none⟩ ∧ g < wr.heap.size ∧ wr.there g 0 (cap * 3) := by
        rcases HRO.out.2 with ⟨_, q⟩ | q
        · omega
        · exact q
      subst hao
      obtain ⟨h0, f0⟩ := hth (i * 3) (by omega)
      obtain ⟨h1, f1⟩ := hth (i * 3 + 1) (by omega)
      obtain ⟨h2, f2⟩ := hth (i * 3 + 2) (by omega)
      rw [Nat.zero_add] at h0 h1 h2 f0 f1 f2
      obtain ⟨y0, e0⟩ := Option.isSome_iff_exists.1 h0
      obtain ⟨y1, e1⟩ := Option.isSome_iff_exists.1 h1
      obtain ⟨y2, e2⟩ := Option.isSome_iff_exists.1 h2
      have HR2 : Hid (RoomAt (((wr.setCell ⟨g, i * 3, none⟩ (.int .i64 99)).setCell ⟨g, i * 3 + 1, none⟩ (.int .i64 i)).setCell ⟨g, i * 3 + 2, none⟩ (.float .f64 0)) (some ⟨g, 0, none⟩) cap) :=
        ⟨hcap, .inr ⟨g, rfl, by simpa using hgw, World.there_setCells (World.there_setCells (World.there_setCells hth g (i * 3) [.int .i64 99]) g (i * 3 + 1) [.int .i64 i]) g (i * 3 + 2) [.float .f64 0]⟩⟩
      have hmem : g ∈ fpR (some ⟨g, 0, none⟩) := by simp [fpR]
      have HT2 := Lib.hid (turn_at (o := i * 3 + 2) (.float .f64 0) (turn_at (o := i * 3 + 1) (.int .i64 i) (turn_at (o := i * 3) (.int .i64 99) HTU.out hmem) hmem) hmem)
      clear h0 h1 h2 hth hmem
      go_wp2
      exact ⟨⟨i + 1, by first | rfl | (congr 1), by omega, HT2, HR2⟩, by simp [intOf]; omega⟩
    · have hlt' : ¬ (i : Int) < (cap : Int) := by omega
      have HX2 : Hid (∀ k, w2.heap.size ≤ k → k ∉ fpR ao) := fun k hk q => by have := (HG2.out k q).2; omega
      have HB7 : Hid (Below W.heap.size W wr) := HB6.out.trans (HTU.out.below (fun k hk => (HG2.out k hk).1) HB6.out.size)
      have z3 := HZ3.out
      have z4 := HZ4.out
      have RR7 : Hid (CodeRow _ wr (.slice bo c.length capr) c) := row_far RR6.out (fun g hg => HX2.out g (by have := (RR6.out.lt g hg).1; simp at this; omega)) HTU.out
      have RQ7 : Hid (CodeRow _ wr (.slice qo c.length capq) c) := row_far RQ6.out (fun g hg => HX2.out g (by have := (RQ6.out.lt g hg).1; simp at this; omega)) HTU.out
      have XR7 : Hid (PBox wr w3.heap.size t (.slice bo c.length capr)) := (HTU.out.block _ (lt_of_block XR6.out) (HX2.out _ (by omega))).trans XR6.out
      have XQ7 : Hid (PBox wr w4.heap.size t (.slice qo c.length capq)) := (HTU.out.block _ (lt_of_block XQ6.out) (HX2.out _ (by omega))).trans XQ6.out
      clear z3 z4 HX2 HTU HRO RR6 RQ6 XR6 XQ6 XP6 RP6 HB6 HPR p0 p1 p2
      go_wp2_with (first
        | (go_at_call 14; refine (HSM.out _ ro bo _ _ CR9.out CW9.out).mono ?_; rintro e w10 ⟨rfl, hb⟩; have HB10 := Lib.hid (chain5 HB9.out hb); clear hb)
        | (go_at_call 14; refine (HSM.out _ qo bo _ _ (RQ8.out.codeAt.on (box5 _ _)) (RR8.out.codeAt.on (box5 _ _))).mono ?_; rintro e w9 ⟨rfl, hb0⟩; have hb := chain5 (box5 _ _) hb0; have HB9 := Lib.hid (chain5 HB8.out hb); have CR9 := Lib.hid (RN8.out.codeAt.on hb); have CW9 := Lib.hid (RR8.out.codeAt.on hb); have xr := XR8.out.on hb; have xn := (pb_new w8 t (.slice ro c.length capn)).on hb0; obtain ⟨r0, r1, r2⟩ := cells2_of xr; obtain ⟨n0, n1, n2⟩ := cells2_of xn; clear hb hb0 xr xn)
        | (go_at_call 20; refine (HPA.out _ HB7.out).mono ?_; rintro e w8 ⟨⟨ro, capn, rfl, hr⟩, hb⟩; have HB8 := Lib.hid (chain5 HB7.out hb); have RN8 := Lib.hid hr; have RR8 := Lib.hid (ownsOn RR7.out hb); have RQ8 := Lib.hid (ownsOn RQ7.out hb); have XR8 := Lib.hid (XR7.out.on hb); have XQ8 := Lib.hid (XQ7.out.on hb); obtain ⟨r0, r1, r2⟩ := cells2_of XR8.out; obtain ⟨q0, q1, q2⟩ := cells2_of XQ8.out; clear hb hr))
      go_ret
      exact ⟨by simp, HB10.out⟩
theorem owns_any (hT : Tabs5 W) : Calls Tryz.prog 8 #[.string a] W fun e W2 => e = .returned (.bool true) ∧ Below W.heap.size W W2 := by
  obtain ⟨t, c, x, ln, hc, hb⟩ := told_both a.data.toList
  refine owns_walk (t := t) (c := c) (x := x) (ln := ln) (Lib.hid fun w h => live5_any w (hT.on h)) (Lib.hid fun w h => ?_) (Lib.hid fun w => ?_) (Lib.hid fun w ao bo cap cap' h1 h2 => ?_)
  · exact (code_parse a w (hT.on h)).mono fun e w' q => hb w w' e q
  · exact (refParse5_any a w).mono fun e w' q => hb w w' e q
  · have := refSame5_any t t cap cap' h1 h2 (by omega) (by omega)
    rw [same_own] at this
    exact this
end
end Go.Proofs.YtlnobfmbnnfbdaaGreatDoor
