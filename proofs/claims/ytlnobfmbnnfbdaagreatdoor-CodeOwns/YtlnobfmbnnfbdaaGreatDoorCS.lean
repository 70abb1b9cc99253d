import Derived.Test.YtlnobfmbnnfbdaaGreatDoorCR
namespace Go.Proofs.YtlnobfmbnnfbdaaGreatDoor
open Go.ChangeShapes Go.WideShapes Go.ChangeAt Go.RowKit Num
attribute [local go_sem] run_store_float

theorem turn_setN {w w' : World} {b c : Nat} (o : Nat) (v : Value) (hc : w.heap.size ≤ c) (h : Turn [b] [b] w w') : Turn [b] [b] w (w'.setCell ⟨c, o, none⟩ v) :=
  ⟨h.os, h.tape, h.output, by simpa using h.size, fun k hk hn => (heap_setCell_other _ _ _ _ (by simp; omega)).trans (h.block k hk hn), h.own⟩
theorem rd_setN {w : World} {b c o : Nat} {r : List UInt8} {l : Int} (v : Value) (h : RdAt w b r l) (hc : c ≠ b) : RdAt (w.setCell ⟨c, o, none⟩ v) b r l := (heap_setCell_other _ _ _ _ (by simpa using fun q => hc q.symm)).trans h
theorem cut_len {c : UInt8} (l : List UInt8) : (cutB c l).1.length ≤ l.length ∧ (cutB c l).2.1.length ≤ l.length := by
  rcases cutB_cases c l with ⟨a, b, rfl, _, e⟩ | ⟨_, e⟩ <;> rw [e] <;> simp <;> omega
section
variable {W w : World} {b : Nat} {rest : List UInt8} {line : Int}
set_option maxHeartbeats 2000000 in
set_option maxRecDepth 100000 in
theorem tag_ok {x y : List UInt8} {t : Int} (hT : Tabs5 W) (hB : Below W.heap.size W w) (hb : W.heap.size ≤ b) (h : RdAt w b rest line) (h0 : 0 ≤ line) (hl : line < 1025) (hr : rest.length ≤ 65536) (hc : cutB 10 rest = (x, y, true)) (ht : tagOf x = some t) :
    Calls Tryz.prog 48 #[.pointer (some ⟨b, 0, none⟩)] w fun r w' => r = .returned (.int .i64 t) ∧ RdAt w' b y (line + 1) ∧ Turn [b] [b] w w' := by
  have HN := Lib.hid (next_ok hT hB hb h h0 hl hr hc)
  obtain ⟨h1, h2⟩ := of_tag ht
  clear hT hB h hc ht
  rcases h1 with rfl | rfl
  · have e : x = [114, 101, 97, 100, 115] := h2.symm.trans rfl
    subst e
    clear h2
    go_enter Tryz.func48, Tryz.ntmps48
    go_wp2_with (first
      | (go_at_call 67; refine HN.out.mono ?_; rintro e w' ⟨rfl, h1, h2⟩; have HR := Lib.hid h1; have HU := Lib.hid h2; clear h1 h2))
    go_ret
    exact ⟨rfl, HR.out, HU.out⟩
  · have e : x = [117, 112, 100, 97, 116, 101, 115] := h2.symm.trans rfl
    subst e
    clear h2
    go_enter Tryz.func48, Tryz.ntmps48
    go_wp2_with (first
      | (go_at_call 67; refine HN.out.mono ?_; rintro e w' ⟨rfl, h1, h2⟩; have HR := Lib.hid h1; have HU := Lib.hid h2; clear h1 h2))
    go_ret
    exact ⟨rfl, HR.out, HU.out⟩
set_option maxHeartbeats 2000000 in
set_option maxRecDepth 100000 in
theorem tag_no {x y : List UInt8} (hT : Tabs5 W) (hB : Below W.heap.size W w) (hb : W.heap.size ≤ b) (h : RdAt w b rest line) (h0 : 0 ≤ line) (hl : line < 1025) (hr : rest.length ≤ 65536) (hc : cutB 10 rest = (x, y, true)) (ht : tagOf x = none) :
    Calls Tryz.prog 48 #[.pointer (some ⟨b, 0, none⟩)] w fun r w' => r = gaveUp 20 (line + 1) ∧ Turn [b] [b] w w' := by
  have HN := Lib.hid (next_ok hT hB hb h h0 hl hr hc)
  have h1 : (x == [114, 101, 97, 100, 115]) = false := by
    rw [beq_eq_false_iff_ne]
    intro q
    subst q
    exact absurd ht (by decide +kernel)
  have h2 : (x == [117, 112, 100, 97, 116, 101, 115]) = false := by
    rw [beq_eq_false_iff_ne]
    intro q
    subst q
    exact absurd ht (by decide +kernel)
  clear hT hB h hc ht
  go_enter Tryz.func48, Tryz.ntmps48
  go_wp2_with (first
    | (go_at_call 67; refine HN.out.mono ?_; rintro e w' ⟨rfl, h1, h2⟩; have HR := Lib.hid h1; have HU := Lib.hid h2; clear h1 h2)
    | (go_at_call 68; refine (giveUp_any b y (line + 1) 20 _ HR.out).mono ?_; rintro e w2 ⟨rfl, hb2⟩; have HB2 := Lib.hid hb2; clear hb2))
  exact ⟨rfl, rfl, HU.out.trans (turn_below HB2.out)⟩
theorem tag_bad (hN : Calls Tryz.prog 67 #[.pointer (some ⟨b, 0, none⟩)] w fun r w' => r = gaveUp 20 line ∧ Turn [b] [b] w w') :
    Calls Tryz.prog 48 #[.pointer (some ⟨b, 0, none⟩)] w fun r w' => r = gaveUp 20 line ∧ Turn [b] [b] w w' := by
  have HN := Lib.hid hN
  clear hN
  go_enter Tryz.func48, Tryz.ntmps48
  go_wp2_with (first
    | (go_at_call 67; refine HN.out.mono ?_; rintro e w' ⟨rfl, h2⟩; have HU := Lib.hid h2; clear h2))
  exact ⟨rfl, rfl, HU.out⟩
set_option maxHeartbeats 2000000 in
set_option maxRecDepth 100000 in
theorem instr_bad0 {e : Int} (hN : ∀ w1, Below w.heap.size w w1 → Calls Tryz.prog 67 #[.pointer (some ⟨b, 0, none⟩)] w1 fun r w' => r = gaveUp e line ∧ Turn [b] [b] w1 w') :
    Calls Tryz.prog 49 #[.pointer (some ⟨b, 0, none⟩)] w fun r w' => r = gaveUp e line ∧ Turn [b] [b] w w' := by
  have HN := Lib.hid hN
  clear hN
  go_enter Tryz.func49, Tryz.ntmps49
  go_wp2_with (first
    | (go_at_call 67; refine (HN.out _ (box5 _ _)).mono ?_; rintro e w' ⟨rfl, h2⟩; have HU := Lib.hid ((turn_below (box5 _ _)).trans h2); clear h2))
  exact ⟨rfl, rfl, HU.out⟩
set_option maxHeartbeats 2000000 in
set_option maxRecDepth 100000 in
theorem instr_bad1 {x y : List UInt8} (hT : Tabs5 W) (hB : Below W.heap.size W w) (hb : W.heap.size ≤ b) (h : RdAt w b rest line) (h0 : 0 ≤ line) (hl : line < 1025) (hr : rest.length ≤ 65536) (hc : cutB 10 rest = (x, y, true)) (hn : namedW (cutB 32 x).1 = none) :
    Calls Tryz.prog 49 #[.pointer (some ⟨b, 0, none⟩)] w fun r w' => r = gaveUp 20 (line + 1) ∧ Turn [b] [b] w w' := by
  have hx : x.length ≤ 65536 := by have := (cut_len (c := 10) rest).1; rw [hc] at this; exact Nat.le_trans this hr
  have hbx := box5 w (.cells #[.int .i64 0, .int .i64 0, .float .f64 0] 42)
  have HN := Lib.hid (next_ok hT (hB.trans (hbx.mono hB.size)) hb (h.on hbx) h0 hl hr hc)
  have HT := Lib.hid hT
  have HBB := Lib.hid (hB.trans (hbx.mono hB.size))
  have HC := Lib.hid (fun w' h => cut_any x 32 w' h hx)
  have HNM := Lib.hid (fun w' h => named_any (cutB 32 x).1 w' h)
  rw [hn] at HNM
  unfold namedV insV at HNM
  generalize (cutB 32 x).1 = x1 at HC HNM
  generalize (cutB 32 x).2.1 = x2 at HC
  generalize (cutB 32 x).2.2 = x3 at HC
  clear hT hB h hc hn hbx
  go_enter Tryz.func49, Tryz.ntmps49
  go_wp2_with (first
    | (go_at_call 67; refine HN.out.mono ?_; rintro e w1 ⟨rfl, h1, h2⟩; have HR := Lib.hid h1; have HB1 := Lib.hid (turn_base HBB.out hb h2); have HU := Lib.hid ((turn_below (box5 _ _)).trans h2); clear h1 h2)
    | (go_at_call 69; refine (HC.out _ (HT.out.on HB1.out).len).mono ?_; rintro e w' ⟨rfl, n, hw⟩; subst w')
    | (go_at_call 70; refine (HNM.out _ (HT.out.on (HB1.out.trans ((Same.drewN _ n).below _))).sh).mono ?_; rintro e w3 ⟨rfl, hb3⟩; have HB3 := Lib.hid hb3; clear hb3)
    | (go_at_call 71; refine (mustBe_no b y (line + 1) _ ((HR.out.on ((Same.drewN _ n).below _)).on (chain5 HB3.out (box5 _ _)))).mono ?_; rintro e w4 ⟨rfl, hb4⟩; have HB4 := Lib.hid hb4; clear hb4))
  exact ⟨rfl, rfl, HU.out.trans ((turn_below ((Same.drewN _ n).below _)).trans ((turn_below (chain5 HB3.out (box5 _ _))).trans (turn_below HB4.out)))⟩
end
end Go.Proofs.YtlnobfmbnnfbdaaGreatDoor
