import Derived.Test.YtlnobfmbnnfbdaaGreatDoorCN
import Derived.Shelf.Strings.Cut
namespace Go.Proofs.YtlnobfmbnnfbdaaGreatDoor
open Go.ChangeShapes Go.WideShapes Go.ChangeAt Go.RowKit Num
attribute [local go_sem] run_store_float

/-- whoever reads: what is left of the text, the number of the line that was taken last -/
def RdAt (w : World) (b : Nat) (rest : List UInt8) (line : Int) : Prop := w.heap[b]? = some (.cells #[.string ⟨rest.toArray⟩, .int .i64 line] 69 (0, 0))
theorem RdAt.lt {w : World} {b : Nat} {rest : List UInt8} {line : Int} (h : RdAt w b rest line) : b < w.heap.size := lt_of_block h
theorem RdAt.on {w w' : World} {b : Nat} {rest : List UInt8} {line : Int} (h : RdAt w b rest line) (k : Below w.heap.size w w') : RdAt w' b rest line := (k.block b h.lt).trans h
theorem RdAt.setL {w : World} {b : Nat} {rest : List UInt8} {line : Int} (h : RdAt w b rest line) (n : Int) : RdAt (w.setCell ⟨b, 1, none⟩ (.int .i64 n)) b rest n := (heap_setCell_same w b 1 _ _ _ h).trans rfl
theorem RdAt.setR {w : World} {b : Nat} {rest : List UInt8} {line : Int} (h : RdAt w b rest line) (r : List UInt8) : RdAt (w.setCell ⟨b, 0, none⟩ (.string ⟨r.toArray⟩)) b r line := (heap_setCell_same w b 0 _ _ _ h).trans rfl
theorem turn_set (w : World) (b o : Nat) (v : Value) : Turn [b] [b] w (w.setCell ⟨b, o, none⟩ v) :=
  ⟨rfl, rfl, rfl, by simp, fun k _ hn => heap_setCell_other _ _ _ _ (by simpa using hn), fun _ hk => .inl hk⟩
theorem turn_below {b : Nat} {w w' : World} (h : Below w.heap.size w w') : Turn [b] [b] w w' := ⟨h.os, h.tape, h.output, h.size, fun k hk _ => h.block k hk, fun _ hk => .inl hk⟩
theorem turn_base {W w w' : World} {b : Nat} (h : Below W.heap.size W w) (hb : W.heap.size ≤ b) (k : Turn [b] [b] w w') : Below W.heap.size W w' := h.trans (k.below (fun i hi => by simp at hi; omega) h.size)
abbrev gaveUp (e line : Int) : Ending := .panicked [{ v := .iface 67 (.agg #[.int .i64 e, .int .i64 line]), recovered := false }]
theorem cut_any (l : List UInt8) (c : UInt8) (w : World) (hm : ∃ m, w.cell? ⟨5, 0, none⟩ = some (.int .i64 m)) (hl : l.length ≤ 65536) :
    Calls Tryz.prog 69 #[.string ⟨l.toArray⟩, .string ⟨#[c]⟩] w fun e w' => e = .returned (.tuple #[.string ⟨(cutB c l).1.toArray⟩, .string ⟨(cutB c l).2.1.toArray⟩, .bool (cutB c l).2.2]) ∧ ∃ n, w' = w.drewN n := by
  obtain ⟨m, hm⟩ := hm
  have h := Any.strings_Cut Tryz.lays145 ⟨l.toArray⟩ ⟨#[c]⟩ m w (by rw [size_list]; simp; omega) hm
  rw [show (⟨l.toArray⟩ : ByteArray).data.toList = l from rfl, show (⟨#[c]⟩ : ByteArray).data.toList = [c] from rfl, cut_eq] at h
  exact h
theorem giveUp_any (b : Nat) (rest : List UInt8) (line e : Int) (w : World) (h : RdAt w b rest line) : Calls Tryz.prog 68 #[.pointer (some ⟨b, 0, none⟩), .int .i64 e] w fun r w' => r = gaveUp e line ∧ Below w.heap.size w w' := by
  obtain ⟨q0, q1, q2⟩ := cells2_of h
  clear h
  go_enter Tryz.func68, Tryz.ntmps68
  go_wp2
  exact ⟨rfl, rfl, Below.refl _ _⟩
theorem mustBe_no (b : Nat) (rest : List UInt8) (line : Int) (w : World) (h : RdAt w b rest line) : Calls Tryz.prog 71 #[.pointer (some ⟨b, 0, none⟩), .bool false] w fun r w' => r = gaveUp 20 line ∧ Below w.heap.size w w' := by
  have HG := Lib.hid (giveUp_any b rest line 20 w h)
  clear h
  go_enter Tryz.func71, Tryz.ntmps71
  go_wp2_with (first | (go_at_call 68; refine HG.out.mono ?_; rintro e w' ⟨rfl, hb⟩; have HB := Lib.hid hb; clear hb))
  exact ⟨rfl, rfl, HB.out⟩
theorem mustBe_yes (b : Nat) (w : World) : Calls Tryz.prog 71 #[.pointer (some ⟨b, 0, none⟩), .bool true] w fun r w' => r = .returned (.tuple #[]) ∧ w' = w := by
  go_enter Tryz.func71, Tryz.ntmps71
  go_wp2
  go_end0
  exact ⟨rfl, rfl⟩
section
variable {W w : World} {b : Nat} {rest : List UInt8} {line : Int}
set_option maxHeartbeats 2000000 in
set_option maxRecDepth 100000 in
theorem next_far (h : RdAt w b rest line) (hl : line = 1025) : Calls Tryz.prog 67 #[.pointer (some ⟨b, 0, none⟩)] w fun r w' => r = gaveUp 50 1026 ∧ Turn [b] [b] w w' := by
  subst hl
  obtain ⟨q0, q1, q2⟩ := cells2_of h
  have f1 := frozen_of_row w b 1 _ _ h
  have HG := Lib.hid (giveUp_any b rest 1026 50 _ (h.setL 1026))
  clear h
  go_enter Tryz.func67, Tryz.ntmps67
  go_wp2_with (first | (go_at_call 68; refine HG.out.mono ?_; rintro e w' ⟨rfl, hb⟩; have HB := Lib.hid hb; clear hb))
  exact ⟨rfl, rfl, (turn_set w b 1 _).trans (turn_below HB.out)⟩
set_option maxHeartbeats 2000000 in
set_option maxRecDepth 100000 in
theorem next_end (hT : Tabs5 W) (hB : Below W.heap.size W w) (hb : W.heap.size ≤ b) (h : RdAt w b rest line) (h0 : 0 ≤ line) (hl : line < 1025) (hr : rest.length ≤ 65536) (hc : (cutB 10 rest).2.2 = false) :
    Calls Tryz.prog 67 #[.pointer (some ⟨b, 0, none⟩)] w fun r w' => r = gaveUp 20 (line + 1) ∧ Turn [b] [b] w w' := by
  obtain ⟨q0, q1, q2⟩ := cells2_of h
  have f1 := frozen_of_row w b 1 _ _ h
  have h2 := h.setL (line + 1)
  have HR := Lib.hid h2
  have HC := Lib.hid (cut_any rest 10 (w.setCell ⟨b, 1, none⟩ (.int .i64 (line + 1))) (hT.on (turn_base hB hb (turn_set w b 1 (.int .i64 (line + 1))))).len hr)
  rw [hc] at HC
  generalize (cutB 10 rest).1 = x1 at HC
  generalize (cutB 10 rest).2.1 = x2 at HC
  have hn : (line + 1 == 1026) = false := by simp; omega
  clear h h2 hc hT hB
  go_enter Tryz.func67, Tryz.ntmps67
  go_wp2_with (first
    | (go_at_call 69; refine HC.out.mono ?_; rintro e w' ⟨rfl, n, hw⟩; subst w')
    | (go_at_call 71; refine (mustBe_no b rest (line + 1) _ (HR.out.on ((Same.drewN _ n).below _))).mono ?_; rintro e w2 ⟨rfl, hb2⟩; have HB2 := Lib.hid hb2; clear hb2))
  exact ⟨rfl, rfl, (turn_set w b 1 _).trans ((turn_below ((Same.drewN _ n).below _)).trans (turn_below HB2.out))⟩
set_option maxHeartbeats 2000000 in
set_option maxRecDepth 100000 in
theorem next_ok {x y : List UInt8} (hT : Tabs5 W) (hB : Below W.heap.size W w) (hb : W.heap.size ≤ b) (h : RdAt w b rest line) (h0 : 0 ≤ line) (hl : line < 1025) (hr : rest.length ≤ 65536) (hc : cutB 10 rest = (x, y, true)) :
    Calls Tryz.prog 67 #[.pointer (some ⟨b, 0, none⟩)] w fun r w' => r = .returned (.string ⟨x.toArray⟩) ∧ RdAt w' b y (line + 1) ∧ Turn [b] [b] w w' := by
  obtain ⟨q0, q1, q2⟩ := cells2_of h
  have f1 := frozen_of_row w b 1 _ _ h
  have f0 := frozen_of_row w b 0 _ _ h
  have h2 := h.setL (line + 1)
  have HR := Lib.hid h2
  have HC := Lib.hid (cut_any rest 10 (w.setCell ⟨b, 1, none⟩ (.int .i64 (line + 1))) (hT.on (turn_base hB hb (turn_set w b 1 (.int .i64 (line + 1))))).len hr)
  rw [hc] at HC
  have hn : (line + 1 == 1026) = false := by simp; omega
  clear h h2 hc hT hB
  go_enter Tryz.func67, Tryz.ntmps67
  go_wp2_with (first
    | (go_at_call 69; refine HC.out.mono ?_; rintro e w' ⟨rfl, n, hw⟩; subst w')
    | (go_at_call 71; refine (mustBe_yes b _).mono ?_; rintro e w2 ⟨rfl, hw2⟩; subst w2))
  go_ret
  exact ⟨rfl, (HR.out.on ((Same.drewN _ n).below _)).setR y, (turn_set w b 1 _).trans ((turn_below ((Same.drewN _ n).below _)).trans (turn_set _ b 0 _))⟩
theorem parse5 (s : List UInt8) (w : World) (hT : Tabs5 w) (hs : s.length ≤ 65536) : Calls Tryz.prog 83 #[.string ⟨s.toArray⟩] w fun e w' => e = .returned (.tuple #[.float .f64 (parseR s).1, .int .i64 (parseR s).2]) ∧ Below w.heap.size w w' :=
  parse_any ⟨s.toArray⟩ w hT.base (by rw [size_list]; simp; omega)
theorem whole5 (s : List UInt8) (w : World) (hT : Tabs5 w) (hs : s.length ≤ 65536) : Calls Tryz.prog 84 #[.string ⟨s.toArray⟩] w fun e w' => e = .returned (.tuple #[.int .i64 (wholeR s).1, .int .i64 (wholeR s).2]) ∧ Below w.heap.size w w' :=
  whole_any ⟨s.toArray⟩ w hT.base (by rw [size_list]; simp; omega)
theorem number_ok (s : List UInt8) (hT : Tabs5 w) (hs : s.length ≤ 65536) (h0 : (parseR s).2 = 0) : Calls Tryz.prog 72 #[.pointer (some ⟨b, 0, none⟩), .string ⟨s.toArray⟩] w fun r w' => r = .returned (.float .f64 (parseR s).1) ∧ Below w.heap.size w w' := by
  have HP := Lib.hid (parse5 s w hT hs)
  rw [h0] at HP
  generalize (parseR s).1 = x at HP ⊢
  clear hT h0
  go_enter Tryz.func72, Tryz.ntmps72
  go_wp2_with (first
    | (go_at_call 83; refine HP.out.mono ?_; rintro e w' ⟨rfl, hb⟩; have HB := Lib.hid hb; clear hb)
    | (go_at_call 71; refine (mustBe_yes b _).mono ?_; rintro e w2 ⟨rfl, hw2⟩; subst w2))
  go_ret
  exact ⟨rfl, HB.out⟩
theorem number_no (s : List UInt8) (hT : Tabs5 w) (hs : s.length ≤ 65536) (hR : RdAt w b rest line) (h0 : (parseR s).2 ≠ 0) : Calls Tryz.prog 72 #[.pointer (some ⟨b, 0, none⟩), .string ⟨s.toArray⟩] w fun r w' => r = gaveUp 20 line ∧ Below w.heap.size w w' := by
  have HP := Lib.hid (parse5 s w hT hs)
  have h20 : parseR s = (0, 20) := (parseR_two s).resolve_left h0
  rw [h20] at HP
  have HR := Lib.hid hR
  clear hT h0 hR h20
  go_enter Tryz.func72, Tryz.ntmps72
  go_wp2_with (first
    | (go_at_call 83; refine HP.out.mono ?_; rintro e w' ⟨rfl, hb⟩; have HB := Lib.hid hb; clear hb)
    | (go_at_call 71; refine (mustBe_no b rest line _ (HR.out.on HB.out)).mono ?_; rintro e w2 ⟨rfl, hb2⟩; have HB2 := Lib.hid hb2; clear hb2))
  exact ⟨rfl, rfl, chain5 HB.out HB2.out⟩
theorem whole_ok (k : Nat) (hk : k < 21) (s : List UInt8) (hT : Tabs5 w) (hs : s.length ≤ 65536) (h0 : (wholeR s).2 = 0) (hf : fitsB k (wholeR s).1 = true) : Calls Tryz.prog 73 #[.pointer (some ⟨b, 0, none⟩), .int .i64 k, .string ⟨s.toArray⟩] w fun r w' => r = .returned (.int .i64 (wholeR s).1) ∧ Below w.heap.size w w' := by
  have HP := Lib.hid (whole5 s w hT hs)
  have HF := Lib.hid (fun w' h => fits_any k (wholeR s).1 w' h hk)
  rw [h0] at HP
  rw [hf] at HF
  have HT := Lib.hid hT
  generalize (wholeR s).1 = x at HP HF ⊢
  clear hT h0 hf
  go_enter Tryz.func73, Tryz.ntmps73
  go_wp2_with (first
    | (go_at_call 84; refine HP.out.mono ?_; rintro e w' ⟨rfl, hb⟩; have HB := Lib.hid hb; clear hb)
    | (go_at_call 37; refine (HF.out _ (HT.out.on HB.out).sh).mono ?_; rintro e w2 ⟨rfl, hw2⟩; subst w2)
    | (go_at_call 71; refine (mustBe_yes b _).mono ?_; rintro e w2 ⟨rfl, hw2⟩; subst w2))
  go_ret
  exact ⟨rfl, HB.out⟩
theorem whole_no (k : Nat) (hk : k < 21) (s : List UInt8) (hT : Tabs5 w) (hs : s.length ≤ 65536) (hR : RdAt w b rest line) (h0 : ¬ ((wholeR s).2 = 0 ∧ fitsB k (wholeR s).1 = true)) : Calls Tryz.prog 73 #[.pointer (some ⟨b, 0, none⟩), .int .i64 k, .string ⟨s.toArray⟩] w fun r w' => r = gaveUp 20 line ∧ Below w.heap.size w w' := by
  have HP := Lib.hid (whole5 s w hT hs)
  have HT := Lib.hid hT
  have HR := Lib.hid hR
  rcases wholeR_two s with h1 | h1
  · have hf : fitsB k (wholeR s).1 = false := by
      cases q : fitsB k (wholeR s).1
      · rfl
      · exact absurd ⟨h1, q⟩ h0
    have HF := Lib.hid (fun w' h => fits_any k (wholeR s).1 w' h hk)
    rw [h1] at HP
    rw [hf] at HF
    generalize (wholeR s).1 = x at HP HF
    clear hT h0 hf h1 hR
    go_enter Tryz.func73, Tryz.ntmps73
    go_wp2_with (first
      | (go_at_call 84; refine HP.out.mono ?_; rintro e w' ⟨rfl, hb⟩; have HB := Lib.hid hb; clear hb)
      | (go_at_call 37; refine (HF.out _ (HT.out.on HB.out).sh).mono ?_; rintro e w2 ⟨rfl, hw2⟩; subst w2)
      | (go_at_call 71; refine (mustBe_no b rest line _ (HR.out.on HB.out)).mono ?_; rintro e w2 ⟨rfl, hb2⟩; have HB2 := Lib.hid hb2; clear hb2))
    exact ⟨rfl, rfl, chain5 HB.out HB2.out⟩
  · rw [h1] at HP
    clear hT h0 h1 hR
    go_enter Tryz.func73, Tryz.ntmps73
    go_wp2_with (first
      | (go_at_call 84; refine HP.out.mono ?_; rintro e w' ⟨rfl, hb⟩; have HB := Lib.hid hb; clear hb)
      | (go_at_call 71; refine (mustBe_no b rest line _ (HR.out.on HB.out)).mono ?_; rintro e w2 ⟨rfl, hb2⟩; have HB2 := Lib.hid hb2; clear hb2))
    exact ⟨rfl, rfl, chain5 HB.out HB2.out⟩
end
end Go.Proofs.YtlnobfmbnnfbdaaGreatDoor
