import Derived.Test.YtdfmmolhfacahaaV6
namespace Go.Proofs.Ytdfmmolhfacahaa
open Go.ChangeShapes Go.WideShapes Go.ChangeAt Go.RowKit

/-- a plan in a block of its own -/
def PlnAt (w : World) (q : Nat) (a0 a1 a2 a3 a4 a5 : Int) : Prop := w.heap[q]? = some (.cells #[.int .i64 a0, .int .i64 a1, .int .i64 a2, .int .i64 a3, .int .i64 a4, .int .i64 a5] 25 (0, 0))
theorem PlnAt.cells {w : World} {q : Nat} {a0 a1 a2 a3 a4 a5 : Int} (h : PlnAt w q a0 a1 a2 a3 a4 a5) : w.cell? ⟨q, 0, none⟩ = some (.int .i64 a0) ∧ w.cell? ⟨q, 1, none⟩ = some (.int .i64 a1) ∧ w.cell? ⟨q, 2, none⟩ = some (.int .i64 a2) ∧ w.cell? ⟨q, 3, none⟩ = some (.int .i64 a3) ∧ w.cell? ⟨q, 4, none⟩ = some (.int .i64 a4) ∧ w.cell? ⟨q, 5, none⟩ = some (.int .i64 a5) ∧ q < w.heap.size :=
  ⟨by rw [cell_of_row w q 0 _ _ _ h]; rfl, by rw [cell_of_row w q 1 _ _ _ h]; rfl, by rw [cell_of_row w q 2 _ _ _ h]; rfl, by rw [cell_of_row w q 3 _ _ _ h]; rfl, by rw [cell_of_row w q 4 _ _ _ h]; rfl, by rw [cell_of_row w q 5 _ _ _ h]; rfl, lt_of_block h⟩
theorem fresh_any (k : Nat) (h1 : 1 ≤ k) (h2 : k ≤ 4096) (w : World) : Calls Try.prog 8 #[.int .i64 k] w fun e w' => e = .returned (.pointer (some ⟨w.heap.size + 1, 0, none⟩)) ∧ MemAt 79 w' (w.heap.size + 1) w.heap.size (List.replicate k 0) false 0 ∧ Below w.heap.size w w' := by
  have HN := Lib.hid (new_some k h1 h2 w)
  clear h1 h2
  go_enter Try.func8, Try.ntmps8
  go_wp2_with (go_at_call 17; refine HN.out.mono ?_; rintro e w1 ⟨rfl, hm, hb⟩; have HM1 := Lib.hid hm; have HB1 := Lib.hid hb; clear hm hb)
  go_ret
  exact ⟨rfl, HM1.out, HB1.out⟩
section
variable {w : World} {b g x : Nat} {ws : List Int} {o : Bool} {n : Int} {c : Cs}
theorem comes_any (h : MemAt 79 w b g ws o n) (hx : CmAt w x c) (hc : COk c) : Calls Try.prog 28 #[.pointer (some ⟨b, 0, none⟩), .pointer (some ⟨x, 0, none⟩)] w fun e w' => e = .returned (.tuple #[.bool (cO c ws true), .int .i64 (cE c ws true)]) ∧ MemAt 79 w' b g (cW c ws true) (cP c ws true) (cQ c ws true n) ∧ CmAt w' x (cC c ws true) ∧ Ch3 b g x w w' := by
  have HN := Lib.hid (hx.ne h)
  have HX := Lib.hid hx
  have HM := Lib.hid h
  have HC := Lib.hid hc
  have hl := hx.lt
  clear h hx hc
  go_enter Try.func28, Try.ntmps28
  go_wp2_with (first
    | (go_at_call 11; refine (open_any HM.out).mono ?_; rintro e w1 ⟨rfl, hm, hch⟩; have HM1 := Lib.hid hm; have HC1 := Lib.hid hch; have HX1 := Lib.hid (HX.out.keep (hch.block x hl HN.out.1 HN.out.2)); clear hm hch HM HX)
    | (go_at_call 12; refine (cstep_any HM1.out HX1.out HC.out).mono ?_; rintro e w2 ⟨rfl, hm, hx, hch⟩; have HZ := Lib.hid (And.intro hm (And.intro hx (((Ch3.refl b g x w).chg HC1.out).trans hch))); clear hm hx hch))
  go_ret2
  exact ⟨rfl, HZ.out⟩
end
/-- a memory, a plan (stamp at 0, census from 1 on), a coming, a scan: all new since W -/
structure Own (W w : World) (b g q x z : Nat) (ws : List Int) (o : Bool) (n : Int) (c : Cs) (s : Ss) : Prop where
  m : MemAt 79 w b g ws o n
  p : PlnAt w q 0 0 0 1 0 0
  c : CmAt w x c
  s : ScAt w z s
  below : Below W.heap.size W w
  lo : W.heap.size ≤ b ∧ W.heap.size ≤ g ∧ W.heap.size ≤ x ∧ W.heap.size ≤ z
section
variable {W w w' : World} {b g q x z : Nat} {ws ws' : List Int} {o o' : Bool} {n n' : Int} {c c' : Cs} {s s' : Ss}
theorem Own.on (h : Own W w b g q x z ws o n c s) (k : Below w.heap.size w w') : Own W w' b g q x z ws o n c s := ⟨h.m.on k, (k.block q (lt_of_block h.p)).trans h.p, h.c.on k, h.s.on k, below_step h.below k, h.lo⟩
theorem Own.onM (h : Own W w b g q x z ws o n c s) (hm : MemAt 79 w' b g ws' o' n') (k : Chg b g w w') : Own W w' b g q x z ws' o' n' c s :=
  ⟨hm, (k.block q (lt_of_block h.p) (ne_ty h.p h.m.box rfl) (ne_ty h.p h.m.row rfl)).trans h.p, h.c.keep (k.block x h.c.lt (h.c.ne h.m).1 (h.c.ne h.m).2), h.s.keep (k.block z h.s.lt (h.s.ne h.m).1 (h.s.ne h.m).2), below_chg h.below k h.lo.1 h.lo.2.1, h.lo⟩
theorem Own.onC (h : Own W w b g q x z ws o n c s) (hm : MemAt 79 w' b g ws' o' n') (hx : CmAt w' x c') (k : Ch3 b g x w w') : Own W w' b g q x z ws' o' n' c' s :=
  ⟨hm, (k.block q (lt_of_block h.p) (ne_ty h.p h.m.box rfl) (ne_ty h.p h.m.row rfl) (ne_ty h.p h.c rfl)).trans h.p, hx, h.s.keep (k.block z h.s.lt (h.s.ne h.m).1 (h.s.ne h.m).2 (ne_ty h.s h.c rfl)), h.below.trans (k.below h.lo.1 h.lo.2.1 h.lo.2.2.1 h.below.size), h.lo⟩
theorem Own.onS (h : Own W w b g q x z ws o n c s) (hm : MemAt 79 w' b g ws' o' n') (hz : ScAt w' z s') (k : Ch3 b g z w w') : Own W w' b g q x z ws' o' n' c s' :=
  ⟨hm, (k.block q (lt_of_block h.p) (ne_ty h.p h.m.box rfl) (ne_ty h.p h.m.row rfl) (ne_ty h.p h.s rfl)).trans h.p, h.c.keep (k.block x h.c.lt (h.c.ne h.m).1 (h.c.ne h.m).2 (ne_ty h.c h.s rfl)), hz, h.below.trans (k.below h.lo.1 h.lo.2.1 h.lo.2.2.2 h.below.size), h.lo⟩
/-- the first two -/
structure Own0 (W w : World) (b g q : Nat) (ws : List Int) (o : Bool) (n : Int) : Prop where
  m : MemAt 79 w b g ws o n
  p : PlnAt w q 0 0 0 1 0 0
  below : Below W.heap.size W w
  lo : W.heap.size ≤ b ∧ W.heap.size ≤ g
theorem own0_new {w1 : World} (hb1 : Below W.heap.size W w1) (hm : MemAt 79 w (w1.heap.size + 1) w1.heap.size ws o n) (hb : Below w1.heap.size w1 w) : Own0 W (w.alloc (.cells #[.int .i64 0, .int .i64 0, .int .i64 0, .int .i64 1, .int .i64 0, .int .i64 0] 25)) (w1.heap.size + 1) w1.heap.size w.heap.size ws o n :=
  ⟨hm.alloc _, heap_alloc_new _ _, tb_alloc (below_step hb1 hb) _, ⟨by have := hb1.size; omega, hb1.size⟩⟩
theorem Own0.on (h : Own0 W w b g q ws o n) (k : Below w.heap.size w w') : Own0 W w' b g q ws o n := ⟨h.m.on k, (k.block q (lt_of_block h.p)).trans h.p, below_step h.below k, h.lo⟩
/-- with a coming and a scan -/
theorem Own0.own {w2 w3 : World} (h : Own0 W w b g q ws o n) (hx : CmAt w2 x c) (lx : w.heap.size ≤ x) (h2 : Below w.heap.size w w2) (hz : ScAt w3 z s) (lz : w2.heap.size ≤ z) (h3 : Below w2.heap.size w2 w3) : Own W w3 b g q x z ws o n c s :=
  have hs := h.below.size
  have hs2 := h2.size
  ⟨(h.m.on h2).on h3, (((h.on h2).on h3)).p, hx.on h3, hz, ((h.on h2).on h3).below, ⟨h.lo.1, h.lo.2, by omega, by omega⟩⟩
end
theorem liv1 : cO ⟨0, 1, 1, 0, 0, 0⟩ [0, 0, 0, 0] true = false ∧ cE ⟨0, 1, 1, 0, 0, 0⟩ [0, 0, 0, 0] true = 0 ∧ cW ⟨0, 1, 1, 0, 0, 0⟩ [0, 0, 0, 0] true = [0, 0, 0, 0] ∧ cC ⟨0, 1, 1, 0, 0, 0⟩ [0, 0, 0, 0] true = ⟨0, 1, 1, 1, 0, 0⟩ := ⟨by kernel_rfl, by kernel_rfl, by kernel_rfl, by kernel_rfl⟩
theorem liv2 : cO ⟨0, 1, 1, 1, 0, 0⟩ [0, 0, 0, 0] true = false ∧ cE ⟨0, 1, 1, 1, 0, 0⟩ [0, 0, 0, 0] true = 0 ∧ cW ⟨0, 1, 1, 1, 0, 0⟩ [0, 0, 0, 0] true = [0, 0, 1, 0] ∧ cC ⟨0, 1, 1, 1, 0, 0⟩ [0, 0, 0, 0] true = ⟨0, 1, 1, 2, 0, 0⟩ := ⟨by kernel_rfl, by kernel_rfl, by kernel_rfl, by kernel_rfl⟩
theorem liv3 : errA [0, 0, 1, 0] true 0 = 0 ∧ stored [0, 0, 1, 0] true 0 1 = [1, 0, 1, 0] := ⟨by kernel_rfl, by kernel_rfl⟩
theorem liv4 : cO ⟨0, 1, 1, 2, 0, 0⟩ [1, 0, 1, 0] true = true ∧ cE ⟨0, 1, 1, 2, 0, 0⟩ [1, 0, 1, 0] true = 0 ∧ cW ⟨0, 1, 1, 2, 0, 0⟩ [1, 0, 1, 0] true = [1, 0, 1, 0] ∧ cC ⟨0, 1, 1, 2, 0, 0⟩ [1, 0, 1, 0] true = ⟨0, 1, 1, 3, 0, 1⟩ := ⟨by kernel_rfl, by kernel_rfl, by kernel_rfl, by kernel_rfl⟩
theorem liv5 : kV [1, 0, 1, 0] 1 1 = 0 ∧ kB [1, 0, 1, 0] 1 1 = true ∧ kE [1, 0, 1, 0] 1 1 = 0 := ⟨by kernel_rfl, by kernel_rfl, by kernel_rfl⟩
theorem liv6 : sC ⟨1, 2, 1, 0, 0⟩ [1, 0, 1, 0] true = ⟨1, 2, 1, 1, 0⟩ := by kernel_rfl
theorem liv7 : sC ⟨1, 2, 1, 1, 0⟩ [1, 0, 1, 0] true = ⟨1, 2, 1, 1, 1⟩ := by kernel_rfl
theorem cok1 : COk ⟨0, 1, 1, 1, 0, 0⟩ := ⟨by decide, by decide, by decide⟩
theorem cok2 : COk ⟨0, 1, 1, 2, 0, 0⟩ := ⟨by decide, by decide, by decide⟩
theorem sok1 : SOk ⟨1, 2, 1, 1, 0⟩ := ⟨by decide, by decide⟩
set_option maxRecDepth 100000 in
set_option maxHeartbeats 8000000 in
theorem live13_any (w : World) : Calls Try.prog 16 #[] w fun e w' => e = .returned (.bool true) ∧ Below w.heap.size w w' := by
  have HF := Lib.hid (fresh_any 4 (by decide) (by decide))
  go_enter Try.func16, Try.ntmps16
  go_wp2_with (first
    | (go_at_call 8; refine (HF.out _).mono ?_; rintro e w1 ⟨rfl, hm, hb⟩; have H1 : Hid (Own0 w (w1.alloc (.cells #[.int .i64 0, .int .i64 0, .int .i64 0, .int .i64 1, .int .i64 0, .int .i64 0] 25)) (w.heap.size + 1) w.heap.size w1.heap.size [0, 0, 0, 0] false 0) := own0_new (Below.refl _ _) hm hb; clear hm hb HF)
    | (go_at_call 9; refine (come_any 0 0 0 1 0 0 1 _).mono ?_; rintro e w2 ⟨x, rfl, lx, hx, hb⟩; have H2 := Lib.hid (And.intro lx (And.intro hx hb)); obtain ⟨p20, p21, p22, p23, p24, p25, p26⟩ := (H1.out.on hb).p.cells; clear lx hx hb)
    | (go_at_call 10; refine (look_any 0 0 0 1 0 0 2 1 _).mono ?_; rintro e w3 ⟨z, rfl, lz, hz, hb⟩; have H3 := Lib.hid (H1.out.own H2.out.2.1 H2.out.1 H2.out.2.2 hz lz hb); obtain ⟨p30, p31, p32, p33, p34, p35, p36⟩ := H3.out.p.cells; clear lz hz hb H1 H2)
    | (go_at_call 28; refine (comes_any H3.out.m H3.out.c (cok_new 0 1 1)).mono ?_; rw [liv1.1, liv1.2.1, liv1.2.2.1, liv1.2.2.2]; rintro e w4 ⟨rfl, hm, hx, hc⟩; have H4 := Lib.hid (H3.out.onC hm hx hc); clear hm hx hc H3)
    | (go_at_call 28; refine (comes_any H4.out.m H4.out.c cok1).mono ?_; rw [liv2.1, liv2.2.1, liv2.2.2.1, liv2.2.2.2]; rintro e w5 ⟨rfl, hm, hx, hc⟩; have H5 := Lib.hid (H4.out.onC hm hx hc); clear hm hx hc H4)
    | (go_at_call 11; refine (open_any H5.out.m).mono ?_; rintro e w6 ⟨rfl, hm, hc⟩; have H6 := Lib.hid (H5.out.onM hm hc); obtain ⟨p60, p61, p62, p63, p64, p65, p66⟩ := H6.out.p.cells; clear hm hc H5)
    | (go_at_call 43; refine (publish_any H6.out.m 0 0 0 1 0 0 1).mono ?_; rw [liv3.1, liv3.2]; rintro e w7 ⟨rfl, hm, hc⟩; have H7 := Lib.hid (H6.out.onM hm hc); clear hm hc H6)
    | (go_at_call 28; refine (comes_any H7.out.m H7.out.c cok2).mono ?_; rw [liv4.1, liv4.2.1, liv4.2.2.1, liv4.2.2.2]; rintro e w8 ⟨rfl, hm, hx, hc⟩; have H8 := Lib.hid (H7.out.onC hm hx hc); obtain ⟨p80, p81, p82, p83, p84, p85, p86⟩ := H8.out.p.cells; clear hm hx hc H7)
    | (go_at_call 44; refine (kpeek_any H8.out.m 0 0 0 1 0 0 1).mono ?_; rw [liv5.1, liv5.2.1, liv5.2.2]; rintro e w9 ⟨rfl, hb⟩; have H9 := Lib.hid (H8.out.on hb); clear hb H8)
    | (go_at_call 11; refine (open_any H9.out.m).mono ?_; rintro e w10 ⟨rfl, hm, hc⟩; have H10 := Lib.hid (H9.out.onM hm hc); clear hm hc H9)
    | (go_at_call 13; refine (sstep_any H10.out.m H10.out.s (sok_new 1 2 1)).mono ?_; rw [liv6]; rintro e w11 ⟨rfl, hm, hz, hc⟩; have H11 := Lib.hid (H10.out.onS hm hz hc); clear hm hz hc H10)
    | (go_at_call 11; refine (open_any H11.out.m).mono ?_; rintro e w12 ⟨rfl, hm, hc⟩; have H12 := Lib.hid (H11.out.onM hm hc); clear hm hc H11)
    | (go_at_call 13; refine (sstep_any H12.out.m H12.out.s sok1).mono ?_; rw [liv7]; rintro e w13 ⟨rfl, hm, hz, hc⟩; have H13 := Lib.hid (H12.out.onS hm hz hc); clear hm hz hc H12)
    | (go_at_call 30; refine (claim_any H13.out.c).mono ?_; rintro e w14 ⟨rfl, hw⟩; subst w14)
    | (go_at_call 34; refine (stampC_any H13.out.c).mono ?_; rintro e w14 ⟨rfl, hw⟩; subst w14)
    | (go_at_call 15; refine (at_any H13.out.s).mono ?_; rintro e w14 ⟨rfl, hw⟩; subst w14)
    | (go_at_call 31; refine (polls_any H13.out.s).mono ?_; rintro e w14 ⟨rfl, hw⟩; subst w14))
  go_ret
  exact ⟨rfl, H13.out.below⟩
theorem nv1 : cO ⟨0, 1, -1, 0, 0, 0⟩ [0, 0, 0, 0] true = false ∧ cE ⟨0, 1, -1, 0, 0, 0⟩ [0, 0, 0, 0] true = 100 ∧ cW ⟨0, 1, -1, 0, 0, 0⟩ [0, 0, 0, 0] true = [0, 0, 0, 0] ∧ cP ⟨0, 1, -1, 0, 0, 0⟩ [0, 0, 0, 0] true = true ∧ cC ⟨0, 1, -1, 0, 0, 0⟩ [0, 0, 0, 0] true = ⟨0, 1, -1, 0, 0, 0⟩ := ⟨by kernel_rfl, by kernel_rfl, by kernel_rfl, by kernel_rfl, by kernel_rfl⟩
theorem nv2 : sO ⟨1, 0, 0, 0, 0⟩ [0, 0, 0, 0] true = false ∧ sE ⟨1, 0, 0, 0, 0⟩ [0, 0, 0, 0] true = 100 ∧ sP ⟨1, 0, 0, 0, 0⟩ [0, 0, 0, 0] true = true ∧ sC ⟨1, 0, 0, 0, 0⟩ [0, 0, 0, 0] true = ⟨1, 0, 0, 0, 0⟩ := ⟨by kernel_rfl, by kernel_rfl, by kernel_rfl, by kernel_rfl⟩
theorem nv3 : lE [0, 0, 0, 0] true 1 8 = 100 ∧ lW [0, 0, 0, 0] true 1 8 = [0, 0, 0, 0] ∧ lO [0, 0, 0, 0] true 1 8 = true := ⟨by kernel_rfl, by kernel_rfl, by kernel_rfl⟩
theorem nv4 : lE [0, 0, 0, 0] true 1 5 = 30 := by kernel_rfl
set_option maxRecDepth 100000 in
set_option maxHeartbeats 4000000 in
theorem numbers13_any (w : World) : Calls Try.prog 3 #[] w fun e w' => e = .returned (.bool true) ∧ Below w.heap.size w w' := by
  have HF := Lib.hid (fresh_any 4 (by decide) (by decide))
  go_enter Try.func3, Try.ntmps3
  go_wp2_with (first
    | (go_at_call 8; refine (HF.out _).mono ?_; rintro e w1 ⟨rfl, hm, hb⟩; have H1 : Hid (Own0 w (w1.alloc (.cells #[.int .i64 0, .int .i64 0, .int .i64 0, .int .i64 1, .int .i64 0, .int .i64 0] 25)) (w.heap.size + 1) w.heap.size w1.heap.size [0, 0, 0, 0] false 0) := own0_new (Below.refl _ _) hm hb; clear hm hb HF)
    | (go_at_call 9; refine (come_any 0 0 0 1 0 0 (-1) _).mono ?_; rintro e w2 ⟨x, rfl, lx, hx, hb⟩; have H2 := Lib.hid (And.intro lx (And.intro hx hb)); obtain ⟨p20, p21, p22, p23, p24, p25, p26⟩ := (H1.out.on hb).p.cells; clear lx hx hb)
    | (go_at_call 10; refine (look_any 0 0 0 1 0 0 0 0 _).mono ?_; rintro e w3 ⟨z, rfl, lz, hz, hb⟩; have H3 := Lib.hid (H1.out.own H2.out.2.1 H2.out.1 H2.out.2.2 hz lz hb); clear lz hz hb H1 H2)
    | (go_at_call 11; refine (open_any H3.out.m).mono ?_; rintro e w4 ⟨rfl, hm, hc⟩; have H4 := Lib.hid (H3.out.onM hm hc); clear hm hc H3)
    | (go_at_call 12; refine (cstep_any H4.out.m H4.out.c (cok_new 0 1 (-1))).mono ?_; rw [nv1.1, nv1.2.1, nv1.2.2.1, nv1.2.2.2.1, nv1.2.2.2.2]; rintro e w5 ⟨rfl, hm, hx, hc⟩; have H5 := Lib.hid (H4.out.onC hm hx hc); clear hm hx hc H4)
    | (go_at_call 13; refine (sstep_any H5.out.m H5.out.s (sok_new 1 0 0)).mono ?_; rw [nv2.1, nv2.2.1, nv2.2.2.1, nv2.2.2.2]; rintro e w6 ⟨rfl, hm, hz, hc⟩; have H6 := Lib.hid (H5.out.onS hm hz hc); obtain ⟨p60, p61, p62, p63, p64, p65, p66⟩ := H6.out.p.cells; clear hm hz hc H5)
    | (go_at_call 14; refine (leave_any H6.out.m 0 0 0 1 0 0 8).mono ?_; rw [nv3.1, nv3.2.1, nv3.2.2]; rintro e w7 ⟨rfl, hm, hc⟩; have H7 := Lib.hid (H6.out.onM hm hc); obtain ⟨p70, p71, p72, p73, p74, p75, p76⟩ := H7.out.p.cells; clear hm hc H6)
    | (go_at_call 14; refine (leave_any H7.out.m 0 0 0 1 0 0 5).mono ?_; rw [nv4]; rintro e w8 ⟨rfl, hm, hc⟩; have H8 := Lib.hid (H7.out.onM hm hc); clear hm hc H7)
    | (go_at_call 15; refine (at_any H8.out.s).mono ?_; rintro e w14 ⟨rfl, hw⟩; subst w14))
  go_ret
  exact ⟨rfl, H8.out.below⟩
end Go.Proofs.Ytdfmmolhfacahaa
