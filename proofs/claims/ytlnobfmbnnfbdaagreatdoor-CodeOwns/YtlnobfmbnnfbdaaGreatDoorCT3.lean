import Derived.Test.YtlnobfmbnnfbdaaGreatDoorCS
namespace Go.Proofs.YtlnobfmbnnfbdaaGreatDoor
open Go.ChangeShapes Go.WideShapes Go.ChangeAt Go.RowKit Num
attribute [local go_sem] run_store_float

section
variable {W w : World} {b : Nat} {rest : List UInt8} {line : Int}
set_option maxHeartbeats 4000000 in
set_option maxRecDepth 100000 in
theorem instr_num {x y : List UInt8} {k n : Nat} (hT : Tabs5 W) (hB : Below W.heap.size W w) (hb : W.heap.size ≤ b) (h : RdAt w b rest line) (h0 : 0 ≤ line) (hl : line < 1025) (hr : rest.length ≤ 65536) (hc : cutB 10 rest = (x, y, true)) (hn : namedW (cutB 32 x).1 = some (k, n)) (hkd : (shp k).kind = 1) (hp : (parseR (cutB 32 x).2.1).2 = 0) :
    Calls Tryz.prog 49 #[.pointer (some ⟨b, 0, none⟩)] w fun r w' => r = .returned (insV ⟨k, n, (parseR (cutB 32 x).2.1).1⟩) ∧ RdAt w' b y (line + 1) ∧ Turn [b] [b] w w' := by
  have hx : x.length ≤ 65536 := by have := (cut_len (c := 10) rest).1; rw [hc] at this; exact Nat.le_trans this hr
  have hx2 : (cutB 32 x).2.1.length ≤ 65536 := Nat.le_trans (cut_len (c := 32) x).2 hx
  have hk : k < 21 := (named_facts hn).1
  have hk' : (k : Int) < 21 := by omega
  have hbx := box5 w (.cells #[.int .i64 0, .int .i64 0, .float .f64 0] 42)
  have hbw : b < w.heap.size := h.lt
  have HN := Lib.hid (next_ok hT (hB.trans (hbx.mono hB.size)) hb (h.on hbx) h0 hl hr hc)
  have HT := Lib.hid hT
  have HBB := Lib.hid (hB.trans (hbx.mono hB.size))
  have HX := Lib.hid (heap_alloc_new w (.cells #[.int .i64 0, .int .i64 0, .float .f64 0] 42))
  have HC := Lib.hid (fun w' h => cut_any x 32 w' h hx)
  have HNM := Lib.hid (fun w' h => named_any (cutB 32 x).1 w' h)
  rw [hn] at HNM
  unfold namedV insV at HNM
  have HP := Lib.hid (fun w' h => number_ok (w := w') (b := b) (cutB 32 x).2.1 h hx2 hp)
  unfold insV
  generalize (parseR (cutB 32 x).2.1).1 = px at HP ⊢
  generalize (cutB 32 x).1 = x1 at HC HNM
  generalize (cutB 32 x).2.1 = x2 at HC HP
  generalize (cutB 32 x).2.2 = x3 at HC
  clear hT hB h hc hn hbx hx hx2 hp
  go_enter Tryz.func49, Tryz.ntmps49
  go_wp2_with (first
    | (go_at_call 67; refine HN.out.mono ?_; rintro e w1 ⟨rfl, h1, h2⟩; have HR := Lib.hid h1; have HX1 := Lib.hid ((h2.block w.heap.size (by simp) (by simp; omega)).trans HX.out); have HB1 := Lib.hid (turn_base HBB.out hb h2); have HU := Lib.hid ((turn_below (box5 _ _)).trans h2); clear h1 h2)
    | (go_at_call 69; refine (HC.out _ (HT.out.on HB1.out).len).mono ?_; rintro e w' ⟨rfl, n1, hw⟩; subst w')
    | (go_at_call 70; refine (HNM.out _ (HT.out.on (HB1.out.trans ((Same.drewN _ n1).below _))).sh).mono ?_; rintro e w3 ⟨rfl, hb3⟩; have HB3 : Hid (Below w1.heap.size w1 w3) := ((Same.drewN w1 n1).below _).trans hb3; have HX3 := Lib.hid ((hb3.block w.heap.size (lt_of_block HX1.out)).trans HX1.out); have HT3 := Lib.hid (HT.out.on (HB1.out.trans (HB3.out.mono HB1.out.size))); obtain ⟨c0, c1, c2, c3, c4, c5⟩ := HT3.out.sh.shp k hk; have hg0 := World.block_lt_of_cell? w3 _ c0; have hz3 : w.heap.size < w3.heap.size := lt_of_block HX3.out; have hne : w.heap.size ≠ w3.heap.size := Nat.ne_of_lt hz3; rw [hkd] at c1; clear hb3 c0 c2 c3 c4 c5)
    | (go_at_call 71; refine (mustBe_yes b _).mono ?_; rintro e w2 ⟨rfl, hw2⟩; subst w2)
    | (go_at_call 72; refine (HP.out _ (HT3.out.on (box5 _ _))).mono ?_; rintro e w5 ⟨rfl, hb5⟩; have hin := (hb5.block w3.heap.size (by simp)).trans (heap_alloc_new _ _); obtain ⟨p0, p1, p2, p3⟩ := cells3_of hin; obtain ⟨g0, g1, g2⟩ := frozen3 hin; have hrs := (hb5.block w.heap.size (Nat.lt_of_lt_of_le hz3 (box5 _ _).size)).trans ((heap_alloc_old w3 _ hz3).trans HX3.out); obtain ⟨r0, r1, r2, r3⟩ := cells3_of hrs; obtain ⟨s0, s1, s2⟩ := frozen3 hrs; have HB5 := Lib.hid (chain5 (box5 _ _) hb5); clear hb5 hin hrs))
  exact bodyPost_ret (v := .agg #[.int .i64 k, .int .i64 n, .float .f64 px]) (by simp [results, Tryz.results49, go_sem, r0, r1, r2]) rfl ⟨rfl, rd_setN _ (rd_setN _ (rd_setN _ (rd_setN _ ((HR.out.on HB3.out).on HB5.out) (by omega)) (by omega)) (by omega)) (by omega), turn_setN _ _ (Nat.le_refl _) (turn_setN _ _ (Nat.le_refl _) (turn_setN _ _ (Nat.le_refl _) (turn_setN _ _ (Nat.le_of_lt hz3) (HU.out.trans ((turn_below HB3.out).trans (turn_below HB5.out))))))⟩
set_option maxHeartbeats 4000000 in
set_option maxRecDepth 100000 in
theorem instr_n {x y : List UInt8} {k n : Nat} (hT : Tabs5 W) (hB : Below W.heap.size W w) (hb : W.heap.size ≤ b) (h : RdAt w b rest line) (h0 : 0 ≤ line) (hl : line < 1025) (hr : rest.length ≤ 65536) (hc : cutB 10 rest = (x, y, true)) (hn : namedW (cutB 32 x).1 = some (k, n)) (hkd : (shp k).kind = 2) (hp : (wholeR (cutB 32 x).2.1).2 = 0) (hf : fitsB k (wholeR (cutB 32 x).2.1).1 = true) :
    Calls Tryz.prog 49 #[.pointer (some ⟨b, 0, none⟩)] w fun r w' => r = .returned (insV ⟨k, (wholeR (cutB 32 x).2.1).1, 0⟩) ∧ RdAt w' b y (line + 1) ∧ Turn [b] [b] w w' := by
  have hx : x.length ≤ 65536 := by have := (cut_len (c := 10) rest).1; rw [hc] at this; exact Nat.le_trans this hr
  have hx2 : (cutB 32 x).2.1.length ≤ 65536 := Nat.le_trans (cut_len (c := 32) x).2 hx
  have hk : k < 21 := (named_facts hn).1
  have hk' : (k : Int) < 21 := by omega
  have hbx := box5 w (.cells #[.int .i64 0, .int .i64 0, .float .f64 0] 42)
  have hbw : b < w.heap.size := h.lt
  have HN := Lib.hid (next_ok hT (hB.trans (hbx.mono hB.size)) hb (h.on hbx) h0 hl hr hc)
  have HT := Lib.hid hT
  have HBB := Lib.hid (hB.trans (hbx.mono hB.size))
  have HX := Lib.hid (heap_alloc_new w (.cells #[.int .i64 0, .int .i64 0, .float .f64 0] 42))
  have HC := Lib.hid (fun w' h => cut_any x 32 w' h hx)
  have HNM := Lib.hid (fun w' h => named_any (cutB 32 x).1 w' h)
  rw [hn] at HNM
  unfold namedV insV at HNM
  have HP := Lib.hid (fun w' h => whole_ok (w := w') (b := b) k hk (cutB 32 x).2.1 h hx2 hp hf)
  unfold insV
  generalize (wholeR (cutB 32 x).2.1).1 = px at HP ⊢
  generalize (cutB 32 x).1 = x1 at HC HNM
  generalize (cutB 32 x).2.1 = x2 at HC HP
  generalize (cutB 32 x).2.2 = x3 at HC
  clear hT hB h hc hn hbx hx hx2 hp hf
  go_enter Tryz.func49, Tryz.ntmps49
  go_wp2_with (first
    | (go_at_call 67; refine HN.out.mono ?_; rintro e w1 ⟨rfl, h1, h2⟩; have HR := Lib.hid h1; have HX1 := Lib.hid ((h2.block w.heap.size (by simp) (by simp; omega)).trans HX.out); have HB1 := Lib.hid (turn_base HBB.out hb h2); have HU := Lib.hid ((turn_below (box5 _ _)).trans h2); clear h1 h2)
    | (go_at_call 69; refine (HC.out _ (HT.out.on HB1.out).len).mono ?_; rintro e w' ⟨rfl, n1, hw⟩; subst w')
    | (go_at_call 70; refine (HNM.out _ (HT.out.on (HB1.out.trans ((Same.drewN _ n1).below _))).sh).mono ?_; rintro e w3 ⟨rfl, hb3⟩; have HB3 : Hid (Below w1.heap.size w1 w3) := ((Same.drewN w1 n1).below _).trans hb3; have HX3 := Lib.hid ((hb3.block w.heap.size (lt_of_block HX1.out)).trans HX1.out); have HT3 := Lib.hid (HT.out.on (HB1.out.trans (HB3.out.mono HB1.out.size))); obtain ⟨c0, c1, c2, c3, c4, c5⟩ := HT3.out.sh.shp k hk; have hg0 := World.block_lt_of_cell? w3 _ c0; have hz3 : w.heap.size < w3.heap.size := lt_of_block HX3.out; have hne : w.heap.size ≠ w3.heap.size := Nat.ne_of_lt hz3; rw [hkd] at c1; clear hb3 c0 c2 c3 c4 c5)
    | (go_at_call 71; refine (mustBe_yes b _).mono ?_; rintro e w2 ⟨rfl, hw2⟩; subst w2)
    | (go_at_call 73; refine (HP.out _ (HT3.out.on (box5 _ _))).mono ?_; rintro e w5 ⟨rfl, hb5⟩; have hin := (hb5.block w3.heap.size (by simp)).trans (heap_alloc_new _ _); obtain ⟨p0, p1, p2, p3⟩ := cells3_of hin; obtain ⟨g0, g1, g2⟩ := frozen3 hin; have hrs := (hb5.block w.heap.size (Nat.lt_of_lt_of_le hz3 (box5 _ _).size)).trans ((heap_alloc_old w3 _ hz3).trans HX3.out); obtain ⟨r0, r1, r2, r3⟩ := cells3_of hrs; obtain ⟨s0, s1, s2⟩ := frozen3 hrs; have HB5 := Lib.hid (chain5 (box5 _ _) hb5); clear hb5 hin hrs))
  exact bodyPost_ret (v := .agg #[.int .i64 k, .int .i64 px, .float .f64 0]) (by simp [results, Tryz.results49, go_sem, r0, r1, r2]) rfl ⟨rfl, rd_setN _ (rd_setN _ (rd_setN _ (rd_setN _ ((HR.out.on HB3.out).on HB5.out) (by omega)) (by omega)) (by omega)) (by omega), turn_setN _ _ (Nat.le_refl _) (turn_setN _ _ (Nat.le_refl _) (turn_setN _ _ (Nat.le_refl _) (turn_setN _ _ (Nat.le_of_lt hz3) (HU.out.trans ((turn_below HB3.out).trans (turn_below HB5.out))))))⟩
set_option maxHeartbeats 4000000 in
set_option maxRecDepth 100000 in
theorem instr_place {x y : List UInt8} {k n : Nat} (hT : Tabs5 W) (hB : Below W.heap.size W w) (hb : W.heap.size ≤ b) (h : RdAt w b rest line) (h0 : 0 ≤ line) (hl : line < 1025) (hr : rest.length ≤ 65536) (hc : cutB 10 rest = (x, y, true)) (hn : namedW (cutB 32 x).1 = some (k, n)) (hkd : (shp k).kind = 3) (hp : (wholeR (cutB 32 x).2.1).2 = 0) (hf : fitsB k (wholeR (cutB 32 x).2.1).1 = true) :
    Calls Tryz.prog 49 #[.pointer (some ⟨b, 0, none⟩)] w fun r w' => r = .returned (insV ⟨k, (wholeR (cutB 32 x).2.1).1, 0⟩) ∧ RdAt w' b y (line + 1) ∧ Turn [b] [b] w w' := by
  have hx : x.length ≤ 65536 := by have := (cut_len (c := 10) rest).1; rw [hc] at this; exact Nat.le_trans this hr
  have hx2 : (cutB 32 x).2.1.length ≤ 65536 := Nat.le_trans (cut_len (c := 32) x).2 hx
  have hk : k < 21 := (named_facts hn).1
  have hk' : (k : Int) < 21 := by omega
  have hbx := box5 w (.cells #[.int .i64 0, .int .i64 0, .float .f64 0] 42)
  have hbw : b < w.heap.size := h.lt
  have HN := Lib.hid (next_ok hT (hB.trans (hbx.mono hB.size)) hb (h.on hbx) h0 hl hr hc)
  have HT := Lib.hid hT
  have HBB := Lib.hid (hB.trans (hbx.mono hB.size))
  have HX := Lib.hid (heap_alloc_new w (.cells #[.int .i64 0, .int .i64 0, .float .f64 0] 42))
  have HC := Lib.hid (fun w' h => cut_any x 32 w' h hx)
  have HNM := Lib.hid (fun w' h => named_any (cutB 32 x).1 w' h)
  rw [hn] at HNM
  unfold namedV insV at HNM
  have HP := Lib.hid (fun w' h => whole_ok (w := w') (b := b) k hk (cutB 32 x).2.1 h hx2 hp hf)
  unfold insV
  generalize (wholeR (cutB 32 x).2.1).1 = px at HP ⊢
  generalize (cutB 32 x).1 = x1 at HC HNM
  generalize (cutB 32 x).2.1 = x2 at HC HP
  generalize (cutB 32 x).2.2 = x3 at HC
  clear hT hB h hc hn hbx hx hx2 hp hf
  go_enter Tryz.func49, Tryz.ntmps49
  go_wp2_with (first
    | (go_at_call 67; refine HN.out.mono ?_; rintro e w1 ⟨rfl, h1, h2⟩; have HR := Lib.hid h1; have HX1 := Lib.hid ((h2.block w.heap.size (by simp) (by simp; omega)).trans HX.out); have HB1 := Lib.hid (turn_base HBB.out hb h2); have HU := Lib.hid ((turn_below (box5 _ _)).trans h2); clear h1 h2)
    | (go_at_call 69; refine (HC.out _ (HT.out.on HB1.out).len).mono ?_; rintro e w' ⟨rfl, n1, hw⟩; subst w')
    | (go_at_call 70; refine (HNM.out _ (HT.out.on (HB1.out.trans ((Same.drewN _ n1).below _))).sh).mono ?_; rintro e w3 ⟨rfl, hb3⟩; have HB3 : Hid (Below w1.heap.size w1 w3) := ((Same.drewN w1 n1).below _).trans hb3; have HX3 := Lib.hid ((hb3.block w.heap.size (lt_of_block HX1.out)).trans HX1.out); have HT3 := Lib.hid (HT.out.on (HB1.out.trans (HB3.out.mono HB1.out.size))); obtain ⟨c0, c1, c2, c3, c4, c5⟩ := HT3.out.sh.shp k hk; have hg0 := World.block_lt_of_cell? w3 _ c0; have hz3 : w.heap.size < w3.heap.size := lt_of_block HX3.out; have hne : w.heap.size ≠ w3.heap.size := Nat.ne_of_lt hz3; rw [hkd] at c1; clear hb3 c0 c2 c3 c4 c5)
    | (go_at_call 71; refine (mustBe_yes b _).mono ?_; rintro e w2 ⟨rfl, hw2⟩; subst w2)
    | (go_at_call 73; refine (HP.out _ (HT3.out.on (box5 _ _))).mono ?_; rintro e w5 ⟨rfl, hb5⟩; have hin := (hb5.block w3.heap.size (by simp)).trans (heap_alloc_new _ _); obtain ⟨p0, p1, p2, p3⟩ := cells3_of hin; obtain ⟨g0, g1, g2⟩ := frozen3 hin; have hrs := (hb5.block w.heap.size (Nat.lt_of_lt_of_le hz3 (box5 _ _).size)).trans ((heap_alloc_old w3 _ hz3).trans HX3.out); obtain ⟨r0, r1, r2, r3⟩ := cells3_of hrs; obtain ⟨s0, s1, s2⟩ := frozen3 hrs; have HB5 := Lib.hid (chain5 (box5 _ _) hb5); clear hb5 hin hrs))
  exact bodyPost_ret (v := .agg #[.int .i64 k, .int .i64 px, .float .f64 0]) (by simp [results, Tryz.results49, go_sem, r0, r1, r2]) rfl ⟨rfl, rd_setN _ (rd_setN _ (rd_setN _ (rd_setN _ ((HR.out.on HB3.out).on HB5.out) (by omega)) (by omega)) (by omega)) (by omega), turn_setN _ _ (Nat.le_refl _) (turn_setN _ _ (Nat.le_refl _) (turn_setN _ _ (Nat.le_refl _) (turn_setN _ _ (Nat.le_of_lt hz3) (HU.out.trans ((turn_below HB3.out).trans (turn_below HB5.out))))))⟩
end
end Go.Proofs.YtlnobfmbnnfbdaaGreatDoor
namespace Go.Proofs.YtlnobfmbnnfbdaaGreatDoor
open Go.ChangeShapes Go.WideShapes Go.ChangeAt Go.RowKit Num
attribute [local go_sem] run_store_float

section
variable {W w : World} {b : Nat} {rest : List UInt8} {line : Int}
set_option maxHeartbeats 4000000 in
set_option maxRecDepth 100000 in
theorem instr_num_no {x y : List UInt8} {k n : Nat} (hT : Tabs5 W) (hB : Below W.heap.size W w) (hb : W.heap.size ≤ b) (h : RdAt w b rest line) (h0 : 0 ≤ line) (hl : line < 1025) (hr : rest.length ≤ 65536) (hc : cutB 10 rest = (x, y, true)) (hn : namedW (cutB 32 x).1 = some (k, n)) (hkd : (shp k).kind = 1) (hp : (parseR (cutB 32 x).2.1).2 ≠ 0) :
    Calls Tryz.prog 49 #[.pointer (some ⟨b, 0, none⟩)] w fun r w' => r = gaveUp 20 (line + 1) ∧ Turn [b] [b] w w' := by
  have hx : x.length ≤ 65536 := by have := (cut_len (c := 10) rest).1; rw [hc] at this; exact Nat.le_trans this hr
  have hx2 : (cutB 32 x).2.1.length ≤ 65536 := Nat.le_trans (cut_len (c := 32) x).2 hx
  have hk : k < 21 := (named_facts hn).1
  have hk' : (k : Int) < 21 := by omega
  have hbx := box5 w (.cells #[.int .i64 0, .int .i64 0, .float .f64 0] 42)
  have hbw : b < w.heap.size := h.lt
  have HN := Lib.hid (next_ok hT (hB.trans (hbx.mono hB.size)) hb (h.on hbx) h0 hl hr hc)
  have HT := Lib.hid hT
  have HBB := Lib.hid (hB.trans (hbx.mono hB.size))
  have HX := Lib.hid (heap_alloc_new w (.cells #[.int .i64 0, .int .i64 0, .float .f64 0] 42))
  have HC := Lib.hid (fun w' h => cut_any x 32 w' h hx)
  have HNM := Lib.hid (fun w' h => named_any (cutB 32 x).1 w' h)
  rw [hn] at HNM
  unfold namedV insV at HNM
  have HP := Lib.hid (fun w' h hR => number_no (w := w') (b := b) (rest := y) (line := line + 1) (cutB 32 x).2.1 h hx2 hR hp)
  generalize (cutB 32 x).1 = x1 at HC HNM
  generalize (cutB 32 x).2.1 = x2 at HC HP
  generalize (cutB 32 x).2.2 = x3 at HC
  clear hT hB h hc hn hbx hx hx2 hp
  go_enter Tryz.func49, Tryz.ntmps49
  go_wp2_with (first
    | (go_at_call 67; refine HN.out.mono ?_; rintro e w1 ⟨rfl, h1, h2⟩; have HR := Lib.hid h1; have HX1 := Lib.hid ((h2.block w.heap.size (by simp) (by simp; omega)).trans HX.out); have HB1 := Lib.hid (turn_base HBB.out hb h2); have HU := Lib.hid ((turn_below (box5 _ _)).trans h2); clear h1 h2)
    | (go_at_call 69; refine (HC.out _ (HT.out.on HB1.out).len).mono ?_; rintro e w' ⟨rfl, n1, hw⟩; subst w')
    | (go_at_call 70; refine (HNM.out _ (HT.out.on (HB1.out.trans ((Same.drewN _ n1).below _))).sh).mono ?_; rintro e w3 ⟨rfl, hb3⟩; have HB3 : Hid (Below w1.heap.size w1 w3) := ((Same.drewN w1 n1).below _).trans hb3; have HX3 := Lib.hid ((hb3.block w.heap.size (lt_of_block HX1.out)).trans HX1.out); have HT3 := Lib.hid (HT.out.on (HB1.out.trans (HB3.out.mono HB1.out.size))); obtain ⟨c0, c1, c2, c3, c4, c5⟩ := HT3.out.sh.shp k hk; have hg0 := World.block_lt_of_cell? w3 _ c0; have hz3 : w.heap.size < w3.heap.size := lt_of_block HX3.out; have hne : w.heap.size ≠ w3.heap.size := Nat.ne_of_lt hz3; rw [hkd] at c1; clear hb3 c0 c2 c3 c4 c5)
    | (go_at_call 71; refine (mustBe_yes b _).mono ?_; rintro e w2 ⟨rfl, hw2⟩; subst w2)
    | (go_at_call 72; refine (HP.out _ (HT3.out.on (box5 _ _)) ((HR.out.on HB3.out).on (box5 _ _))).mono ?_; rintro e w5 ⟨rfl, hb5⟩; have HB5 := Lib.hid (chain5 (box5 _ _) hb5); clear hb5))
  exact ⟨rfl, rfl, HU.out.trans ((turn_below HB3.out).trans (turn_below HB5.out))⟩
set_option maxHeartbeats 4000000 in
set_option maxRecDepth 100000 in
theorem instr_n_no {x y : List UInt8} {k n : Nat} (hT : Tabs5 W) (hB : Below W.heap.size W w) (hb : W.heap.size ≤ b) (h : RdAt w b rest line) (h0 : 0 ≤ line) (hl : line < 1025) (hr : rest.length ≤ 65536) (hc : cutB 10 rest = (x, y, true)) (hn : namedW (cutB 32 x).1 = some (k, n)) (hkd : (shp k).kind = 2) (hp : ¬ ((wholeR (cutB 32 x).2.1).2 = 0 ∧ fitsB k (wholeR (cutB 32 x).2.1).1 = true)) :
    Calls Tryz.prog 49 #[.pointer (some ⟨b, 0, none⟩)] w fun r w' => r = gaveUp 20 (line + 1) ∧ Turn [b] [b] w w' := by
  have hx : x.length ≤ 65536 := by have := (cut_len (c := 10) rest).1; rw [hc] at this; exact Nat.le_trans this hr
  have hx2 : (cutB 32 x).2.1.length ≤ 65536 := Nat.le_trans (cut_len (c := 32) x).2 hx
  have hk : k < 21 := (named_facts hn).1
  have hk' : (k : Int) < 21 := by omega
  have hbx := box5 w (.cells #[.int .i64 0, .int .i64 0, .float .f64 0] 42)
  have hbw : b < w.heap.size := h.lt
  have HN := Lib.hid (next_ok hT (hB.trans (hbx.mono hB.size)) hb (h.on hbx) h0 hl hr hc)
  have HT := Lib.hid hT
  have HBB := Lib.hid (hB.trans (hbx.mono hB.size))
  have HX := Lib.hid (heap_alloc_new w (.cells #[.int .i64 0, .int .i64 0, .float .f64 0] 42))
  have HC := Lib.hid (fun w' h => cut_any x 32 w' h hx)
  have HNM := Lib.hid (fun w' h => named_any (cutB 32 x).1 w' h)
  rw [hn] at HNM
  unfold namedV insV at HNM
  have HP := Lib.hid (fun w' h hR => whole_no (w := w') (b := b) (rest := y) (line := line + 1) k hk (cutB 32 x).2.1 h hx2 hR hp)
  generalize (cutB 32 x).1 = x1 at HC HNM
  generalize (cutB 32 x).2.1 = x2 at HC HP
  generalize (cutB 32 x).2.2 = x3 at HC
  clear hT hB h hc hn hbx hx hx2 hp
  go_enter Tryz.func49, Tryz.ntmps49
  go_wp2_with (first
    | (go_at_call 67; refine HN.out.mono ?_; rintro e w1 ⟨rfl, h1, h2⟩; have HR := Lib.hid h1; have HX1 := Lib.hid ((h2.block w.heap.size (by simp) (by simp; omega)).trans HX.out); have HB1 := Lib.hid (turn_base HBB.out hb h2); have HU := Lib.hid ((turn_below (box5 _ _)).trans h2); clear h1 h2)
    | (go_at_call 69; refine (HC.out _ (HT.out.on HB1.out).len).mono ?_; rintro e w' ⟨rfl, n1, hw⟩; subst w')
    | (go_at_call 70; refine (HNM.out _ (HT.out.on (HB1.out.trans ((Same.drewN _ n1).below _))).sh).mono ?_; rintro e w3 ⟨rfl, hb3⟩; have HB3 : Hid (Below w1.heap.size w1 w3) := ((Same.drewN w1 n1).below _).trans hb3; have HX3 := Lib.hid ((hb3.block w.heap.size (lt_of_block HX1.out)).trans HX1.out); have HT3 := Lib.hid (HT.out.on (HB1.out.trans (HB3.out.mono HB1.out.size))); obtain ⟨c0, c1, c2, c3, c4, c5⟩ := HT3.out.sh.shp k hk; have hg0 := World.block_lt_of_cell? w3 _ c0; have hz3 : w.heap.size < w3.heap.size := lt_of_block HX3.out; have hne : w.heap.size ≠ w3.heap.size := Nat.ne_of_lt hz3; rw [hkd] at c1; clear hb3 c0 c2 c3 c4 c5)
    | (go_at_call 71; refine (mustBe_yes b _).mono ?_; rintro e w2 ⟨rfl, hw2⟩; subst w2)
    | (go_at_call 73; refine (HP.out _ (HT3.out.on (box5 _ _)) ((HR.out.on HB3.out).on (box5 _ _))).mono ?_; rintro e w5 ⟨rfl, hb5⟩; have HB5 := Lib.hid (chain5 (box5 _ _) hb5); clear hb5))
  exact ⟨rfl, rfl, HU.out.trans ((turn_below HB3.out).trans (turn_below HB5.out))⟩
set_option maxHeartbeats 4000000 in
set_option maxRecDepth 100000 in
theorem instr_place_no {x y : List UInt8} {k n : Nat} (hT : Tabs5 W) (hB : Below W.heap.size W w) (hb : W.heap.size ≤ b) (h : RdAt w b rest line) (h0 : 0 ≤ line) (hl : line < 1025) (hr : rest.length ≤ 65536) (hc : cutB 10 rest = (x, y, true)) (hn : namedW (cutB 32 x).1 = some (k, n)) (hkd : (shp k).kind = 3) (hp : ¬ ((wholeR (cutB 32 x).2.1).2 = 0 ∧ fitsB k (wholeR (cutB 32 x).2.1).1 = true)) :
    Calls Tryz.prog 49 #[.pointer (some ⟨b, 0, none⟩)] w fun r w' => r = gaveUp 20 (line + 1) ∧ Turn [b] [b] w w' := by
  have hx : x.length ≤ 65536 := by have := (cut_len (c := 10) rest).1; rw [hc] at this; exact Nat.le_trans this hr
  have hx2 : (cutB 32 x).2.1.length ≤ 65536 := Nat.le_trans (cut_len (c := 32) x).2 hx
  have hk : k < 21 := (named_facts hn).1
  have hk' : (k : Int) < 21 := by omega
  have hbx := box5 w (.cells #[.int .i64 0, .int .i64 0, .float .f64 0] 42)
  have hbw : b < w.heap.size := h.lt
  have HN := Lib.hid (next_ok hT (hB.trans (hbx.mono hB.size)) hb (h.on hbx) h0 hl hr hc)
  have HT := Lib.hid hT
  have HBB := Lib.hid (hB.trans (hbx.mono hB.size))
  have HX := Lib.hid (heap_alloc_new w (.cells #[.int .i64 0, .int .i64 0, .float .f64 0] 42))
  have HC := Lib.hid (fun w' h => cut_any x 32 w' h hx)
  have HNM := Lib.hid (fun w' h => named_any (cutB 32 x).1 w' h)
  rw [hn] at HNM
  unfold namedV insV at HNM
  have HP := Lib.hid (fun w' h hR => whole_no (w := w') (b := b) (rest := y) (line := line + 1) k hk (cutB 32 x).2.1 h hx2 hR hp)
  generalize (cutB 32 x).1 = x1 at HC HNM
  generalize (cutB 32 x).2.1 = x2 at HC HP
  generalize (cutB 32 x).2.2 = x3 at HC
  clear hT hB h hc hn hbx hx hx2 hp
  go_enter Tryz.func49, Tryz.ntmps49
  go_wp2_with (first
    | (go_at_call 67; refine HN.out.mono ?_; rintro e w1 ⟨rfl, h1, h2⟩; have HR := Lib.hid h1; have HX1 := Lib.hid ((h2.block w.heap.size (by simp) (by simp; omega)).trans HX.out); have HB1 := Lib.hid (turn_base HBB.out hb h2); have HU := Lib.hid ((turn_below (box5 _ _)).trans h2); clear h1 h2)
    | (go_at_call 69; refine (HC.out _ (HT.out.on HB1.out).len).mono ?_; rintro e w' ⟨rfl, n1, hw⟩; subst w')
    | (go_at_call 70; refine (HNM.out _ (HT.out.on (HB1.out.trans ((Same.drewN _ n1).below _))).sh).mono ?_; rintro e w3 ⟨rfl, hb3⟩; have HB3 : Hid (Below w1.heap.size w1 w3) := ((Same.drewN w1 n1).below _).trans hb3; have HX3 := Lib.hid ((hb3.block w.heap.size (lt_of_block HX1.out)).trans HX1.out); have HT3 := Lib.hid (HT.out.on (HB1.out.trans (HB3.out.mono HB1.out.size))); obtain ⟨c0, c1, c2, c3, c4, c5⟩ := HT3.out.sh.shp k hk; have hg0 := World.block_lt_of_cell? w3 _ c0; have hz3 : w.heap.size < w3.heap.size := lt_of_block HX3.out; have hne : w.heap.size ≠ w3.heap.size := Nat.ne_of_lt hz3; rw [hkd] at c1; clear hb3 c0 c2 c3 c4 c5)
    | (go_at_call 71; refine (mustBe_yes b _).mono ?_; rintro e w2 ⟨rfl, hw2⟩; subst w2)
    | (go_at_call 73; refine (HP.out _ (HT3.out.on (box5 _ _)) ((HR.out.on HB3.out).on (box5 _ _))).mono ?_; rintro e w5 ⟨rfl, hb5⟩; have HB5 := Lib.hid (chain5 (box5 _ _) hb5); clear hb5))
  exact ⟨rfl, rfl, HU.out.trans ((turn_below HB3.out).trans (turn_below HB5.out))⟩
end
end Go.Proofs.YtlnobfmbnnfbdaaGreatDoor
namespace Go.Proofs.YtlnobfmbnnfbdaaGreatDoor
open Go.ChangeShapes Go.WideShapes Go.ChangeAt Go.RowKit Num
attribute [local go_sem] run_store_float

section
variable {W w : World} {b : Nat} {rest : List UInt8} {line : Int}
set_option maxHeartbeats 4000000 in
set_option maxRecDepth 100000 in
theorem instr_b0 {x y : List UInt8} {k n : Nat} (hT : Tabs5 W) (hB : Below W.heap.size W w) (hb : W.heap.size ≤ b) (h : RdAt w b rest line) (h0 : 0 ≤ line) (hl : line < 1025) (hr : rest.length ≤ 65536) (hc : cutB 10 rest = (x, y, true)) (hn : namedW (cutB 32 x).1 = some (k, n)) (hkd : (shp k).kind = 0) (hp : (cutB 32 x).2.2 = false) :
    Calls Tryz.prog 49 #[.pointer (some ⟨b, 0, none⟩)] w fun r w' => r = .returned (insV ⟨k, n, 0⟩) ∧ RdAt w' b y (line + 1) ∧ Turn [b] [b] w w' := by
  have hx : x.length ≤ 65536 := by have := (cut_len (c := 10) rest).1; rw [hc] at this; exact Nat.le_trans this hr
  have hx2 : (cutB 32 x).2.1.length ≤ 65536 := Nat.le_trans (cut_len (c := 32) x).2 hx
  have hk : k < 21 := (named_facts hn).1
  have hk' : (k : Int) < 21 := by omega
  have hbx := box5 w (.cells #[.int .i64 0, .int .i64 0, .float .f64 0] 42)
  have hbw : b < w.heap.size := h.lt
  have HN := Lib.hid (next_ok hT (hB.trans (hbx.mono hB.size)) hb (h.on hbx) h0 hl hr hc)
  have HT := Lib.hid hT
  have HBB := Lib.hid (hB.trans (hbx.mono hB.size))
  have HX := Lib.hid (heap_alloc_new w (.cells #[.int .i64 0, .int .i64 0, .float .f64 0] 42))
  have HC := Lib.hid (fun w' h => cut_any x 32 w' h hx)
  have HNM := Lib.hid (fun w' h => named_any (cutB 32 x).1 w' h)
  rw [hn] at HNM
  unfold namedV insV at HNM
  rw [hp] at HC
  unfold insV
  generalize (cutB 32 x).1 = x1 at HC HNM
  generalize (cutB 32 x).2.1 = x2 at HC
  clear hT hB h hc hn hbx hx hx2 hp
  go_enter Tryz.func49, Tryz.ntmps49
  go_wp2_with (first
    | (go_at_call 67; refine HN.out.mono ?_; rintro e w1 ⟨rfl, h1, h2⟩; have HR := Lib.hid h1; have HX1 := Lib.hid ((h2.block w.heap.size (by simp) (by simp; omega)).trans HX.out); have HB1 := Lib.hid (turn_base HBB.out hb h2); have HU := Lib.hid ((turn_below (box5 _ _)).trans h2); clear h1 h2)
    | (go_at_call 69; refine (HC.out _ (HT.out.on HB1.out).len).mono ?_; rintro e w' ⟨rfl, n1, hw⟩; subst w')
    | (go_at_call 70; refine (HNM.out _ (HT.out.on (HB1.out.trans ((Same.drewN _ n1).below _))).sh).mono ?_; rintro e w3 ⟨rfl, hb3⟩; have HB3 : Hid (Below w1.heap.size w1 w3) := ((Same.drewN w1 n1).below _).trans hb3; have HX3 := Lib.hid ((hb3.block w.heap.size (lt_of_block HX1.out)).trans HX1.out); have HT3 := Lib.hid (HT.out.on (HB1.out.trans (HB3.out.mono HB1.out.size))); obtain ⟨c0, c1, c2, c3, c4, c5⟩ := HT3.out.sh.shp k hk; have hg0 := World.block_lt_of_cell? w3 _ c0; have hz3 : w.heap.size < w3.heap.size := lt_of_block HX3.out; have hne : w.heap.size ≠ w3.heap.size := Nat.ne_of_lt hz3; rw [hkd] at c1; obtain ⟨r0, r1, r2, r3⟩ := cells3_of HX3.out; obtain ⟨s0, s1, s2⟩ := frozen3 HX3.out; clear hb3 c0 c2 c3 c4 c5)
    | (go_at_call 71; refine (mustBe_yes b _).mono ?_; rintro e w2 ⟨rfl, hw2⟩; subst w2))
  exact bodyPost_ret (v := .agg #[.int .i64 k, .int .i64 n, .float .f64 0]) (by simp [results, Tryz.results49, go_sem, r0, r1, r2, hz3]) rfl ⟨rfl, (rd_setN _ (rd_setN _ (rd_setN _ (HR.out.on HB3.out) (by omega)) (by omega)) (by omega)).on (box5 _ _), (turn_setN _ _ (Nat.le_refl _) (turn_setN _ _ (Nat.le_refl _) (turn_setN _ _ (Nat.le_refl _) (HU.out.trans (turn_below HB3.out))))).trans (turn_below (box5 _ _))⟩
set_option maxHeartbeats 4000000 in
set_option maxRecDepth 100000 in
theorem instr_b0_no {x y : List UInt8} {k n : Nat} (hT : Tabs5 W) (hB : Below W.heap.size W w) (hb : W.heap.size ≤ b) (h : RdAt w b rest line) (h0 : 0 ≤ line) (hl : line < 1025) (hr : rest.length ≤ 65536) (hc : cutB 10 rest = (x, y, true)) (hn : namedW (cutB 32 x).1 = some (k, n)) (hkd : (shp k).kind = 0) (hp : (cutB 32 x).2.2 = true) :
    Calls Tryz.prog 49 #[.pointer (some ⟨b, 0, none⟩)] w fun r w' => r = gaveUp 20 (line + 1) ∧ Turn [b] [b] w w' := by
  have hx : x.length ≤ 65536 := by have := (cut_len (c := 10) rest).1; rw [hc] at this; exact Nat.le_trans this hr
  have hx2 : (cutB 32 x).2.1.length ≤ 65536 := Nat.le_trans (cut_len (c := 32) x).2 hx
  have hk : k < 21 := (named_facts hn).1
  have hk' : (k : Int) < 21 := by omega
  have hbx := box5 w (.cells #[.int .i64 0, .int .i64 0, .float .f64 0] 42)
  have hbw : b < w.heap.size := h.lt
  have HN := Lib.hid (next_ok hT (hB.trans (hbx.mono hB.size)) hb (h.on hbx) h0 hl hr hc)
  have HT := Lib.hid hT
  have HBB := Lib.hid (hB.trans (hbx.mono hB.size))
  have HX := Lib.hid (heap_alloc_new w (.cells #[.int .i64 0, .int .i64 0, .float .f64 0] 42))
  have HC := Lib.hid (fun w' h => cut_any x 32 w' h hx)
  have HNM := Lib.hid (fun w' h => named_any (cutB 32 x).1 w' h)
  rw [hn] at HNM
  unfold namedV insV at HNM
  rw [hp] at HC
  have t1 : True := trivial
  generalize (cutB 32 x).1 = x1 at HC HNM
  generalize (cutB 32 x).2.1 = x2 at HC
  clear hT hB h hc hn hbx hx hx2 hp
  go_enter Tryz.func49, Tryz.ntmps49
  go_wp2_with (first
    | (go_at_call 67; refine HN.out.mono ?_; rintro e w1 ⟨rfl, h1, h2⟩; have HR := Lib.hid h1; have HX1 := Lib.hid ((h2.block w.heap.size (by simp) (by simp; omega)).trans HX.out); have HB1 := Lib.hid (turn_base HBB.out hb h2); have HU := Lib.hid ((turn_below (box5 _ _)).trans h2); clear h1 h2)
    | (go_at_call 69; refine (HC.out _ (HT.out.on HB1.out).len).mono ?_; rintro e w' ⟨rfl, n1, hw⟩; subst w')
    | (go_at_call 70; refine (HNM.out _ (HT.out.on (HB1.out.trans ((Same.drewN _ n1).below _))).sh).mono ?_; rintro e w3 ⟨rfl, hb3⟩; have HB3 : Hid (Below w1.heap.size w1 w3) := ((Same.drewN w1 n1).below _).trans hb3; have HX3 := Lib.hid ((hb3.block w.heap.size (lt_of_block HX1.out)).trans HX1.out); have HT3 := Lib.hid (HT.out.on (HB1.out.trans (HB3.out.mono HB1.out.size))); obtain ⟨c0, c1, c2, c3, c4, c5⟩ := HT3.out.sh.shp k hk; have hg0 := World.block_lt_of_cell? w3 _ c0; have hz3 : w.heap.size < w3.heap.size := lt_of_block HX3.out; have hne : w.heap.size ≠ w3.heap.size := Nat.ne_of_lt hz3; rw [hkd] at c1; clear hb3 c0 c2 c3 c4 c5)
    | (go_at_call 71; have _t := t1; refine (mustBe_yes b _).mono ?_; rintro e w2 ⟨rfl, hw2⟩; subst w2; clear t1)
    | (go_at_call 71; refine (mustBe_no b y (line + 1) _ ((HR.out.on HB3.out).on (box5 _ _))).mono ?_; rintro e w5 ⟨rfl, hb5⟩; have HB5 := Lib.hid (chain5 (box5 _ _) hb5); clear hb5))
  exact ⟨rfl, rfl, HU.out.trans ((turn_below HB3.out).trans (turn_below HB5.out))⟩
set_option maxHeartbeats 4000000 in
set_option maxRecDepth 100000 in
theorem instr_b4 {x y : List UInt8} {k n : Nat} (hT : Tabs5 W) (hB : Below W.heap.size W w) (hb : W.heap.size ≤ b) (h : RdAt w b rest line) (h0 : 0 ≤ line) (hl : line < 1025) (hr : rest.length ≤ 65536) (hc : cutB 10 rest = (x, y, true)) (hn : namedW (cutB 32 x).1 = some (k, n)) (hkd : (shp k).kind = 4) (hp : (cutB 32 x).2.2 = false) :
    Calls Tryz.prog 49 #[.pointer (some ⟨b, 0, none⟩)] w fun r w' => r = .returned (insV ⟨k, n, 0⟩) ∧ RdAt w' b y (line + 1) ∧ Turn [b] [b] w w' := by
  have hx : x.length ≤ 65536 := by have := (cut_len (c := 10) rest).1; rw [hc] at this; exact Nat.le_trans this hr
  have hx2 : (cutB 32 x).2.1.length ≤ 65536 := Nat.le_trans (cut_len (c := 32) x).2 hx
  have hk : k < 21 := (named_facts hn).1
  have hk' : (k : Int) < 21 := by omega
  have hbx := box5 w (.cells #[.int .i64 0, .int .i64 0, .float .f64 0] 42)
  have hbw : b < w.heap.size := h.lt
  have HN := Lib.hid (next_ok hT (hB.trans (hbx.mono hB.size)) hb (h.on hbx) h0 hl hr hc)
  have HT := Lib.hid hT
  have HBB := Lib.hid (hB.trans (hbx.mono hB.size))
  have HX := Lib.hid (heap_alloc_new w (.cells #[.int .i64 0, .int .i64 0, .float .f64 0] 42))
  have HC := Lib.hid (fun w' h => cut_any x 32 w' h hx)
  have HNM := Lib.hid (fun w' h => named_any (cutB 32 x).1 w' h)
  rw [hn] at HNM
  unfold namedV insV at HNM
  rw [hp] at HC
  unfold insV
  generalize (cutB 32 x).1 = x1 at HC HNM
  generalize (cutB 32 x).2.1 = x2 at HC
  clear hT hB h hc hn hbx hx hx2 hp
  go_enter Tryz.func49, Tryz.ntmps49
  go_wp2_with (first
    | (go_at_call 67; refine HN.out.mono ?_; rintro e w1 ⟨rfl, h1, h2⟩; have HR := Lib.hid h1; have HX1 := Lib.hid ((h2.block w.heap.size (by simp) (by simp; omega)).trans HX.out); have HB1 := Lib.hid (turn_base HBB.out hb h2); have HU := Lib.hid ((turn_below (box5 _ _)).trans h2); clear h1 h2)
    | (go_at_call 69; refine (HC.out _ (HT.out.on HB1.out).len).mono ?_; rintro e w' ⟨rfl, n1, hw⟩; subst w')
    | (go_at_call 70; refine (HNM.out _ (HT.out.on (HB1.out.trans ((Same.drewN _ n1).below _))).sh).mono ?_; rintro e w3 ⟨rfl, hb3⟩; have HB3 : Hid (Below w1.heap.size w1 w3) := ((Same.drewN w1 n1).below _).trans hb3; have HX3 := Lib.hid ((hb3.block w.heap.size (lt_of_block HX1.out)).trans HX1.out); have HT3 := Lib.hid (HT.out.on (HB1.out.trans (HB3.out.mono HB1.out.size))); obtain ⟨c0, c1, c2, c3, c4, c5⟩ := HT3.out.sh.shp k hk; have hg0 := World.block_lt_of_cell? w3 _ c0; have hz3 : w.heap.size < w3.heap.size := lt_of_block HX3.out; have hne : w.heap.size ≠ w3.heap.size := Nat.ne_of_lt hz3; rw [hkd] at c1; obtain ⟨r0, r1, r2, r3⟩ := cells3_of HX3.out; obtain ⟨s0, s1, s2⟩ := frozen3 HX3.out; clear hb3 c0 c2 c3 c4 c5)
    | (go_at_call 71; refine (mustBe_yes b _).mono ?_; rintro e w2 ⟨rfl, hw2⟩; subst w2))
  exact bodyPost_ret (v := .agg #[.int .i64 k, .int .i64 n, .float .f64 0]) (by simp [results, Tryz.results49, go_sem, r0, r1, r2, hz3]) rfl ⟨rfl, (rd_setN _ (rd_setN _ (rd_setN _ (HR.out.on HB3.out) (by omega)) (by omega)) (by omega)).on (box5 _ _), (turn_setN _ _ (Nat.le_refl _) (turn_setN _ _ (Nat.le_refl _) (turn_setN _ _ (Nat.le_refl _) (HU.out.trans (turn_below HB3.out))))).trans (turn_below (box5 _ _))⟩
set_option maxHeartbeats 4000000 in
set_option maxRecDepth 100000 in
theorem instr_b4_no {x y : List UInt8} {k n : Nat} (hT : Tabs5 W) (hB : Below W.heap.size W w) (hb : W.heap.size ≤ b) (h : RdAt w b rest line) (h0 : 0 ≤ line) (hl : line < 1025) (hr : rest.length ≤ 65536) (hc : cutB 10 rest = (x, y, true)) (hn : namedW (cutB 32 x).1 = some (k, n)) (hkd : (shp k).kind = 4) (hp : (cutB 32 x).2.2 = true) :
    Calls Tryz.prog 49 #[.pointer (some ⟨b, 0, none⟩)] w fun r w' => r = gaveUp 20 (line + 1) ∧ Turn [b] [b] w w' := by
  have hx : x.length ≤ 65536 := by have := (cut_len (c := 10) rest).1; rw [hc] at this; exact Nat.le_trans this hr
  have hx2 : (cutB 32 x).2.1.length ≤ 65536 := Nat.le_trans (cut_len (c := 32) x).2 hx
  have hk : k < 21 := (named_facts hn).1
  have hk' : (k : Int) < 21 := by omega
  have hbx := box5 w (.cells #[.int .i64 0, .int .i64 0, .float .f64 0] 42)
  have hbw : b < w.heap.size := h.lt
  have HN := Lib.hid (next_ok hT (hB.trans (hbx.mono hB.size)) hb (h.on hbx) h0 hl hr hc)
  have HT := Lib.hid hT
  have HBB := Lib.hid (hB.trans (hbx.mono hB.size))
  have HX := Lib.hid (heap_alloc_new w (.cells #[.int .i64 0, .int .i64 0, .float .f64 0] 42))
  have HC := Lib.hid (fun w' h => cut_any x 32 w' h hx)
  have HNM := Lib.hid (fun w' h => named_any (cutB 32 x).1 w' h)
  rw [hn] at HNM
  unfold namedV insV at HNM
  rw [hp] at HC
  have t1 : True := trivial
  generalize (cutB 32 x).1 = x1 at HC HNM
  generalize (cutB 32 x).2.1 = x2 at HC
  clear hT hB h hc hn hbx hx hx2 hp
  go_enter Tryz.func49, Tryz.ntmps49
  go_wp2_with (first
    | (go_at_call 67; refine HN.out.mono ?_; rintro e w1 ⟨rfl, h1, h2⟩; have HR := Lib.hid h1; have HX1 := Lib.hid ((h2.block w.heap.size (by simp) (by simp; omega)).trans HX.out); have HB1 := Lib.hid (turn_base HBB.out hb h2); have HU := Lib.hid ((turn_below (box5 _ _)).trans h2); clear h1 h2)
    | (go_at_call 69; refine (HC.out _ (HT.out.on HB1.out).len).mono ?_; rintro e w' ⟨rfl, n1, hw⟩; subst w')
    | (go_at_call 70; refine (HNM.out _ (HT.out.on (HB1.out.trans ((Same.drewN _ n1).below _))).sh).mono ?_; rintro e w3 ⟨rfl, hb3⟩; have HB3 : Hid (Below w1.heap.size w1 w3) := ((Same.drewN w1 n1).below _).trans hb3; have HX3 := Lib.hid ((hb3.block w.heap.size (lt_of_block HX1.out)).trans HX1.out); have HT3 := Lib.hid (HT.out.on (HB1.out.trans (HB3.out.mono HB1.out.size))); obtain ⟨c0, c1, c2, c3, c4, c5⟩ := HT3.out.sh.shp k hk; have hg0 := World.block_lt_of_cell? w3 _ c0; have hz3 : w.heap.size < w3.heap.size := lt_of_block HX3.out; have hne : w.heap.size ≠ w3.heap.size := Nat.ne_of_lt hz3; rw [hkd] at c1; clear hb3 c0 c2 c3 c4 c5)
    | (go_at_call 71; have _t := t1; refine (mustBe_yes b _).mono ?_; rintro e w2 ⟨rfl, hw2⟩; subst w2; clear t1)
    | (go_at_call 71; refine (mustBe_no b y (line + 1) _ ((HR.out.on HB3.out).on (box5 _ _))).mono ?_; rintro e w5 ⟨rfl, hb5⟩; have HB5 := Lib.hid (chain5 (box5 _ _) hb5); clear hb5))
  exact ⟨rfl, rfl, HU.out.trans ((turn_below HB3.out).trans (turn_below HB5.out))⟩
set_option maxHeartbeats 4000000 in
set_option maxRecDepth 100000 in
theorem instr_b5 {x y : List UInt8} {k n : Nat} (hT : Tabs5 W) (hB : Below W.heap.size W w) (hb : W.heap.size ≤ b) (h : RdAt w b rest line) (h0 : 0 ≤ line) (hl : line < 1025) (hr : rest.length ≤ 65536) (hc : cutB 10 rest = (x, y, true)) (hn : namedW (cutB 32 x).1 = some (k, n)) (hkd : (shp k).kind = 5) (hp : (cutB 32 x).2.2 = false) :
    Calls Tryz.prog 49 #[.pointer (some ⟨b, 0, none⟩)] w fun r w' => r = .returned (insV ⟨k, n, 0⟩) ∧ RdAt w' b y (line + 1) ∧ Turn [b] [b] w w' := by
  have hx : x.length ≤ 65536 := by have := (cut_len (c := 10) rest).1; rw [hc] at this; exact Nat.le_trans this hr
  have hx2 : (cutB 32 x).2.1.length ≤ 65536 := Nat.le_trans (cut_len (c := 32) x).2 hx
  have hk : k < 21 := (named_facts hn).1
  have hk' : (k : Int) < 21 := by omega
  have hbx := box5 w (.cells #[.int .i64 0, .int .i64 0, .float .f64 0] 42)
  have hbw : b < w.heap.size := h.lt
  have HN := Lib.hid (next_ok hT (hB.trans (hbx.mono hB.size)) hb (h.on hbx) h0 hl hr hc)
  have HT := Lib.hid hT
  have HBB := Lib.hid (hB.trans (hbx.mono hB.size))
  have HX := Lib.hid (heap_alloc_new w (.cells #[.int .i64 0, .int .i64 0, .float .f64 0] 42))
  have HC := Lib.hid (fun w' h => cut_any x 32 w' h hx)
  have HNM := Lib.hid (fun w' h => named_any (cutB 32 x).1 w' h)
  rw [hn] at HNM
  unfold namedV insV at HNM
  rw [hp] at HC
  unfold insV
  generalize (cutB 32 x).1 = x1 at HC HNM
  generalize (cutB 32 x).2.1 = x2 at HC
  clear hT hB h hc hn hbx hx hx2 hp
  go_enter Tryz.func49, Tryz.ntmps49
  go_wp2_with (first
    | (go_at_call 67; refine HN.out.mono ?_; rintro e w1 ⟨rfl, h1, h2⟩; have HR := Lib.hid h1; have HX1 := Lib.hid ((h2.block w.heap.size (by simp) (by simp; omega)).trans HX.out); have HB1 := Lib.hid (turn_base HBB.out hb h2); have HU := Lib.hid ((turn_below (box5 _ _)).trans h2); clear h1 h2)
    | (go_at_call 69; refine (HC.out _ (HT.out.on HB1.out).len).mono ?_; rintro e w' ⟨rfl, n1, hw⟩; subst w')
    | (go_at_call 70; refine (HNM.out _ (HT.out.on (HB1.out.trans ((Same.drewN _ n1).below _))).sh).mono ?_; rintro e w3 ⟨rfl, hb3⟩; have HB3 : Hid (Below w1.heap.size w1 w3) := ((Same.drewN w1 n1).below _).trans hb3; have HX3 := Lib.hid ((hb3.block w.heap.size (lt_of_block HX1.out)).trans HX1.out); have HT3 := Lib.hid (HT.out.on (HB1.out.trans (HB3.out.mono HB1.out.size))); obtain ⟨c0, c1, c2, c3, c4, c5⟩ := HT3.out.sh.shp k hk; have hg0 := World.block_lt_of_cell? w3 _ c0; have hz3 : w.heap.size < w3.heap.size := lt_of_block HX3.out; have hne : w.heap.size ≠ w3.heap.size := Nat.ne_of_lt hz3; rw [hkd] at c1; obtain ⟨r0, r1, r2, r3⟩ := cells3_of HX3.out; obtain ⟨s0, s1, s2⟩ := frozen3 HX3.out; clear hb3 c0 c2 c3 c4 c5)
    | (go_at_call 71; refine (mustBe_yes b _).mono ?_; rintro e w2 ⟨rfl, hw2⟩; subst w2))
  exact bodyPost_ret (v := .agg #[.int .i64 k, .int .i64 n, .float .f64 0]) (by simp [results, Tryz.results49, go_sem, r0, r1, r2, hz3]) rfl ⟨rfl, (rd_setN _ (rd_setN _ (rd_setN _ (HR.out.on HB3.out) (by omega)) (by omega)) (by omega)).on (box5 _ _), (turn_setN _ _ (Nat.le_refl _) (turn_setN _ _ (Nat.le_refl _) (turn_setN _ _ (Nat.le_refl _) (HU.out.trans (turn_below HB3.out))))).trans (turn_below (box5 _ _))⟩
set_option maxHeartbeats 4000000 in
set_option maxRecDepth 100000 in
theorem instr_b5_no {x y : List UInt8} {k n : Nat} (hT : Tabs5 W) (hB : Below W.heap.size W w) (hb : W.heap.size ≤ b) (h : RdAt w b rest line) (h0 : 0 ≤ line) (hl : line < 1025) (hr : rest.length ≤ 65536) (hc : cutB 10 rest = (x, y, true)) (hn : namedW (cutB 32 x).1 = some (k, n)) (hkd : (shp k).kind = 5) (hp : (cutB 32 x).2.2 = true) :
    Calls Tryz.prog 49 #[.pointer (some ⟨b, 0, none⟩)] w fun r w' => r = gaveUp 20 (line + 1) ∧ Turn [b] [b] w w' := by
  have hx : x.length ≤ 65536 := by have := (cut_len (c := 10) rest).1; rw [hc] at this; exact Nat.le_trans this hr
  have hx2 : (cutB 32 x).2.1.length ≤ 65536 := Nat.le_trans (cut_len (c := 32) x).2 hx
  have hk : k < 21 := (named_facts hn).1
  have hk' : (k : Int) < 21 := by omega
  have hbx := box5 w (.cells #[.int .i64 0, .int .i64 0, .float .f64 0] 42)
  have hbw : b < w.heap.size := h.lt
  have HN := Lib.hid (next_ok hT (hB.trans (hbx.mono hB.size)) hb (h.on hbx) h0 hl hr hc)
  have HT := Lib.hid hT
  have HBB := Lib.hid (hB.trans (hbx.mono hB.size))
  have HX := Lib.hid (heap_alloc_new w (.cells #[.int .i64 0, .int .i64 0, .float .f64 0] 42))
  have HC := Lib.hid (fun w' h => cut_any x 32 w' h hx)
  have HNM := Lib.hid (fun w' h => named_any (cutB 32 x).1 w' h)
  rw [hn] at HNM
  unfold namedV insV at HNM
  rw [hp] at HC
  have t1 : True := trivial
  generalize (cutB 32 x).1 = x1 at HC HNM
  generalize (cutB 32 x).2.1 = x2 at HC
  clear hT hB h hc hn hbx hx hx2 hp
  go_enter Tryz.func49, Tryz.ntmps49
  go_wp2_with (first
    | (go_at_call 67; refine HN.out.mono ?_; rintro e w1 ⟨rfl, h1, h2⟩; have HR := Lib.hid h1; have HX1 := Lib.hid ((h2.block w.heap.size (by simp) (by simp; omega)).trans HX.out); have HB1 := Lib.hid (turn_base HBB.out hb h2); have HU := Lib.hid ((turn_below (box5 _ _)).trans h2); clear h1 h2)
    | (go_at_call 69; refine (HC.out _ (HT.out.on HB1.out).len).mono ?_; rintro e w' ⟨rfl, n1, hw⟩; subst w')
    | (go_at_call 70; refine (HNM.out _ (HT.out.on (HB1.out.trans ((Same.drewN _ n1).below _))).sh).mono ?_; rintro e w3 ⟨rfl, hb3⟩; have HB3 : Hid (Below w1.heap.size w1 w3) := ((Same.drewN w1 n1).below _).trans hb3; have HX3 := Lib.hid ((hb3.block w.heap.size (lt_of_block HX1.out)).trans HX1.out); have HT3 := Lib.hid (HT.out.on (HB1.out.trans (HB3.out.mono HB1.out.size))); obtain ⟨c0, c1, c2, c3, c4, c5⟩ := HT3.out.sh.shp k hk; have hg0 := World.block_lt_of_cell? w3 _ c0; have hz3 : w.heap.size < w3.heap.size := lt_of_block HX3.out; have hne : w.heap.size ≠ w3.heap.size := Nat.ne_of_lt hz3; rw [hkd] at c1; clear hb3 c0 c2 c3 c4 c5)
    | (go_at_call 71; have _t := t1; refine (mustBe_yes b _).mono ?_; rintro e w2 ⟨rfl, hw2⟩; subst w2; clear t1)
    | (go_at_call 71; refine (mustBe_no b y (line + 1) _ ((HR.out.on HB3.out).on (box5 _ _))).mono ?_; rintro e w5 ⟨rfl, hb5⟩; have HB5 := Lib.hid (chain5 (box5 _ _) hb5); clear hb5))
  exact ⟨rfl, rfl, HU.out.trans ((turn_below HB3.out).trans (turn_below HB5.out))⟩
end
end Go.Proofs.YtlnobfmbnnfbdaaGreatDoor
