import Derived.Test.YtmkikapoflaghaaU3
import Derived.Test.YtmkikapoflaghaaU5
import Derived.StillTailTactics
import Derived.Deep.QuietTactic
import Derived.BigQuiet
namespace Go.Proofs.Ytmkikapoflaghaa
open Go.ChangeShapes Go.WideShapes Go.ChangeAt Go.RowKit

theorem follows12 : Try.prog.follows .mixedOrders = true := by kernel_rfl
/-- a region that draws its order, whose first n operations only read, and whose others come in their order -/
theorem region_tail12 {id : Nat} {Q : Exit → Act → World → Prop} {a : Act} {w : World} {l : List Oper} (n : Nat) (hB : Region.lexTailB .any l.toArray n = true)
    (h : wpStill Try.prog l.toArray w.drew (fun a' => wpList Try.prog l.toArray Q (l.drop n) a' w.drew) (l.take n) a) : (Code.region id l.toArray true).wp Try.prog Q a w := wp_region_still_tail n follows12 hB h
/-- nothing old but three blocks has turned -/
structure Ch3 (b g l : Nat) (w w' : World) : Prop where
  os : w'.os = w.os
  tape : w'.tape = w.tape
  output : w'.output = w.output
  size : w.heap.size ≤ w'.heap.size
  block : ∀ k, k < w.heap.size → k ≠ b → k ≠ g → k ≠ l → w'.heap[k]? = w.heap[k]?
section
variable {b g l : Nat} {a w c : World}
theorem Ch3.refl (b g l : Nat) (w : World) : Ch3 b g l w w := ⟨rfl, rfl, rfl, Nat.le_refl _, fun _ _ _ _ _ => rfl⟩
theorem Ch3.trans (h : Ch3 b g l a w) (k : Ch3 b g l w c) : Ch3 b g l a c :=
  ⟨k.os.trans h.os, k.tape.trans h.tape, k.output.trans h.output, Nat.le_trans h.size k.size, fun i hi h1 h2 h3 => (k.block i (Nat.lt_of_lt_of_le hi h.size) h1 h2 h3).trans (h.block i hi h1 h2 h3)⟩
theorem Ch3.chg (h : Ch3 b g l a w) (k : Chg b g w c) : Ch3 b g l a c := h.trans ⟨k.os, k.tape, k.output, k.size, fun i hi h1 h2 _ => k.block i hi h1 h2⟩
theorem Ch3.on (h : Ch3 b g l a w) (k : Below w.heap.size w c) : Ch3 b g l a c := h.trans ⟨k.os, k.tape, k.output, k.size, fun i hi _ _ _ => k.block i hi⟩
theorem Ch3.set (h : Ch3 b g l a w) (j : Nat) (u : Value) : Ch3 b g l a (w.setCell ⟨l, j, none⟩ u) := h.trans ⟨rfl, rfl, rfl, by simp, fun k _ _ _ h3 => heap_setCell_other _ _ _ _ h3⟩
theorem Ch3.below {B : Nat} (h : Ch3 b g l a w) (hb : B ≤ b) (hg : B ≤ g) (hl : B ≤ l) (hB : B ≤ a.heap.size) : Below B a w :=
  ⟨h.os, h.tape, h.output, h.size, fun k hk => h.block k (by omega) (by omega) (by omega) (by omega)⟩
end
theorem tb_drew {B : Nat} {a w : World} (h : Below B a w) : Below B a w.drew := ⟨h.os, h.tape, h.output, h.size, h.block⟩
theorem tb_drewN {B : Nat} {a w : World} (n : Nat) (h : Below B a w) : Below B a (w.drewN n) := ⟨h.os, h.tape, h.output, h.size, h.block⟩
/-- eight threads in a row -/
def TuAt (w : World) (l : Nat) (p k : Nat → Int) : Prop :=
  ∃ a : Array Value, w.heap[l]? = some (.cells a 54 (0, 0)) ∧ a.size = 16 ∧ ∀ i, i < 8 → a[i * 2]? = some (.int .i64 (p i)) ∧ a[i * 2 + 1]? = some (.int .u64 (k i))
section
variable {w w' : World} {l : Nat} {p k : Nat → Int}
theorem TuAt.lt (h : TuAt w l p k) : l < w.heap.size := by
  obtain ⟨a, h, _⟩ := h
  exact lt_of_block h
theorem TuAt.keep (h : TuAt w l p k) (e : w'.heap[l]? = w.heap[l]?) : TuAt w' l p k := by
  obtain ⟨a, h, r⟩ := h
  exact ⟨a, e.trans h, r⟩
theorem TuAt.at' (h : TuAt w l p k) {i : Nat} (hi : i < 8) : w.cell? ⟨l, i * 2, none⟩ = some (.int .i64 (p i)) ∧ w.cell? ⟨l, i * 2 + 1, none⟩ = some (.int .u64 (k i)) ∧ w.frozen? ⟨l, i * 2, none⟩ = false ∧ w.frozen? ⟨l, i * 2 + 1, none⟩ = false := by
  obtain ⟨a, h, hs, hr⟩ := h
  exact ⟨by rw [cell_of_row w l _ _ _ _ h]; exact (hr i hi).1, by rw [cell_of_row w l _ _ _ _ h]; exact (hr i hi).2, frozen_of_row w l _ _ _ h, frozen_of_row w l _ _ _ h⟩
theorem TuAt.setP (h : TuAt w l p k) (t : Nat) (ht : t < 8) (v : Int) : TuAt (w.setCell ⟨l, t * 2, none⟩ (.int .i64 v)) l (upd p t v) k := by
  obtain ⟨a, h, hs, hr⟩ := h
  refine ⟨_, heap_setCell_same _ _ _ _ _ _ h, by simp [hs], fun i hi => ⟨?_, ?_⟩⟩
  · by_cases e : i = t
    · subst e
      rw [upd_at, Array.getElem?_setIfInBounds_self]
      simp [show i * 2 < a.size by omega]
    · rw [upd_ne _ _ e, Array.getElem?_setIfInBounds_ne (by omega)]
      exact (hr i hi).1
  · rw [Array.getElem?_setIfInBounds_ne (by omega)]
    exact (hr i hi).2
theorem TuAt.setK (h : TuAt w l p k) (t : Nat) (ht : t < 8) (v : Int) : TuAt (w.setCell ⟨l, t * 2 + 1, none⟩ (.int .u64 v)) l p (upd k t v) := by
  obtain ⟨a, h, hs, hr⟩ := h
  refine ⟨_, heap_setCell_same _ _ _ _ _ _ h, by simp [hs], fun i hi => ⟨?_, ?_⟩⟩
  · rw [Array.getElem?_setIfInBounds_ne (by omega)]
    exact (hr i hi).1
  · by_cases e : i = t
    · subst e
      rw [upd_at, Array.getElem?_setIfInBounds_self]
      simp [show i * 2 + 1 < a.size by omega]
    · rw [upd_ne _ _ e, Array.getElem?_setIfInBounds_ne (by omega)]
      exact (hr i hi).2
end
theorem turnerInfo : (Try.prog.info? 54).map (fun i => (i.zero, i.size, i.bytes)) = some (some (.agg #[.int .i64 0, .int .u64 0]), 2, 16) := by kernel_rfl
theorem uMake : ∃ cur : Array Value, cur.size = 16 ∧ (∀ i, i < 8 → cur[i * 2]? = some (.int .i64 0) ∧ cur[i * 2 + 1]? = some (.int .u64 0)) ∧ ∀ w : World, (Instr.makeSlice 51 (.int .i64 8) (.int .i64 8)).run Try.prog w = .ok (.slice (some ⟨w.heap.size, 0, none⟩) 8 8) (w.alloc (.cells cur 54)) := by
  obtain ⟨i, hi, hz0, hz1, hz2⟩ := info_parts turnerInfo
  refine ⟨madeCells (Value.agg #[.int .i64 0, .int .u64 0]).cells (8 * 2), size_madeCells _ _, ?_, fun w => ?_⟩
  · have e : madeCells (Value.agg #[.int .i64 0, .int .u64 0]).cells (8 * 2) = #[.int .i64 0, .int .u64 0, .int .i64 0, .int .u64 0, .int .i64 0, .int .u64 0, .int .i64 0, .int .u64 0, .int .i64 0, .int .u64 0, .int .i64 0, .int .u64 0, .int .i64 0, .int .u64 0, .int .i64 0, .int .u64 0] := by kernel_rfl
    rw [e]
    intro i hi
    match i, hi with
    | 0, _ => exact ⟨rfl, rfl⟩
    | 1, _ => exact ⟨rfl, rfl⟩
    | 2, _ => exact ⟨rfl, rfl⟩
    | 3, _ => exact ⟨rfl, rfl⟩
    | 4, _ => exact ⟨rfl, rfl⟩
    | 5, _ => exact ⟨rfl, rfl⟩
    | 6, _ => exact ⟨rfl, rfl⟩
    | 7, _ => exact ⟨rfl, rfl⟩
  · have := run_make w 51 54 i _ Try.underlying51 hi hz0 .i64 .i64 (8 : Nat) (8 : Nat) (by omega) (Int.le_refl _) (by rw [hz2]; omega) (by omega)
    rw [hz1] at this
    exact this
/-- the memory, the threads, the plan, beside whatever else there is -/
structure Ob (W w : World) (b g l q : Nat) (p k : Nat → Int) (ws : List Int) (o : Bool) (c : Int) : Prop where
  m : MemAt 59 w b g ws o c
  t : TuAt w l p k
  pl : PlnAt w q 0 1 0 0 0 0
  ch : Ch3 b g l W w
  n1 : l ≠ b ∧ l ≠ g
  n2 : q ≠ b ∧ q ≠ g ∧ q ≠ l
section
variable {W w w' : World} {b g l q : Nat} {p k : Nat → Int} {ws ws' : List Int} {o o' : Bool} {c c' : Int}
theorem Ob.chg (h : Ob W w b g l q p k ws o c) (hm : MemAt 59 w' b g ws' o' c') (d : Chg b g w w') : Ob W w' b g l q p k ws' o' c' :=
  ⟨hm, h.t.keep (d.block l h.t.lt h.n1.1 h.n1.2), (d.block q (lt_of_block h.pl) h.n2.1 h.n2.2.1).trans h.pl, h.ch.chg d, h.n1, h.n2⟩
theorem Ob.on (h : Ob W w b g l q p k ws o c) (d : Below w.heap.size w w') : Ob W w' b g l q p k ws o c :=
  ⟨h.m.on d, h.t.keep (d.block l h.t.lt), (d.block q (lt_of_block h.pl)).trans h.pl, h.ch.on d, h.n1, h.n2⟩
theorem Ob.drewN (h : Ob W w b g l q p k ws o c) (n : Nat) : Ob W (w.drewN n) b g l q p k ws o c := h.on (drewN_below w n)
theorem Ob.setP (h : Ob W w b g l q p k ws o c) (t : Nat) (ht : t < 8) (v : Int) : Ob W (w.setCell ⟨l, t * 2, none⟩ (.int .i64 v)) b g l q (upd p t v) k ws o c :=
  ⟨h.m.other h.n1.1.symm h.n1.2.symm _ _, h.t.setP t ht v, (heap_setCell_other _ _ _ _ h.n2.2.2).trans h.pl, h.ch.set _ _, h.n1, h.n2⟩
theorem Ob.setK (h : Ob W w b g l q p k ws o c) (t : Nat) (ht : t < 8) (v : Int) : Ob W (w.setCell ⟨l, t * 2 + 1, none⟩ (.int .u64 v)) b g l q p (upd k t v) ws o c :=
  ⟨h.m.other h.n1.1.symm h.n1.2.symm _ _, h.t.setK t ht v, (heap_setCell_other _ _ _ _ h.n2.2.2).trans h.pl, h.ch.set _ _, h.n1, h.n2⟩
theorem ob_new (hm : MemAt 59 W b g ws o c) (ht : TuAt W l p k) (h1 : l ≠ b) (h2 : l ≠ g) : Ob W (W.alloc (.cells #[.int .i64 0, .int .i64 1, .int .i64 0, .int .i64 0, .int .i64 0, .int .i64 0] 25)) b g l W.heap.size p k ws o c :=
  ⟨hm.alloc _, ht.keep (Below.heap_alloc _ _ _ ht.lt), heap_alloc_new _ _, (Ch3.refl _ _ _ _).on ((Below.refl _ _).alloc (Nat.le_refl _) _), ⟨h1, h2⟩, ⟨Nat.ne_of_gt hm.ltB, Nat.ne_of_gt hm.ltG, Nat.ne_of_gt ht.lt⟩⟩
/-- all that a step reads -/
theorem Ob.cells (h : Ob W w b g l q p k ws o c) {t : Nat} (ht : t < 8) : (w.cell? ⟨l, t * 2, none⟩ = some (.int .i64 (p t)) ∧ w.cell? ⟨l, t * 2 + 1, none⟩ = some (.int .u64 (k t)) ∧ w.frozen? ⟨l, t * 2, none⟩ = false ∧ w.frozen? ⟨l, t * 2 + 1, none⟩ = false) ∧ l < w.heap.size ∧ w.cell? ⟨q, 0, none⟩ = some (.int .i64 0) ∧ w.cell? ⟨q, 1, none⟩ = some (.int .i64 1) ∧ w.cell? ⟨q, 2, none⟩ = some (.int .i64 0) ∧ w.cell? ⟨q, 3, none⟩ = some (.int .i64 0) ∧ w.cell? ⟨q, 4, none⟩ = some (.int .i64 0) ∧ w.cell? ⟨q, 5, none⟩ = some (.int .i64 0) ∧ q < w.heap.size := ⟨h.t.at' ht, h.t.lt, h.pl.cells⟩
theorem tw1 (n s : Int) : toldW [n, s] true 0 = n ∧ errA [n, s] true 0 = 0 ∧ stored [n, s] true 0 (addV (wordAt [n, s] 0) 1) = [addV n 1, s] ∧ spentO [n, s] true 0 = false := ⟨rfl, rfl, rfl, rfl⟩
theorem tw2 (n s t : Int) : aheadI [n, s] 1 t = betw s t ∧ errP [n, s] 1 = 0 := ⟨rfl, rfl⟩
theorem tw3 (n s t : Int) : lookB [n, s] true 1 t = decide (s = t) ∧ errA [n, s] true 1 = 0 ∧ spentO [n, s] true 1 = false := ⟨rfl, rfl, rfl⟩
theorem tw4 (n s t : Int) : errA [n, s] true 1 = 0 ∧ stored [n, s] true 1 (passV t) = [n, passV t] ∧ spentO [n, s] true 1 = false := ⟨rfl, rfl, rfl⟩
set_option maxHeartbeats 4000000 in
set_option maxRecDepth 100000 in
theorem one_draw {n s : Int} (hm : MemAt 59 W b g [n, s] o c) (hl : TuAt W l p k) (h1 : l ≠ b) (h2 : l ≠ g) {t : Nat} (ht : t < 8) (hp : p t = 0) :
    Calls Try.prog 21 #[.pointer (some ⟨b, 0, none⟩), plnV 0 1 0 0 0 0, .slice (some ⟨l, 0, none⟩) 8 8, .int .i64 t] W fun e w' => e = .returned (.tuple #[.int .i64 (-1), .bool true]) ∧ ∃ c' q, Ob W w' b g l q (upd p t 1) (upd k t n) [addV n 1, s] false c' := by
  have H0 := Lib.hid (ob_new hm hl h1 h2)
  have HT := Lib.hid ht
  have HP := Lib.hid hp
  have ht8 : (t : Int) < 8 := by omega
  unfold plnV
  clear hm hl h1 h2 hp
  go_enter Try.func21, Try.ntmps21
  go_wp2_with (first
    | (go_at_call 7; refine (open_any H0.out.m).mono ?_; rintro e w1 ⟨rfl, hm, hc⟩; have H1 := Lib.hid (H0.out.chg hm hc); obtain ⟨⟨a0, a1, a2, a3⟩, a4, p0, p1, p2, p3, p4, p5, p6⟩ := H1.out.cells HT.out; rw [HP.out] at a0; clear hm hc H0)
    | (go_at_call 10; refine (draw_any H1.out.m 0 1 0 0 0 0).mono ?_; rw [(tw1 n s).1, (tw1 n s).2.1, (tw1 n s).2.2.1, (tw1 n s).2.2.2]; rintro e w2 ⟨rfl, hm, hc⟩; have H2 := Lib.hid (H1.out.chg hm hc); obtain ⟨⟨b0, b1, b2, b3⟩, b4, _⟩ := H2.out.cells HT.out; clear hm hc H1))
  go_ret2
  exact ⟨rfl, _, _, (H2.out.setP t HT.out 1).setK t HT.out n⟩
set_option maxHeartbeats 4000000 in
set_option maxRecDepth 100000 in
theorem one_pass {n s : Int} (hm : MemAt 59 W b g [n, s] o c) (hl : TuAt W l p k) (h1 : l ≠ b) (h2 : l ≠ g) {t : Nat} (ht : t < 8) (hp : p t = 2) :
    Calls Try.prog 21 #[.pointer (some ⟨b, 0, none⟩), plnV 0 1 0 0 0 0, .slice (some ⟨l, 0, none⟩) 8 8, .int .i64 t] W fun e w' => e = .returned (.tuple #[.int .i64 (-1), .bool true]) ∧ ∃ c' q, Ob W w' b g l q (upd p t 0) k [n, passV (k t)] false c' := by
  have H0 := Lib.hid (ob_new hm hl h1 h2)
  have HT := Lib.hid ht
  have HP := Lib.hid hp
  have ht8 : (t : Int) < 8 := by omega
  unfold plnV
  obtain ⟨x, hx⟩ : ∃ x, k t = x := ⟨_, rfl⟩
  rw [hx]
  have HX := Lib.hid hx
  clear hm hl h1 h2 hp hx
  go_enter Try.func21, Try.ntmps21
  go_wp2_with (go_at_call 7; refine (open_any H0.out.m).mono ?_; rintro e w1 ⟨rfl, hm, hc⟩; have H1 := Lib.hid (H0.out.chg hm hc); obtain ⟨⟨a0, a1, a2, a3⟩, a4, p0, p1, p2, p3, p4, p5, p6⟩ := H1.out.cells HT.out; rw [HP.out] at a0; rw [HX.out] at a1; clear hm hc H0)
  refine region_tail12 7 (by kernel_rfl) ?_
  simp only [List.take_succ_cons, List.take_zero, List.drop_succ_cons, List.drop_zero]
  repeat still_step
  refine wpStill_nil ?_
  go_wp2_with (go_at_call 8; refine (pass_any (H1.out.on (tb_drew (Below.refl _ _))).m 0 1 0 0 0 0 x).mono ?_; rw [(tw4 n s x).1, (tw4 n s x).2.1, (tw4 n s x).2.2]; rintro e w2 ⟨rfl, hm, hc⟩; have H2 := Lib.hid ((H1.out.on (tb_drew (Below.refl _ _))).chg hm hc); obtain ⟨⟨b0, b1, b2, b3⟩, b4, r0, r1, r2, r3, r4, r5, r6⟩ := H2.out.cells HT.out; rw [HX.out] at b1; clear hm hc H1)
  go_ret2
  exact ⟨rfl, _, _, H2.out.setP t HT.out 0⟩
end
end Go.Proofs.Ytmkikapoflaghaa
