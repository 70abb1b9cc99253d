/- stage 20 (tree): a program put together of ops -/
import Derived.Test.YthnpgbmagfhgpaaDoorQG
import Derived.Test.YthnpgbmagfhgpaaDoorQX
import Derived.Test.YthnpgbmagfhgpaaDoorN14
namespace Go.Proofs.YthnpgbmagfhgpaaDoor.Tr
open Go.ChangeShapes Go.WideShapes Go.ChangeAt Go.RowKit Num Go.Maps As
open Go.ChangeMaps Go.MapKept
attribute [local go_sem] run_store_float frombits_run bits_run

def addB (s : Bs) (o : O) : Bs := if o.kind = 1 then s.add ⟨1, 0, X o.n⟩ none else if o.kind = 2 then s.add ⟨o.code, 0, 0⟩ (some o.n) else if o.kind = 3 then s.mark o.n else s.add ⟨o.code, o.n, 0⟩ none
def labs : Nat → Bs → Bs
  | 0, s => s
  | k + 1, s => (labs k s).lab
def bsOf (t : Int) (l : List O) : Bs := l.foldl addB (labs 10 (new t))
theorem addB_len (s : Bs) (o : O) : (addB s o).code.length ≤ s.code.length + 1 ∧ (addB s o).marks.length ≤ s.marks.length + 1 := by
  unfold addB
  split
  · exact ⟨by simp [Bs.add], Nat.le_succ _⟩
  · split
    · exact ⟨by simp [Bs.add], Nat.le_succ _⟩
    · split
      · exact ⟨Nat.le_succ _, by simp [Bs.mark]⟩
      · exact ⟨by simp [Bs.add], Nat.le_succ _⟩
theorem foldB_len : ∀ (l : List O) (s : Bs), (l.foldl addB s).code.length ≤ s.code.length + l.length ∧ (l.foldl addB s).marks.length ≤ s.marks.length + l.length
  | [], s => ⟨Nat.le_refl _, Nat.le_refl _⟩
  | o :: l, s => by
    have h1 := foldB_len l (addB s o)
    have h2 := addB_len s o
    simp only [List.foldl_cons, List.length_cons]
    omega
theorem labs_len (k : Nat) (t : Int) : (labs k (new t)).code = [] ∧ (labs k (new t)).marks = [] ∧ (labs k (new t)).tag = t := by
  induction k with
  | zero => exact ⟨rfl, rfl, rfl⟩
  | succ k ih =>
    have e : labs (k + 1) (new t) = (labs k (new t)).lab := rfl
    rw [e]
    unfold Bs.lab
    split <;> exact ih
theorem fold_tag : ∀ (l : List O) (s : Bs), (l.foldl addB s).tag = s.tag
  | [], _ => rfl
  | o :: l, s => by
    refine (fold_tag l (addB s o)).trans ?_
    unfold addB
    split
    · rfl
    · split
      · rfl
      · split <;> rfl
theorem fold_marks : ∀ (l : List O) (s : Bs), (∀ o ∈ l, o.kind = 2 ∨ o.kind = 3 → Wf o.n) → (∀ x, hasM s.marks x = true → Wf x) → ∀ x, hasM (l.foldl addB s).marks x = true → Wf x
  | [], _, _, h => h
  | o :: l, s, hl, h => by
    refine fold_marks l (addB s o) (fun q hq => hl q (List.mem_cons_of_mem _ hq)) ?_
    intro x hx
    unfold addB at hx
    split at hx
    · exact h x hx
    · split at hx
      · exact h x hx
      · split at hx
        · rename_i h3
          rw [show (s.mark o.n).marks = (o.n, s.code.length) :: s.marks from rfl, hasM_cons, Bool.or_eq_true, decide_eq_true_eq] at hx
          rcases hx with hx | hx
          · rw [← hx]; exact hl o (List.mem_cons_self ..) (.inr h3)
          · exact h x hx
        · exact h x hx
theorem flat3 : ∀ (l : List O) (i : Nat) (h : i < l.length) (j : Nat), j < 3 → (opC l)[i * 3 + j]? = ([.int .i64 l[i].kind, .int .i64 l[i].code, .int .i64 l[i].n] : List Value)[j]?
  | [], i, h, _, _ => absurd h (by simp)
  | o :: l, 0, _, j, hj => by
    show ([.int .i64 o.kind, .int .i64 o.code, .int .i64 o.n] ++ opC l)[0 * 3 + j]? = _
    rw [Nat.zero_mul, Nat.zero_add, List.getElem?_append_left (by simpa using hj)]
    rfl
  | o :: l, i + 1, h, j, hj => by
    show ([.int .i64 o.kind, .int .i64 o.code, .int .i64 o.n] ++ opC l)[(i + 1) * 3 + j]? = _
    rw [List.getElem?_append_right (by simp; omega)]
    have e : (i + 1) * 3 + j - [Value.int .i64 o.kind, .int .i64 o.code, .int .i64 o.n].length = i * 3 + j := by simp; omega
    rw [e]
    exact flat3 l i (by simpa using h) j hj
section
variable {w u : World} {b : Nat} {s : Bs}
set_option maxHeartbeats 1000000 in
set_option maxRecDepth 100000 in
theorem g_add {F : List Nat} (h : Bld u b F s) (k c n : Int) (hw : k = 2 ∨ k = 3 → Wf n) (hl : s.code.length < lim) (hm : s.marks.length < maxLen) : Calls Tryd.prog 48 #[.pointer (some ⟨b, 0, none⟩), .agg #[.int .i64 k, .int .i64 c, .int .i64 n]] u fun e w' => e = .returned (.tuple #[]) ∧ Hid (∃ F', Bld w' b F' (addB s ⟨k, c, n⟩) ∧ Turn F F' u w') := by
  have H : Hid (Bld (u.alloc (.cells #[.int .i64 k, .int .i64 c, .int .i64 n] 48)) b F s) := h.on (bl1 _ _)
  have HT : Hid (Turn F F u (u.alloc (.cells #[.int .i64 k, .int .i64 c, .int .i64 n] 48))) := As.turn_alloc F u _
  unfold addB
  by_cases h1 : k = 1
  · subst h1
    have HC := Lib.hid (push_any H.out (X n) hl)
    rw [if_pos rfl]
    clear h H
    go_enter Tryd.func48, Tryd.ntmps48
    go_wp2_with (go_at_call 55; refine HC.out.mono ?_; rintro e w2 ⟨F', rfl, hR⟩; have hR := Lib.hid hR; clear HC)
    go_end0
    exact ⟨rfl, F', hR.out.1, HT.out.trans hR.out.2⟩
  · by_cases h2 : k = 2
    · subst h2
      have HC := Lib.hid (to_any H.out c n (hw (.inl rfl)) hl)
      rw [if_neg (show ¬ (2 : Int) = 1 by decide), if_pos rfl]
      clear h H
      go_enter Tryd.func48, Tryd.ntmps48
      go_wp2_with (go_at_call 56; refine HC.out.mono ?_; rintro e w2 ⟨F', rfl, hR⟩; have hR := Lib.hid hR; clear HC)
      go_end0
      exact ⟨rfl, F', hR.out.1, HT.out.trans hR.out.2⟩
    · by_cases h3 : k = 3
      · subst h3
        have HC := Lib.hid (mark_any H.out (hw (.inr rfl)) hm)
        rw [if_neg (show ¬ (3 : Int) = 1 by decide), if_neg (show ¬ (3 : Int) = 2 by decide), if_pos rfl]
        clear h H
        go_enter Tryd.func48, Tryd.ntmps48
        go_wp2_with (go_at_call 57; refine HC.out.mono ?_; rintro e w2 ⟨F', rfl, hR⟩; have hR := Lib.hid hR; clear HC)
        go_end0
        exact ⟨rfl, F', hR.out.1, HT.out.trans hR.out.2⟩
      · have HC := Lib.hid (add_any H.out c n hl)
        rw [if_neg h1, if_neg h2, if_neg h3]
        have e1 : (k == 1) = false := by simpa using h1
        have e2 : (k == 2) = false := by simpa using h2
        have e3 : (k == 3) = false := by simpa using h3
        clear h H h1 h2 h3
        go_enter Tryd.func48, Tryd.ntmps48
        go_wp2_with (go_at_call 58; refine HC.out.mono ?_; rintro e w2 ⟨F', rfl, hR⟩; have hR := Lib.hid hR; clear HC)
        go_end0
        exact ⟨rfl, F', hR.out.1, HT.out.trans hR.out.2⟩
/-- a builder on the way that has no block g -/
def OnG (w u : World) (b g : Nat) (s : Bs) : Prop := ∃ F, Bld u b F s ∧ Abv w.heap.size F ∧ Below w.heap.size w u ∧ g ∉ F ∧ g < u.heap.size
theorem OnG.add {g : Nat} {u' : World} (h : OnG w u b g s) (k : Below u.heap.size u u') (kk c n : Int) (hw : kk = 2 ∨ kk = 3 → Wf n) (hl : s.code.length < lim) (hm : s.marks.length < maxLen) : Calls Tryd.prog 48 #[.pointer (some ⟨b, 0, none⟩), .agg #[.int .i64 kk, .int .i64 c, .int .i64 n]] u' fun e w' => e = .returned (.tuple #[]) ∧ Hid (OnG w w' b g (addB s ⟨kk, c, n⟩) ∧ w'.heap[g]? = u.heap[g]? ∧ u.heap.size ≤ w'.heap.size) := by
  obtain ⟨F, h1, h2, h3, h4, h5⟩ := h
  refine (g_add (h1.on k) kk c n hw hl hm).mono ?_
  rintro e w' ⟨rfl, hR⟩
  obtain ⟨F', q1, q2⟩ := hR.out
  have h6 : g < u'.heap.size := Nat.lt_of_lt_of_le h5 k.size
  have h7 : u.heap.size ≤ u'.heap.size := k.size
  have h8 : w.heap.size ≤ u.heap.size := h3.size
  refine ⟨rfl, ⟨F', q1, h2.turn (Nat.le_trans h8 h7) q2, (h3.trans (k.mono h8)).trans (q2.below h2 (Nat.le_trans h8 h7)), fun z => (q2.own g z).elim h4 (fun q => absurd h6 (Nat.not_lt.2 q)), Nat.lt_of_lt_of_le h6 q2.size⟩, (q2.block g h6 h4).trans (k.block g h5), Nat.le_trans h7 q2.size⟩
theorem pg_back {fn : Func} {p : Tmp} (h : fn.results = #[.cell p 24]) {Q : Ending → World → Prop} {a : Act} {w : World} (g : Nat) (t : Int) (po : Option Addr) (n c : Nat) (hp : a.tmps.getD p undef = .pointer (some ⟨g, 0, none⟩))
    (hg : w.heap[g]? = some (.cells #[.int .i64 t, .slice po n c] 24 (0, 0))) (hd : a.defers = []) (hR : Q (.returned (.agg #[.int .i64 t, .slice po n c])) w) : bodyPost Tryd.prog fn Q .ret a w :=
  bodyPost_ret (results_cell_row h _ _ g _ _ _ _ hp hg Tryd.underlying24 rfl (by kernel_rfl)) hd hR
/-- the program that was made: its instructions -/
def Pg (W : World) (s : Bs) (t : Int) (e : Ending) (w' : World) : Prop := ∃ p n c, e = .returned (.agg #[.int .i64 t, .slice p n c]) ∧ Hid (n = s.code.length ∧ RowW 63 3 w' p c n (codC (s.filled.map fixI)) ∧ Below W.heap.size W w')
set_option maxHeartbeats 2000000 in
set_option maxRecDepth 100000 in
theorem g_program {w : World} {b k cc : Nat} {Ls : List (List O)} (t : Int) (h : Parts w b Ls) (hk : Ls.length = k) (h0 : 0 < sumL Ls) (h1 : sumL Ls ≤ 4096) (h2 : k ≤ 4096) (hwf : ∀ o ∈ Ls.flatten, o.kind = 2 ∨ o.kind = 3 → Wf o.n) (hT : Shaped5 w) (hans : (bsOf t Ls.flatten).ans = 0) : Calls Tryd.prog 13 #[.int .i64 t, .slice (some ⟨b, 0, none⟩) k cc] w fun e w' => Pg w (bsOf t Ls.flatten) t e w' := by
  have hin : (w.alloc (.cells #[.int .i64 0, .slice none 0 0] 24)).heap[w.heap.size]? = some (.cells #[.int .i64 0, .slice none 0 0] 24 (0, 0)) := heap_alloc_new _ _
  obtain ⟨W, hW⟩ : ∃ W, w.alloc (.cells #[.int .i64 0, .slice none 0 0] 24) = W := ⟨_, rfl⟩
  have hbW : Below w.heap.size w W := hW ▸ bl1 w _
  rw [hW] at hin
  have HT : Hid (Shaped5 W) := hT.on hbW
  have HP : Hid (Parts W b Ls) := h.on hbW
  have HK := Lib.hid hk
  have H0 := Lib.hid h0
  have H1 := Lib.hid h1
  have H2 := Lib.hid h2
  have HWF := Lib.hid hwf
  have HANS := Lib.hid hans
  have HIN := Lib.hid hin
  have HBW := Lib.hid hbW
  have hsW : w.heap.size < W.heap.size := by rw [← hW]; simp
  obtain ⟨l, hl⟩ : ∃ l, Ls.flatten = l := ⟨_, rfl⟩
  rw [hl]
  have HL := Lib.hid hl
  clear h hk h0 h1 h2 hwf hT hans hin hbW hl
  have HEND : Hid (∀ (u : World) (x y : Value), Below W.heap.size W u → Below w.heap.size w ((u.setCell ⟨w.heap.size, 0, none⟩ x).setCell ⟨w.heap.size, 1, none⟩ y) ∧ ((u.setCell ⟨w.heap.size, 0, none⟩ x).setCell ⟨w.heap.size, 1, none⟩ y).heap[w.heap.size]? = some (.cells #[x, y] 24 (0, 0)) ∧ Turn [w.heap.size] [w.heap.size] u ((u.setCell ⟨w.heap.size, 0, none⟩ x).setCell ⟨w.heap.size, 1, none⟩ y)) := fun u x y k => by
    have t4 := (As.turn_set w.heap.size 0 x u).trans (As.turn_set w.heap.size 1 y _)
    have hr := (k.block _ hsW).trans HIN.out
    exact ⟨(HBW.out.trans (k.mono HBW.out.size)).trans (t4.below (fun i hi => by simp at hi; omega) (Nat.le_trans HBW.out.size k.size)), (heap_setCell_same _ _ 1 _ _ _ (heap_setCell_same _ _ 0 _ _ _ hr)).trans rfl, t4⟩
  have HCL : Hid (∀ u, Below W.heap.size W u → w.heap.size < u.heap.size ∧ u.cell? ⟨w.heap.size, 0, none⟩ = some (.int .i64 0) ∧ u.cell? ⟨w.heap.size, 1, none⟩ = some (.slice none 0 0) ∧ (∀ j, u.frozen? ⟨w.heap.size, j, none⟩ = false)) := fun u k => by
    have hr := (k.block _ hsW).trans HIN.out
    have h2 := cells2_of hr
    exact ⟨h2.2.2, h2.1, h2.2.1, fun j => frozen_of_row _ _ _ _ _ hr⟩
  go_enter Tryd.func13, Tryd.ntmps13
  go_wp2_with (go_at_call 45; refine (new_on W W (Below.refl _ _) t).mono ?_; rintro e w1 ⟨bb, rfl, HB⟩)
  go_loopw [12] (fun vi wr => ∃ i : Nat, vi = .int .i64 i ∧ i ≤ 10 ∧ Hid (On W wr bb (labs i (new t)))) (fun vi _ => 10 - (intOf vi).toNat)
  case atStart => exact ⟨0, rfl, Nat.zero_le _, HB.out⟩
  case round =>
    obtain ⟨i, rfl, hi, HI⟩ := hrel
    by_cases hlt : i < 10
    · have hltI : (i : Int) < 10 := by omega
      have HC := Lib.hid HI.out.label
      clear HI HEND HCL HT HP HK H0 H1 H2 HWF HANS HIN HBW HL
      go_wp2_with (go_at_call 46; refine HC.out.mono ?_; rintro e w2 ⟨rfl, hR⟩; clear HC)
      exact ⟨⟨i + 1, by first | rfl | (congr 1), by omega, hR.out⟩, by simp [intOf]; omega⟩
    · have hltI : ¬ (i : Int) < 10 := by omega
      obtain rfl : 10 = i := by omega
      have HON : Hid (∃ F, Bld wr bb F (labs 10 (new t)) ∧ Abv W.heap.size F ∧ Below W.heap.size W wr) := HI.out
      have hbw : Below W.heap.size W wr := by obtain ⟨F, _, _, q⟩ := HON.out; exact q
      have HJ := Lib.hid (join_new (cc := cc) (HP.out.on hbw) HK.out H0.out H1.out H2.out)
      have hblw : Hid (∃ F, Bld wr bb F (labs 10 (new t)) ∧ Abv W.heap.size F ∧ Below W.heap.size W wr ∧ ∀ x ∈ F, x < wr.heap.size) := by
        obtain ⟨F, q1, q2, q3⟩ := HON.out
        exact ⟨F, q1, q2, q3, q1.blw⟩
      clear hbw HI HON
      go_wp2_with (go_at_call 47; refine HJ.out.mono ?_; rintro e w2 ⟨g, n, c, rfl, hJ⟩; clear HJ)
      have HI2 : Hid (OnG W w2 bb g (labs 10 (new t))) := by
        obtain ⟨F, q1, q2, q3, q4⟩ := hblw.out
        exact ⟨F, q1.on hJ.out.1.2, q2, q3.trans (hJ.out.1.2.mono q3.size), fun z => absurd (q4 g z) (Nat.not_lt.2 hJ.out.2), hJ.out.1.1.2.2.blw g (by simp [fpR])⟩
      have hlen : n = l.length := by rw [← HL.out]; exact hJ.out.1.1.1
      have hn63 : n ≤ 4096 := by rw [hlen, ← HL.out]; exact H1.out
      go_loopw [20] (fun vi wq => ∃ i : Nat, vi = .int .i64 i ∧ i ≤ n ∧ Hid (OnG W wq bb g ((l.take i).foldl addB (labs 10 (new t))) ∧ OpsW wq (some ⟨g, 0, none⟩) c n l)) (fun vi _ => n - (intOf vi).toNat)
      case atStart => exact ⟨0, rfl, Nat.zero_le _, HI2.out, by rw [← HL.out]; exact hJ.out.1.1.2.2⟩
      case round =>
        obtain ⟨i, rfl, hi, HQ⟩ := hrel
        by_cases hlt : i < n
        · have hltI : (i : Int) < (n : Int) := by omega
          have hil : i < l.length := by omega
          obtain ⟨g', e', hg, _, _, cg, fg⟩ := HQ.out.2.at (by omega)
          cases e'
          obtain ⟨o, ho⟩ : ∃ o, l[i] = o := ⟨_, rfl⟩
          have hopc : ∀ j, j < 3 → (opC l)[i * 3 + j]? = ([.int .i64 o.kind, .int .i64 o.code, .int .i64 o.n] : List Value)[j]? := fun j hj => by
            rw [← ho]
            exact flat3 l i hil j hj
          have c0 : wr.cell? ⟨g, i * 3, none⟩ = some (.int .i64 o.kind) := (cg _ (by omega)).trans (hopc 0 (by decide))
          have c1 : wr.cell? ⟨g, i * 3 + 1, none⟩ = some (.int .i64 o.code) := (cg _ (by omega)).trans (hopc 1 (by decide))
          have c2 : wr.cell? ⟨g, i * 3 + 2, none⟩ = some (.int .i64 o.n) := (cg _ (by omega)).trans (hopc 2 (by decide))
          have hbnd := foldB_len (l.take i) (labs 10 (new t))
          rw [(labs_len 10 t).1, (labs_len 10 t).2.1, List.length_take, List.length_nil, List.length_nil] at hbnd
          have HW : Hid (o.kind = 2 ∨ o.kind = 3 → Wf o.n) := HWF.out o (by rw [HL.out, ← ho]; exact List.getElem_mem hil)
          have HA : Hid (∀ u, Below wr.heap.size wr u → Calls Tryd.prog 48 #[.pointer (some ⟨bb, 0, none⟩), .agg #[.int .i64 o.kind, .int .i64 o.code, .int .i64 o.n]] u fun e w' => e = .returned (.tuple #[]) ∧ Hid (OnG W w' bb g ((l.take (i + 1)).foldl addB (labs 10 (new t))) ∧ OpsW w' (some ⟨g, 0, none⟩) c n l)) := fun u k => by
            have etk : (l.take (i + 1)).foldl addB (labs 10 (new t)) = addB ((l.take i).foldl addB (labs 10 (new t))) o := by
              rw [List.take_succ_eq_append_getElem hil, List.foldl_append, ho]
              rfl
            rw [etk]
            refine (HQ.out.1.add k o.kind o.code o.n HW.out (by unfold lim; omega) (by unfold maxLen; omega)).mono ?_
            rintro e w' ⟨rfl, hR⟩
            exact ⟨rfl, hR.out.1, HQ.out.2.keep ⟨hR.out.2.2, fun x hx => by rw [show x = g by simpa [fpR] using hx]; exact hR.out.2.1⟩⟩
          clear HQ HW hbnd hopc cg fg ho hil HT HP HK H0 H1 H2 HWF HANS HIN HBW HL HEND HCL hlen hJ HI2 hblw
          go_wp2_with (go_at_call 48; refine (HA.out _ (by first | exact (bl1 _ _) | exact ((bl1 _ _).trans (bl1 _ _)) | exact Below.refl _ _)).mono ?_; rintro e w3 ⟨rfl, hR⟩; clear HA)
          exact ⟨⟨i + 1, by first | rfl | (congr 1), by omega, hR.out⟩, by simp [intOf]; omega⟩
        · have hltI : ¬ (i : Int) < (n : Int) := by omega
          obtain rfl : n = i := by omega
          have etk : l.take n = l := by rw [hlen, List.take_length]
          have HON2 : Hid (On W wr bb (bsOf t l)) := by
            obtain ⟨F, q1, q2, q3, _, _⟩ := HQ.out.1
            rw [etk] at q1
            exact ⟨F, q1, q2, q3⟩
          have hbnd := foldB_len l (labs 10 (new t))
          rw [(labs_len 10 t).1, (labs_len 10 t).2.1, List.length_nil, List.length_nil] at hbnd
          have HPR := Lib.hid (HON2.out.prog HT.out (by show (l.foldl addB (labs 10 (new t))).code.length < lim; unfold lim; omega) (fold_marks l _ (fun o ho => HWF.out o (HL.out ▸ ho)) (fun x hx => by rw [(labs_len 10 t).2.1] at hx; cases hx)))
          have hans : (bsOf t l).ans = 0 := by rw [← HL.out]; exact HANS.out
          rw [hans] at HPR
          have HZ : Hid (∀ w' t' p n' c', PrE wr w' (bsOf t l) t' p n' c' ∧ On W w' bb (bsOf t l) → t' = t ∧ n' = (bsOf t l).code.length ∧ RowW 63 3 w' p c' n' (codC ((bsOf t l).filled.map fixI)) ∧ Below W.heap.size W w' ∧ Abv W.heap.size (fpR p)) := fun w' t' p n' c' ⟨k1, k2⟩ => by
            have hbq : Below W.heap.size W wr := by obtain ⟨F, _, _, q⟩ := HON2.out; exact q
            obtain ⟨z1, z2, ⟨z3, z4, z5, z6⟩ | ⟨z3, _⟩⟩ := k1
            · exact ⟨z4.trans (by unfold bsOf; exact fold_tag l _ |>.trans (labs_len 10 t).2.2), z5, z6, hbq.trans (z1.mono hbq.size), z2.mono hbq.size⟩
            · exact absurd hans z3
          clear HQ HON2 hbnd HT HP HK H0 H1 H2 HWF HANS HIN HL hJ HI2 hblw hlen etk hans
          go_wp2_with (go_at_call 49; refine HPR.out.mono ?_; rintro e w3 ⟨t', p, n', c', rfl, hR⟩; obtain ⟨y1, y2, y3, y4, y5⟩ := HZ.out _ _ _ _ _ hR.out; subst y1; have hF := Lib.hid (And.intro y2 (And.intro y3 (And.intro y4 y5))); obtain ⟨x1, x2, x3, x4⟩ := HCL.out _ y4; have x40 := x4 0; have x41 := x4 1; clear x4 y2 y3 y4 y5 hR HPR HZ)
          obtain ⟨f1, f2, f3, f4⟩ := hF.out
          obtain ⟨g1, g2, g3⟩ := HEND.out w3 (.int .i64 t') (.slice p n' c') f3
          have hlt4 : w.heap.size < ((w3.setCell ⟨w.heap.size, 0, none⟩ (.int .i64 t')).setCell ⟨w.heap.size, 1, none⟩ (.slice p n' c')).heap.size := lt_of_block g2
          refine pg_back rfl w.heap.size t' p n' c' rfl ((Below.heap_alloc _ _ _ hlt4).trans g2) rfl ⟨p, n', c', rfl, f1, (f2.keep (g3.kept (fun x hx z => ?_) f2.blw)).keep (kept_below (bl1 _ _) ?_), g1.trans ((bl1 _ _).mono g1.size)⟩
          · have := f4 x hx
            simp at z
            omega
          · exact (f2.keep (g3.kept (fun x hx z => by have := f4 x hx; simp at z; omega) f2.blw)).blw
end
end Go.Proofs.YthnpgbmagfhgpaaDoor.Tr
