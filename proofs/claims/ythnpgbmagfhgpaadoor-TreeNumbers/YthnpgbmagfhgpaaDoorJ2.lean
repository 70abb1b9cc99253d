import Derived.Test.YthnpgbmagfhgpaaDoorJ1
namespace Go.Proofs.YthnpgbmagfhgpaaDoor.Tr
open Go.ChangeShapes Go.WideShapes Go.ChangeAt Go.RowKit Num Go.Maps As
open Go.ChangeMaps Go.MapKept
attribute [local go_sem] run_store_float frombits_run bits_run
def addB (s : Bs) (o : O) : Bs := if o.kind = 1 then s.add ⟨1, 0, X o.n⟩ none else if o.kind = 2 then s.add ⟨o.code, 0, 0⟩ (some o.n) else if o.kind = 3 then s.mark o.n else s.add ⟨o.code, o.n, 0⟩ none
def labs : Nat → Bs → Bs
  | 0, s => s
  | k + 1, s => (labs k s).lab
def bsOf (t : Int) (l : List O) : Bs := l.foldl addB (labs 10 (new t))
theorem addB_len (s : Bs) (o : O) : (addB s o).code.length ≤ s.code.length + 1 ∧ (addB s o).marks.length ≤ s.marks.length + 1 := by
  unfold addB
  split
  · exact ⟨by simp [Bs.add], Nat.le_succ _⟩
  · split
    · exact ⟨by simp [Bs.add], Nat.le_succ _⟩
    · split
      · exact ⟨Nat.le_succ _, by simp [Bs.mark]⟩
      · exact ⟨by simp [Bs.add], Nat.le_succ _⟩
theorem foldB_len : ∀ (l : List O) (s : Bs), (l.foldl addB s).code.length ≤ s.code.length + l.length ∧ (l.foldl addB s).marks.length ≤ s.marks.length + l.length
  | [], s => ⟨Nat.le_refl _, Nat.le_refl _⟩
  | o :: l, s => by
    have h1 := foldB_len l (addB s o)
    have h2 := addB_len s o
    simp only [List.foldl_cons, List.length_cons]
    omega
theorem labs_len (k : Nat) (t : Int) : (labs k (new t)).code = [] ∧ (labs k (new t)).marks = [] ∧ (labs k (new t)).tag = t := by
  induction k with
  | zero => exact ⟨rfl, rfl, rfl⟩
  | succ k ih =>
    have e : labs (k + 1) (new t) = (labs k (new t)).lab := rfl
    rw [e]
    unfold Bs.lab
    split <;> exact ih
theorem fold_tag : ∀ (l : List O) (s : Bs), (l.foldl addB s).tag = s.tag
  | [], _ => rfl
  | o :: l, s => by
    refine (fold_tag l (addB s o)).trans ?_
    unfold addB
    split
    · rfl
    · split
      · rfl
      · split <;> rfl
theorem fold_marks : ∀ (l : List O) (s : Bs), (∀ o ∈ l, o.kind = 2 ∨ o.kind = 3 → Wf o.n) → (∀ x, hasM s.marks x = true → Wf x) → ∀ x, hasM (l.foldl addB s).marks x = true → Wf x
  | [], _, _, h => h
  | o :: l, s, hl, h => by
    refine fold_marks l (addB s o) (fun q hq => hl q (List.mem_cons_of_mem _ hq)) ?_
    intro x hx
    unfold addB at hx
    split at hx
    · exact h x hx
    · split at hx
      · exact h x hx
      · split at hx
        · rename_i h3
          rw [show (s.mark o.n).marks = (o.n, s.code.length) :: s.marks from rfl, hasM_cons, Bool.or_eq_true, decide_eq_true_eq] at hx
          rcases hx with hx | hx
          · rw [← hx]; exact hl o (List.mem_cons_self ..) (.inr h3)
          · exact h x hx
        · exact h x hx
theorem flat3 : ∀ (l : List O) (i : Nat) (h : i < l.length) (j : Nat), j < 3 → (opC l)[i * 3 + j]? = ([.int .i64 l[i].kind, .int .i64 l[i].code, .int .i64 l[i].n] : List Value)[j]?
  | [], i, h, _, _ => absurd h (by simp)
  | o :: l, 0, _, j, hj => by
    show ([.int .i64 o.kind, .int .i64 o.code, .int .i64 o.n] ++ opC l)[0 * 3 + j]? = _
    rw [Nat.zero_mul, Nat.zero_add, List.getElem?_append_left (by simpa using hj)]
    rfl
  | o :: l, i + 1, h, j, hj => by
    show ([.int .i64 o.kind, .int .i64 o.code, .int .i64 o.n] ++ opC l)[(i + 1) * 3 + j]? = _
    rw [List.getElem?_append_right (by simp; omega)]
    have e : (i + 1) * 3 + j - [Value.int .i64 o.kind, .int .i64 o.code, .int .i64 o.n].length = i * 3 + j := by simp; omega
    rw [e]
    exact flat3 l i (by simpa using h) j hj
section
variable {w u : World} {b : Nat} {s : Bs}
set_option maxHeartbeats 1000000 in
set_option maxRecDepth 100000 in
theorem g_add {F : List Nat} (h : Bld u b F s) (k c n : Int) (hw : k = 2 ∨ k = 3 → Wf n) (hl : s.code.length < lim) (hm : s.marks.length < maxLen) : Calls Tryd.prog 48 #[.pointer (some ⟨b, 0, none⟩), .agg #[.int .i64 k, .int .i64 c, .int .i64 n]] u fun e w' => e = .returned (.tuple #[]) ∧ Hid (∃ F', Bld w' b F' (addB s ⟨k, c, n⟩) ∧ Turn F F' u w') := by
  have H : Hid (Bld (u.alloc (.cells #[.int .i64 k, .int .i64 c, .int .i64 n] 48)) b F s) := h.on (bl1 _ _)
  have HT : Hid (Turn F F u (u.alloc (.cells #[.int .i64 k, .int .i64 c, .int .i64 n] 48))) := Below.turn (bl1 u _) F
  unfold addB
  by_cases h1 : k = 1
  · subst h1
    have HC := Lib.hid (push_any H.out (X n) hl)
    rw [if_pos rfl]
    clear h H
    go_enter Tryd.func48, Tryd.ntmps48
    go_wp2_with (go_at_call 55; refine HC.out.mono ?_; rintro e w2 ⟨F', rfl, hR⟩; have hR := Lib.hid hR; clear HC)
    go_end0
    exact ⟨rfl, F', hR.out.1, HT.out.trans hR.out.2⟩
  · by_cases h2 : k = 2
    · subst h2
      have HC := Lib.hid (to_any H.out c n (hw (.inl rfl)) hl)
      rw [if_neg (show ¬ (2 : Int) = 1 by decide), if_pos rfl]
      clear h H
      go_enter Tryd.func48, Tryd.ntmps48
      go_wp2_with (go_at_call 56; refine HC.out.mono ?_; rintro e w2 ⟨F', rfl, hR⟩; have hR := Lib.hid hR; clear HC)
      go_end0
      exact ⟨rfl, F', hR.out.1, HT.out.trans hR.out.2⟩
    · by_cases h3 : k = 3
      · subst h3
        have HC := Lib.hid (mark_any H.out (hw (.inr rfl)) hm)
        rw [if_neg (show ¬ (3 : Int) = 1 by decide), if_neg (show ¬ (3 : Int) = 2 by decide), if_pos rfl]
        clear h H
        go_enter Tryd.func48, Tryd.ntmps48
        go_wp2_with (go_at_call 57; refine HC.out.mono ?_; rintro e w2 ⟨F', rfl, hR⟩; have hR := Lib.hid hR; clear HC)
        go_end0
        exact ⟨rfl, F', hR.out.1, HT.out.trans hR.out.2⟩
      · have HC := Lib.hid (add_any H.out c n hl)
        rw [if_neg h1, if_neg h2, if_neg h3]
        have e1 : (k == 1) = false := by simpa using h1
        have e2 : (k == 2) = false := by simpa using h2
        have e3 : (k == 3) = false := by simpa using h3
        clear h H h1 h2 h3
        go_enter Tryd.func48, Tryd.ntmps48
        go_wp2_with (go_at_call 58; refine HC.out.mono ?_; rintro e w2 ⟨F', rfl, hR⟩; have hR := Lib.hid hR; clear HC)
        go_end0
        exact ⟨rfl, F', hR.out.1, HT.out.trans hR.out.2⟩
def OnG (w u : World) (b g : Nat) (s : Bs) : Prop := ∃ F, Bld u b F s ∧ Abv w.heap.size F ∧ Below w.heap.size w u ∧ g ∉ F ∧ g < u.heap.size
theorem OnG.add {g : Nat} {u' : World} (h : OnG w u b g s) (k : Below u.heap.size u u') (kk c n : Int) (hw : kk = 2 ∨ kk = 3 → Wf n) (hl : s.code.length < lim) (hm : s.marks.length < maxLen) : Calls Tryd.prog 48 #[.pointer (some ⟨b, 0, none⟩), .agg #[.int .i64 kk, .int .i64 c, .int .i64 n]] u' fun e w' => e = .returned (.tuple #[]) ∧ Hid (OnG w w' b g (addB s ⟨kk, c, n⟩) ∧ w'.heap[g]? = u.heap[g]? ∧ u.heap.size ≤ w'.heap.size) := by
  obtain ⟨F, h1, h2, h3, h4, h5⟩ := h
  refine (g_add (h1.on k) kk c n hw hl hm).mono ?_
  rintro e w' ⟨rfl, hR⟩
  obtain ⟨F', q1, q2⟩ := hR.out
  have h6 : g < u'.heap.size := Nat.lt_of_lt_of_le h5 k.size
  have h7 : u.heap.size ≤ u'.heap.size := k.size
  have h8 : w.heap.size ≤ u.heap.size := h3.size
  refine ⟨rfl, ⟨F', q1, h2.turn (Nat.le_trans h8 h7) q2, (h3.trans (k.mono h8)).trans (q2.below h2 (Nat.le_trans h8 h7)), fun z => (q2.own g z).elim h4 (fun q => absurd h6 (Nat.not_lt.2 q)), Nat.lt_of_lt_of_le h6 q2.size⟩, (q2.block g h6 h4).trans (k.block g h5), Nat.le_trans h7 q2.size⟩
theorem pg_back {fn : Func} {p : Tmp} (h : fn.results = #[.cell p 24]) {Q : Ending → World → Prop} {a : Act} {w : World} (g : Nat) (t : Int) (po : Option Addr) (n c : Nat) (hp : a.tmps.getD p undef = .pointer (some ⟨g, 0, none⟩))
    (hg : w.heap[g]? = some (.cells #[.int .i64 t, .slice po n c] 24 (0, 0))) (hd : a.defers = []) (hR : Q (.returned (.agg #[.int .i64 t, .slice po n c])) w) : bodyPost Tryd.prog fn Q .ret a w :=
  bodyPost_ret (results_cell_row h _ _ g _ _ _ _ hp hg Tryd.underlying24 rfl (by kernel_rfl)) hd hR
def Pg (W : World) (s : Bs) (t : Int) (e : Ending) (w' : World) : Prop := ∃ p n c, e = .returned (.agg #[.int .i64 t, .slice p n c]) ∧ Hid (n = s.code.length ∧ RowW 63 3 w' p c n (codC (s.filled.map fixI)) ∧ Below W.heap.size W w')
set_option maxHeartbeats 2000000 in
set_option maxRecDepth 100000 in
theorem g_program {w : World} {b k cc : Nat} {Ls : List (List O)} (t : Int) (h : Parts w b Ls) (hk : Ls.length = k) (h0 : 0 < sumL Ls) (h1 : sumL Ls ≤ 4096) (h2 : k ≤ 4096) (hwf : ∀ o ∈ Ls.flatten, o.kind = 2 ∨ o.kind = 3 → Wf o.n) (hT : Shaped5 w) (hans : (bsOf t Ls.flatten).ans = 0) : Calls Tryd.prog 13 #[.int .i64 t, .slice (some ⟨b, 0, none⟩) k cc] w fun e w' => Pg w (bsOf t Ls.flatten) t e w' := by
  have hin : (w.alloc (.cells #[.int .i64 0, .slice none 0 0] 24)).heap[w.heap.size]? = some (.cells #[.int .i64 0, .slice none 0 0] 24 (0, 0)) := heap_alloc_new _ _
  obtain ⟨W, hW⟩ : ∃ W, w.alloc (.cells #[.int .i64 0, .slice none 0 0] 24) = W := ⟨_, rfl⟩
  have hbW : Below w.heap.size w W := hW ▸ bl1 w _
  rw [hW] at hin
  have HT : Hid (Shaped5 W) := hT.on hbW
  have HP : Hid (Parts W b Ls) := h.on hbW
  have HK := Lib.hid hk
  have H0 := Lib.hid h0
  have H1 := Lib.hid h1
  have H2 := Lib.hid h2
  have HWF := Lib.hid hwf
  have HANS := Lib.hid hans
  have HIN := Lib.hid hin
  have HBW := Lib.hid hbW
  have hsW : w.heap.size < W.heap.size := by rw [← hW]; simp
  obtain ⟨l, hl⟩ : ∃ l, Ls.flatten = l := ⟨_, rfl⟩
  rw [hl]
  have HL := Lib.hid hl
  clear h hk h0 h1 h2 hwf hT hans hin hbW hl
  have HEND : Hid (∀ (u : World) (x y : Value), Below W.heap.size W u → Below w.heap.size w ((u.setCell ⟨w.heap.size, 0, none⟩ x).setCell ⟨w.heap.size, 1, none⟩ y) ∧ ((u.setCell ⟨w.heap.size, 0, none⟩ x).setCell ⟨w.heap.size, 1, none⟩ y).heap[w.heap.size]? = some (.cells #[x, y] 24 (0, 0)) ∧ Turn [w.heap.size] [w.heap.size] u ((u.setCell ⟨w.heap.size, 0, none⟩ x).setCell ⟨w.heap.size, 1, none⟩ y)) := fun u x y k => by
    have t4 := (As.turn_set w.heap.size 0 x u).trans (As.turn_set w.heap.size 1 y _)
    have hr := (k.block _ hsW).trans HIN.out
    exact ⟨(HBW.out.trans (k.mono HBW.out.size)).trans (t4.below (fun i hi => by simp at hi; omega) (Nat.le_trans HBW.out.size k.size)), (heap_setCell_same _ _ 1 _ _ _ (heap_setCell_same _ _ 0 _ _ _ hr)).trans rfl, t4⟩
  have HCL : Hid (∀ u, Below W.heap.size W u → w.heap.size < u.heap.size ∧ u.cell? ⟨w.heap.size, 0, none⟩ = some (.int .i64 0) ∧ u.cell? ⟨w.heap.size, 1, none⟩ = some (.slice none 0 0) ∧ (∀ j, u.frozen? ⟨w.heap.size, j, none⟩ = false)) := fun u k => by
    have hr := (k.block _ hsW).trans HIN.out
    have h2 := cells2_of hr
    exact ⟨h2.2.2, h2.1, h2.2.1, fun j => frozen_of_row _ _ _ _ _ hr⟩
  go_enter Tryd.func13, Tryd.ntmps13
  go_wp2_with (go_at_call 45; refine (new_on W W (Below.refl _ _) t).mono ?_; rintro e w1 ⟨bb, rfl, HB⟩)
  go_loopw [12] (fun vi wr => ∃ i : Nat, vi = .int .i64 i ∧ i ≤ 10 ∧ Hid (On W wr bb (labs i (new t)))) (fun vi _ => 10 - (intOf vi).toNat)
  case atStart => exact ⟨0, rfl, Nat.zero_le _, HB.out⟩
  case round =>
    obtain ⟨i, rfl, hi, HI⟩ := hrel
    by_cases hlt : i < 10
    · have hltI : (i : Int) < 10 := by omega
      have HC := Lib.hid HI.out.label
      clear HI HEND HCL HT HP HK H0 H1 H2 HWF HANS HIN HBW HL
      go_wp2_with (go_at_call 46; refine HC.out.mono ?_; rintro e w2 ⟨rfl, hR⟩; clear HC)
      exact ⟨⟨i + 1, by first | rfl | (congr 1), by omega, hR.out⟩, by simp [intOf]; omega⟩
    · have hltI : ¬ (i : Int) < 10 := by omega
      obtain rfl : 10 = i := by omega
      have HON : Hid (∃ F, Bld wr bb F (labs 10 (new t)) ∧ Abv W.heap.size F ∧ Below W.heap.size W wr) := HI.out
      have hbw : Below W.heap.size W wr := by obtain ⟨F, _, _, q⟩ := HON.out; exact q
      have HJ := Lib.hid (join_new (cc := cc) (HP.out.on hbw) HK.out H0.out H1.out H2.out)
      have hblw : Hid (∃ F, Bld wr bb F (labs 10 (new t)) ∧ Abv W.heap.size F ∧ Below W.heap.size W wr ∧ ∀ x ∈ F, x < wr.heap.size) := by
        obtain ⟨F, q1, q2, q3⟩ := HON.out
        exact ⟨F, q1, q2, q3, q1.blw⟩
      clear hbw HI HON
      go_wp2_with (go_at_call 47; refine HJ.out.mono ?_; rintro e w2 ⟨g, n, c, rfl, hJ⟩; clear HJ)
      have HI2 : Hid (OnG W w2 bb g (labs 10 (new t))) := by
        obtain ⟨F, q1, q2, q3, q4⟩ := hblw.out
        exact ⟨F, q1.on hJ.out.1.2, q2, q3.trans (hJ.out.1.2.mono q3.size), fun z => absurd (q4 g z) (Nat.not_lt.2 hJ.out.2), hJ.out.1.1.2.2.blw g (by simp [fpR])⟩
      have hlen : n = l.length := by rw [← HL.out]; exact hJ.out.1.1.1
      have hn63 : n ≤ 4096 := by rw [hlen, ← HL.out]; exact H1.out
      go_loopw [20] (fun vi wq => ∃ i : Nat, vi = .int .i64 i ∧ i ≤ n ∧ Hid (OnG W wq bb g ((l.take i).foldl addB (labs 10 (new t))) ∧ OpsW wq (some ⟨g, 0, none⟩) c n l)) (fun vi _ => n - (intOf vi).toNat)
      case atStart => exact ⟨0, rfl, Nat.zero_le _, HI2.out, by rw [← HL.out]; exact hJ.out.1.1.2.2⟩
      case round =>
        obtain ⟨i, rfl, hi, HQ⟩ := hrel
        by_cases hlt : i < n
        · have hltI : (i : Int) < (n : Int) := by omega
          have hil : i < l.length := by omega
          obtain ⟨g', e', hg, _, _, cg, fg⟩ := HQ.out.2.at (by omega)
          cases e'
          obtain ⟨o, ho⟩ : ∃ o, l[i] = o := ⟨_, rfl⟩
          have hopc : ∀ j, j < 3 → (opC l)[i * 3 + j]? = ([.int .i64 o.kind, .int .i64 o.code, .int .i64 o.n] : List Value)[j]? := fun j hj => by
            rw [← ho]
            exact flat3 l i hil j hj
          have c0 : wr.cell? ⟨g, i * 3, none⟩ = some (.int .i64 o.kind) := (cg _ (by omega)).trans (hopc 0 (by decide))
          have c1 : wr.cell? ⟨g, i * 3 + 1, none⟩ = some (.int .i64 o.code) := (cg _ (by omega)).trans (hopc 1 (by decide))
          have c2 : wr.cell? ⟨g, i * 3 + 2, none⟩ = some (.int .i64 o.n) := (cg _ (by omega)).trans (hopc 2 (by decide))
          have hbnd := foldB_len (l.take i) (labs 10 (new t))
          rw [(labs_len 10 t).1, (labs_len 10 t).2.1, List.length_take, List.length_nil, List.length_nil] at hbnd
          have HW : Hid (o.kind = 2 ∨ o.kind = 3 → Wf o.n) := HWF.out o (by rw [HL.out, ← ho]; exact List.getElem_mem hil)
          have HA : Hid (∀ u, Below wr.heap.size wr u → Calls Tryd.prog 48 #[.pointer (some ⟨bb, 0, none⟩), .agg #[.int .i64 o.kind, .int .i64 o.code, .int .i64 o.n]] u fun e w' => e = .returned (.tuple #[]) ∧ Hid (OnG W w' bb g ((l.take (i + 1)).foldl addB (labs 10 (new t))) ∧ OpsW w' (some ⟨g, 0, none⟩) c n l)) := fun u k => by
            have etk : (l.take (i + 1)).foldl addB (labs 10 (new t)) = addB ((l.take i).foldl addB (labs 10 (new t))) o := by
              rw [List.take_succ_eq_append_getElem hil, List.foldl_append, ho]
              rfl
            rw [etk]
            refine (HQ.out.1.add k o.kind o.code o.n HW.out (by unfold lim; omega) (by unfold maxLen; omega)).mono ?_
            rintro e w' ⟨rfl, hR⟩
            exact ⟨rfl, hR.out.1, HQ.out.2.keep ⟨hR.out.2.2, fun x hx => by rw [show x = g by simpa [fpR] using hx]; exact hR.out.2.1⟩⟩
          clear HQ HW hbnd hopc cg fg ho hil HT HP HK H0 H1 H2 HWF HANS HIN HBW HL HEND HCL hlen hJ HI2 hblw
          go_wp2_with (go_at_call 48; refine (HA.out _ (by first | exact (bl1 _ _) | exact ((bl1 _ _).trans (bl1 _ _)) | exact Below.refl _ _)).mono ?_; rintro e w3 ⟨rfl, hR⟩; clear HA)
          exact ⟨⟨i + 1, by first | rfl | (congr 1), by omega, hR.out⟩, by simp [intOf]; omega⟩
        · have hltI : ¬ (i : Int) < (n : Int) := by omega
          obtain rfl : n = i := by omega
          have etk : l.take n = l := by rw [hlen, List.take_length]
          have HON2 : Hid (On W wr bb (bsOf t l)) := by
            obtain ⟨F, q1, q2, q3, _, _⟩ := HQ.out.1
            rw [etk] at q1
            exact ⟨F, q1, q2, q3⟩
          have hbnd := foldB_len l (labs 10 (new t))
          rw [(labs_len 10 t).1, (labs_len 10 t).2.1, List.length_nil, List.length_nil] at hbnd
          have HPR := Lib.hid (HON2.out.prog HT.out (by show (l.foldl addB (labs 10 (new t))).code.length < lim; unfold lim; omega) (fold_marks l _ (fun o ho => HWF.out o (HL.out ▸ ho)) (fun x hx => by rw [(labs_len 10 t).2.1] at hx; cases hx)))
          have hans : (bsOf t l).ans = 0 := by rw [← HL.out]; exact HANS.out
          rw [hans] at HPR
          have HZ : Hid (∀ w' t' p n' c', PrE wr w' (bsOf t l) t' p n' c' ∧ On W w' bb (bsOf t l) → t' = t ∧ n' = (bsOf t l).code.length ∧ RowW 63 3 w' p c' n' (codC ((bsOf t l).filled.map fixI)) ∧ Below W.heap.size W w' ∧ Abv W.heap.size (fpR p)) := fun w' t' p n' c' ⟨k1, k2⟩ => by
            have hbq : Below W.heap.size W wr := by obtain ⟨F, _, _, q⟩ := HON2.out; exact q
            obtain ⟨z1, z2, ⟨z3, z4, z5, z6⟩ | ⟨z3, _⟩⟩ := k1
            · exact ⟨z4.trans (by unfold bsOf; exact fold_tag l _ |>.trans (labs_len 10 t).2.2), z5, z6, hbq.trans (z1.mono hbq.size), z2.mono hbq.size⟩
            · exact absurd hans z3
          clear HQ HON2 hbnd HT HP HK H0 H1 H2 HWF HANS HIN HL hJ HI2 hblw hlen etk hans
          go_wp2_with (go_at_call 49; refine HPR.out.mono ?_; rintro e w3 ⟨t', p, n', c', rfl, hR⟩; obtain ⟨y1, y2, y3, y4, y5⟩ := HZ.out _ _ _ _ _ hR.out; subst y1; have hF := Lib.hid (And.intro y2 (And.intro y3 (And.intro y4 y5))); obtain ⟨x1, x2, x3, x4⟩ := HCL.out _ y4; have x40 := x4 0; have x41 := x4 1; clear x4 y2 y3 y4 y5 hR HPR HZ)
          obtain ⟨f1, f2, f3, f4⟩ := hF.out
          obtain ⟨g1, g2, g3⟩ := HEND.out w3 (.int .i64 t') (.slice p n' c') f3
          have hlt4 : w.heap.size < ((w3.setCell ⟨w.heap.size, 0, none⟩ (.int .i64 t')).setCell ⟨w.heap.size, 1, none⟩ (.slice p n' c')).heap.size := lt_of_block g2
          refine pg_back rfl w.heap.size t' p n' c' rfl ((Below.heap_alloc _ _ _ hlt4).trans g2) rfl ⟨p, n', c', rfl, f1, (f2.keep (g3.kept (fun x hx z => ?_) f2.blw)).keep (kept_below (bl1 _ _) ?_), g1.trans ((bl1 _ _).mono g1.size)⟩
          · have := f4 x hx
            simp at z
            omega
          · exact (f2.keep (g3.kept (fun x hx z => by have := f4 x hx; simp at z; omega) f2.blw)).blw
end
end Go.Proofs.YthnpgbmagfhgpaaDoor.Tr
namespace Go.Proofs.YthnpgbmagfhgpaaDoor.Tr
open Num As
def wfB (l : List O) : Bool := l.all fun o => (o.kind != 2 && o.kind != 3) || (decide (0 ≤ o.n) && decide (o.n ≤ 1000))
theorem wf_all {l : List O} (h : wfB l = true) : ∀ o ∈ l, o.kind = 2 ∨ o.kind = 3 → Wf o.n := by
  intro o ho hk
  have h1 := List.all_eq_true.1 h o ho
  rw [Bool.or_eq_true, Bool.and_eq_true, Bool.and_eq_true, decide_eq_true_eq, decide_eq_true_eq] at h1
  rcases h1 with ⟨h1, h2⟩ | ⟨h1, h2⟩
  · rcases hk with hk | hk <;> rw [hk] at h1 h2
    · exact absurd h1 (by decide)
    · exact absurd h2 (by decide)
  · show (Lit.int .i64 o.n).wf = true
    have e1 : IntKind.i64.min = -9223372036854775808 := by decide
    have e2 : IntKind.i64.max = 9223372036854775807 := by decide
    simp [Lit.wf]
    omega
def getO (_B _R : Int) : List (List O) := [oSearch _B _R, oMark (2), oLoad (1) (1), oEmit, oMark (1), oHalt]
theorem get_code (B R : Int) : (bsOf 1 (getO B R).flatten).filled.map fixI = getC B R := by kernel_rfl
theorem get_ans (B R : Int) : (bsOf 1 (getO B R).flatten).ans = 0 := by kernel_rfl
theorem get_wf (B R : Int) : ∀ o ∈ (getO B R).flatten, o.kind = 2 ∨ o.kind = 3 → Wf o.n := wf_all (by kernel_rfl)
def putO (_B _R : Int) : List (List O) := [oSearch _B _R, oMark (2), oStore (1) (1) ([oArg (1)]), oTell (0), oMark (1), oFolded _B _R (_B + 1), oPush (_R), oTwo (8), oTo (12) (6), oDo (19) (1), oMark (6), oFolded _B _R (_B), oSet (0), oGet (0), oTo (12) (7), oFolded _B _R (_B + 1), oPush (1), oTwo (1), oSet (0), oMark (7), oGoTo _B _R, oLoad (1) (2), oPush (_B), oWrite, oStore (1) (0) ([oArg (0)]), oStore (1) (1) ([oArg (1)]), oStore (1) (2) ([oPush (0)]), oRelink _B _R ([oGet (0)]), oGrow _B _R (1), oTell (1)]
theorem put_code (B R : Int) : (bsOf 2 (putO B R).flatten).filled.map fixI = putCd B R := by kernel_rfl
theorem put_ans (B R : Int) : (bsOf 2 (putO B R).flatten).ans = 0 := by kernel_rfl
theorem put_wf (B R : Int) : ∀ o ∈ (putO B R).flatten, o.kind = 2 ∨ o.kind = 3 → Wf o.n := wf_all (by kernel_rfl)
def delO (_B _R : Int) : List (List O) := [oSearch _B _R, oMark (1), oTell (0), oMark (2), oAhead _B _R, oTo (13) (5), oBehind _B _R, oTo (13) (5), oGet (1), oSet (4), oCell (1) (2), oSet (2), oPush (_R + 1), oSet (3), oWalk _B _R (3) (1) ([oAhead _B _R, oTo (13) (4), oPush (1), oSet (3)]), oMark (4), oStore (4) (0) ([oLoad (1) (0)]), oStore (4) (1) ([oLoad (1) (1)]), oMark (5), oRelink _B _R ([oAhead _B _R, oBehind _B _R, oTwo (1), oGet (0), oTwo (2)]), oStore (1) (2) ([oFolded _B _R (_B)]), oGet (0), oPush (_B), oWrite, oGrow _B _R ((-1)), oTell (1)]
theorem del_code (B R : Int) : (bsOf 2 (delO B R).flatten).filled.map fixI = delC B R := by kernel_rfl
theorem del_ans (B R : Int) : (bsOf 2 (delO B R).flatten).ans = 0 := by kernel_rfl
theorem del_wf (B R : Int) : ∀ o ∈ (delO B R).flatten, o.kind = 2 ∨ o.kind = 3 → Wf o.n := wf_all (by kernel_rfl)
def leastO (_B _R : Int) : List (List O) := [oBegin _B _R, oWalk _B _R (0) (1) ([oGet (1), oSet (4)]), oMark (1), oEmitKept]
theorem least_code (B R : Int) : (bsOf 1 (leastO B R).flatten).filled.map fixI = leastC B R := by kernel_rfl
theorem least_ans (B R : Int) : (bsOf 1 (leastO B R).flatten).ans = 0 := by kernel_rfl
theorem least_wf (B R : Int) : ∀ o ∈ (leastO B R).flatten, o.kind = 2 ∨ o.kind = 3 → Wf o.n := wf_all (by kernel_rfl)
def afterO (_B _R : Int) : List (List O) := [oBegin _B _R, oWalk _B _R (0) (1) ([oArg (0), oLoad (1) (0), oTwo (12), oDo (3) (0), oTo (13) (8), oGet (1), oSet (4), oMark (8), oOne (5), oTurn _B _R]), oMark (1), oEmitKept]
theorem after_code (B R : Int) : (bsOf 1 (afterO B R).flatten).filled.map fixI = afterC B R := by kernel_rfl
theorem after_ans (B R : Int) : (bsOf 1 (afterO B R).flatten).ans = 0 := by kernel_rfl
theorem after_wf (B R : Int) : ∀ o ∈ (afterO B R).flatten, o.kind = 2 ∨ o.kind = 3 → Wf o.n := wf_all (by kernel_rfl)
def lenO (_B _R : Int) : List (List O) := [oFolded _B _R (_B + 1), oEmit, oHalt]
theorem len_code (B R : Int) : (bsOf 1 (lenO B R).flatten).filled.map fixI = lenC B R := by kernel_rfl
theorem len_ans (B R : Int) : (bsOf 1 (lenO B R).flatten).ans = 0 := by kernel_rfl
theorem len_wf (B R : Int) : ∀ o ∈ (lenO B R).flatten, o.kind = 2 ∨ o.kind = 3 → Wf o.n := wf_all (by kernel_rfl)
def allO (_B _R : Int) : List (List O) := [oPush (0), oBegin _B _R, oWalk _B _R (0) (1) ([oGet (1), oPush (1), oSet (3)]), oMark (1), oDo (3) (0), oTo (13) (9), oSet (1), oEmitPair (1), oCell (1) (2), oSet (2), oPush (_R + 1), oSet (3), oTo (11) (0), oMark (9), oHalt]
theorem all_code (B R : Int) : (bsOf 1 (allO B R).flatten).filled.map fixI = allC B R := by kernel_rfl
theorem all_ans (B R : Int) : (bsOf 1 (allO B R).flatten).ans = 0 := by kernel_rfl
theorem all_wf (B R : Int) : ∀ o ∈ (allO B R).flatten, o.kind = 2 ∨ o.kind = 3 → Wf o.n := wf_all (by kernel_rfl)
end Go.Proofs.YthnpgbmagfhgpaaDoor.Tr
namespace Go.Proofs.YthnpgbmagfhgpaaDoor.Tr
open Go.ChangeShapes Go.WideShapes Go.ChangeAt Go.RowKit Num Go.Maps As
open Go.ChangeMaps Go.MapKept
attribute [local go_sem] run_store_float frombits_run bits_run
def PgC (W : World) (t : Int) (cs : List Ins) (e : Ending) (w' : World) : Prop := ∃ p n c, e = .returned (.agg #[.int .i64 t, .slice p n c]) ∧ Hid (n = cs.length ∧ RowW 63 3 w' p c n (codC cs) ∧ Below W.heap.size W w')
theorem bs_len {t : Int} {l : List O} {cs : List Ins} (h : (bsOf t l).filled.map fixI = cs) : (bsOf t l).code.length = cs.length := by rw [← h, List.length_map, filled_len]
def plotO (B R : Int) : Obj := .cells #[.int .i64 B, .int .i64 R] 33
def pg0 : Obj := .cells #[.int .i64 0, .slice none 0 0] 24
def pgW (w : World) (B R : Int) : World := (w.alloc (plotO B R)).alloc pg0
theorem pgW_size (w : World) (B R : Int) : (pgW w B R).heap.size = w.heap.size + 2 := by simp [pgW]
theorem pgW_bl (w : World) (B R : Int) : Below w.heap.size w (pgW w B R) := (bl1 w _).trans ((bl1 _ _).mono (by simp))
theorem pg_cells (w : World) (B R : Int) (u : World) (k : Below (pgW w B R).heap.size (pgW w B R) u) : (u.cell? ⟨w.heap.size, 0, none⟩ = some (.int .i64 B) ∧ u.cell? ⟨w.heap.size, 1, none⟩ = some (.int .i64 R)) ∧ (w.heap.size + 1 < u.heap.size ∧ u.cell? ⟨w.heap.size + 1, 0, none⟩ = some (.int .i64 0) ∧ u.cell? ⟨w.heap.size + 1, 1, none⟩ = some (.slice none 0 0) ∧ u.frozen? ⟨w.heap.size + 1, 0, none⟩ = false ∧ u.frozen? ⟨w.heap.size + 1, 1, none⟩ = false) := by
  have h1 : (pgW w B R).heap[w.heap.size + 1]? = some pg0 := by
    have := heap_alloc_new (w.alloc (plotO B R)) pg0
    simpa [pgW] using this
  have h0 : (pgW w B R).heap[w.heap.size]? = some (plotO B R) := (Below.heap_alloc _ _ _ (by simp)).trans (heap_alloc_new w _)
  have hs : (pgW w B R).heap.size = w.heap.size + 2 := by simp [pgW]
  have a := cells2_of ((k.block _ (by omega)).trans h0)
  have hb := (k.block _ (by omega)).trans h1
  have b := cells2_of hb
  exact ⟨⟨a.1, a.2.1⟩, b.2.2, b.1, b.2.1, frozen_of_row _ _ 0 _ _ hb, frozen_of_row _ _ 1 _ _ hb⟩
theorem pg_end {w u : World} {B R t : Int} {p : Option Addr} {n c : Nat} {cs : List Ins} (k : Below (pgW w B R).heap.size (pgW w B R) u) (hr : RowW 63 3 u p c n (codC cs)) :
    ((u.setCell ⟨w.heap.size + 1, 0, none⟩ (.int .i64 t)).setCell ⟨w.heap.size + 1, 1, none⟩ (.slice p n c)).heap[w.heap.size + 1]? = some (.cells #[.int .i64 t, .slice p n c] 24 (0, 0)) ∧ RowW 63 3 ((u.setCell ⟨w.heap.size + 1, 0, none⟩ (.int .i64 t)).setCell ⟨w.heap.size + 1, 1, none⟩ (.slice p n c)) p c n (codC cs) ∧ Below w.heap.size w ((u.setCell ⟨w.heap.size + 1, 0, none⟩ (.int .i64 t)).setCell ⟨w.heap.size + 1, 1, none⟩ (.slice p n c)) := by
  have h1 : (pgW w B R).heap[w.heap.size + 1]? = some pg0 := by
    have := heap_alloc_new (w.alloc (plotO B R)) pg0
    simpa [pgW] using this
  have hs : (pgW w B R).heap.size = w.heap.size + 2 := by simp [pgW]
  have hb := (k.block _ (by omega)).trans h1
  have t4 := (As.turn_set (w.heap.size + 1) 0 (.int .i64 t) u).trans (As.turn_set (w.heap.size + 1) 1 (.slice p n c) _)
  have hbw : Below w.heap.size w (pgW w B R) := (bl1 w _).trans ((bl1 _ _).mono (by simp))
  exact ⟨(heap_setCell_same _ _ 1 _ _ _ (heap_setCell_same _ _ 0 _ _ _ hb)).trans rfl, hr.keep (t4.kept (fun x hx z => by
    obtain ⟨arr, e⟩ := hr.blk hx
    rw [show x = w.heap.size + 1 by simpa using z] at e
    exact ne_ty e hb (by decide) rfl) hr.blw), (hbw.trans (k.mono hbw.size)).trans (t4.below (fun i hi => by simp at hi; omega) (Nat.le_trans hbw.size k.size))⟩
section
variable {w : World} {B R : Int}
set_option maxHeartbeats 2000000 in
set_option maxRecDepth 100000 in
theorem g_pget (hB : 0 ≤ B ∧ B ≤ 256) (hR : 0 ≤ R ∧ R ≤ 16) (hT : Shaped5 w) : Calls Tryd.prog 6 #[.agg #[.int .i64 B, .int .i64 R]] w fun e w' => PgC w 1 (getC B R) e w' := by
  have A : Hid (Acc (pgW w B R) (pgW w B R) []) := acc_nil (Below.refl _ _)
  have HT : Hid (Shaped5 w) := hT
  clear hT
  go_enter Tryd.func6, Tryd.ntmps6
  go_wp2_with (first
    | (go_at_call 14; refine (g_search hB hR _).mono ?_; rintro e u ⟨g, n, c, rfl, h⟩; replace A := Lib.hid (A.out.more h.out); clear h)
    | (go_at_call 15; refine (g_mark _ _).mono ?_; rintro e u ⟨g, n, c, rfl, h⟩; replace A := Lib.hid (A.out.more h.out); clear h)
    | (go_at_call 16; refine (g_load _ _ _).mono ?_; rintro e u ⟨g, n, c, rfl, h⟩; replace A := Lib.hid (A.out.more h.out); clear h)
    | (go_at_call 17; refine (g_emit _).mono ?_; rintro e u ⟨g, n, c, rfl, h⟩; replace A := Lib.hid (A.out.more h.out); clear h)
    | (go_at_call 18; refine (g_halt _).mono ?_; rintro e u ⟨g, n, c, rfl, h⟩; replace A := Lib.hid (A.out.more h.out); clear h)
    | (go_at_call 13; refine (g_program 1 (A.out.parts rfl) rfl (Nat.le_of_ble_eq_true rfl) (Nat.le_of_ble_eq_true rfl) (Nat.le_of_ble_eq_true rfl) (get_wf B R) (HT.out.on ((pgW_bl w B R).trans (((A.out.on (bl1 _ _)).bl).mono (by rw [pgW_size]; omega)))) (get_ans B R)).mono ?_; rintro e u ⟨p, n, c, rfl, hZ⟩; have HBL := Lib.hid (A.out.bl.trans (((bl1 _ _).trans (hZ.out.2.2.mono (by simp))).mono A.out.bl.size)); obtain ⟨⟨x0, x1⟩, y0, y1, y2, y3, y4⟩ := pg_cells w B R _ HBL.out))
  obtain ⟨f1, f2, f3⟩ := hZ.out
  change RowW 63 3 u p c n (codC ((bsOf 1 (getO B R).flatten).filled.map fixI)) at f2
  change n = (bsOf 1 (getO B R).flatten).code.length at f1
  rw [get_code] at f2
  obtain ⟨z1, z2, z3⟩ := pg_end (t := 1) HBL.out f2
  exact pg_back rfl (w.heap.size + 1) 1 p n c rfl z1 rfl ⟨p, n, c, rfl, f1.trans (bs_len (get_code B R)), z2, z3⟩
set_option maxHeartbeats 2000000 in
set_option maxRecDepth 100000 in
theorem g_pput (hB : 0 ≤ B ∧ B ≤ 256) (hR : 0 ≤ R ∧ R ≤ 16) (hT : Shaped5 w) : Calls Tryd.prog 7 #[.agg #[.int .i64 B, .int .i64 R]] w fun e w' => PgC w 2 (putCd B R) e w' := by
  have HB : Hid (∀ u, Below (pgW w B R).heap.size (pgW w B R) u → u.cell? ⟨w.heap.size, 0, none⟩ = some (.int .i64 B) ∧ u.cell? ⟨w.heap.size, 1, none⟩ = some (.int .i64 R)) := fun u k => (pg_cells w B R u k).1
  have A : Hid (Acc (pgW w B R) ((pgW w B R).drew) []) := acc_nil ((Same.drew _).below _)
  have HT : Hid (Shaped5 w) := hT
  clear hT
  go_enter Tryd.func7, Tryd.ntmps7
  go_wp2_with fail
  refine wp_region_seqE (fun u => u.cell? ⟨w.heap.size, 0, none⟩ = some (.int .i64 B) ∧ u.cell? ⟨w.heap.size, 1, none⟩ = some (.int .i64 R)) ((0, true) :: (8, true) :: (9, true) :: (12, true) :: (19, true) :: (20, true) :: (26, true) :: (27, true) :: (34, true) :: (37, true) :: (50, true) :: (54, true) :: (13, true) :: (1, false) :: (2, false) :: (3, false) :: (4, false) :: (5, false) :: (6, false) :: (7, false) :: (10, false) :: (11, false) :: (14, false) :: (15, false) :: (16, false) :: (17, false) :: (18, false) :: (21, false) :: (22, false) :: (23, false) :: (24, false) :: (25, false) :: (28, false) :: (29, false) :: (30, false) :: (31, false) :: (32, false) :: (33, false) :: (35, false) :: (36, false) :: (38, false) :: (39, false) :: (40, false) :: (41, false) :: (42, false) :: (43, false) :: (44, false) :: (45, false) :: (46, false) :: (47, false) :: (48, false) :: (49, false) :: (51, false) :: (52, false) :: (53, false) :: (55, false) :: (56, false) :: (57, false) :: (58, false) :: (59, false) :: []) follows (by kernel_rfl) (fun _ _ _ _ _ h => h) (HB.out _ ((Same.drew _).below _)) ?_
  (repeat (refine wpSeqE_take (v := ?_) rfl (by rfl) (fun wq hSq => ?_) ?_; rotate_left; (focus ((try dsimp only at hSq); go_simp; try with_reducible rfl)); simp only [Act.put, List.setIfInBounds_toArray, List.set_cons_zero, List.set_cons_succ]))
  (refine wpSeqE_do rfl (by rfl) (fun KK hK => ?_); go_simp)
  refine (g_search hB hR _).mono ?_; rintro e u ⟨g, n, c, rfl, h⟩; replace A := Lib.hid (A.out.more h.out); clear h
  refine hK.out _ _ (fun _ => HB.out _ A.out.bl) ?_
  (clear hK KK; try simp only [Act.put, List.setIfInBounds_toArray, List.set_cons_zero, List.set_cons_succ])
  (repeat (refine wpSeqE_take (v := ?_) rfl (by rfl) (fun wq hSq => ?_) ?_; rotate_left; (focus ((try dsimp only at hSq); go_simp; try with_reducible rfl)); simp only [Act.put, List.setIfInBounds_toArray, List.set_cons_zero, List.set_cons_succ]))
  (refine wpSeqE_do rfl (by rfl) (fun KK hK => ?_); go_simp)
  refine (g_mark _ _).mono ?_; rintro e u ⟨g, n, c, rfl, h⟩; replace A := Lib.hid (A.out.more h.out); clear h
  refine hK.out _ _ (fun _ => HB.out _ A.out.bl) ?_
  (clear hK KK; try simp only [Act.put, List.setIfInBounds_toArray, List.set_cons_zero, List.set_cons_succ])
  (repeat (refine wpSeqE_take (v := ?_) rfl (by rfl) (fun wq hSq => ?_) ?_; rotate_left; (focus ((try dsimp only at hSq); go_simp; try with_reducible rfl)); simp only [Act.put, List.setIfInBounds_toArray, List.set_cons_zero, List.set_cons_succ]))
  (refine wpSeqE_do rfl (by rfl) (fun KK hK => ?_); go_simp)
  refine (g_arg _ _).mono ?_; rintro e u ⟨g, n, c, rfl, h⟩; replace A := Lib.hid (A.out.more h.out); clear h
  refine hK.out _ _ (fun _ => HB.out _ A.out.bl) ?_
  (clear hK KK; try simp only [Act.put, List.setIfInBounds_toArray, List.set_cons_zero, List.set_cons_succ])
  (repeat (refine wpSeqE_take (v := ?_) rfl (by rfl) (fun wq hSq => ?_) ?_; rotate_left; (focus ((try dsimp only at hSq); go_simp; try with_reducible rfl)); simp only [Act.put, List.setIfInBounds_toArray, List.set_cons_zero, List.set_cons_succ]))
  (refine wpSeqE_do rfl (by rfl) (fun KK hK => ?_); go_simp)
  refine hK.out _ _ (fun _ => HB.out _ (A.out.on (bl1 _ _)).bl) ?_
  (clear hK KK; try simp only [Act.put, List.setIfInBounds_toArray, List.set_cons_zero, List.set_cons_succ])
  (repeat (refine wpSeqE_take (v := ?_) rfl (by rfl) (fun wq hSq => ?_) ?_; rotate_left; (focus ((try dsimp only at hSq); go_simp; try with_reducible rfl)); simp only [Act.put, List.setIfInBounds_toArray, List.set_cons_zero, List.set_cons_succ]))
  (refine wpSeqE_do rfl (by rfl) (fun KK hK => ?_); go_simp)
  refine (g_store ((A.out.take 1).parts rfl) rfl (Nat.le_of_ble_eq_true rfl) (Nat.le_of_ble_eq_true rfl) (Nat.le_of_ble_eq_true rfl) _ _).mono ?_; rintro e u ⟨g, n, c, rfl, h⟩; replace A := Lib.hid ((A.out.drop 1).over h.out); clear h
  refine hK.out _ _ (fun _ => HB.out _ A.out.bl) ?_
  (clear hK KK; try simp only [Act.put, List.setIfInBounds_toArray, List.set_cons_zero, List.set_cons_succ])
  (repeat (refine wpSeqE_take (v := ?_) rfl (by rfl) (fun wq hSq => ?_) ?_; rotate_left; (focus ((try dsimp only at hSq); go_simp; try with_reducible rfl)); simp only [Act.put, List.setIfInBounds_toArray, List.set_cons_zero, List.set_cons_succ]))
  (refine wpSeqE_do rfl (by rfl) (fun KK hK => ?_); go_simp)
  refine (g_tell _ _).mono ?_; rintro e u ⟨g, n, c, rfl, h⟩; replace A := Lib.hid (A.out.more h.out); clear h
  refine hK.out _ _ (fun _ => HB.out _ A.out.bl) ?_
  (clear hK KK; try simp only [Act.put, List.setIfInBounds_toArray, List.set_cons_zero, List.set_cons_succ])
  (repeat (refine wpSeqE_take (v := ?_) rfl (by rfl) (fun wq hSq => ?_) ?_; rotate_left; (focus ((try dsimp only at hSq); go_simp; try with_reducible rfl)); simp only [Act.put, List.setIfInBounds_toArray, List.set_cons_zero, List.set_cons_succ]))
  (refine wpSeqE_do rfl (by rfl) (fun KK hK => ?_); go_simp)
  refine (g_mark _ _).mono ?_; rintro e u ⟨g, n, c, rfl, h⟩; replace A := Lib.hid (A.out.more h.out); clear h
  refine hK.out _ _ (fun _ => HB.out _ A.out.bl) ?_
  (clear hK KK; try simp only [Act.put, List.setIfInBounds_toArray, List.set_cons_zero, List.set_cons_succ])
  (repeat (refine wpSeqE_take (v := ?_) rfl (by rfl) (fun wq hSq => ?_) ?_; rotate_left; (focus ((try dsimp only at hSq); go_simp; try with_reducible rfl)); simp only [Act.put, List.setIfInBounds_toArray, List.set_cons_zero, List.set_cons_succ]))
  (refine wpSeqE_do rfl (by rfl) (fun KK hK => ?_); go_simp)
  refine (g_count hB hR _).mono ?_; rintro e u ⟨rfl, h⟩; replace A := Lib.hid (A.out.on h); clear h
  refine hK.out _ _ (fun _ => HB.out _ A.out.bl) ?_
  (clear hK KK; try simp only [Act.put, List.setIfInBounds_toArray, List.set_cons_zero, List.set_cons_succ])
  (repeat (refine wpSeqE_take (v := ?_) rfl (by rfl) (fun wq hSq => ?_) ?_; rotate_left; (focus ((try dsimp only at hSq); go_simp; try with_reducible rfl)); simp only [Act.put, List.setIfInBounds_toArray, List.set_cons_zero, List.set_cons_succ]))
  (refine wpSeqE_do rfl (by rfl) (fun KK hK => ?_); go_simp)
  refine (g_folded hB hR _ _).mono ?_; rintro e u ⟨g, n, c, rfl, h⟩; replace A := Lib.hid (A.out.more h.out); clear h
  refine hK.out _ _ (fun _ => HB.out _ A.out.bl) ?_
  (clear hK KK; try simp only [Act.put, List.setIfInBounds_toArray, List.set_cons_zero, List.set_cons_succ])
  (repeat (refine wpSeqE_take (v := ?_) rfl (by rfl) (fun wq hSq => ?_) ?_; rotate_left; (focus ((try dsimp only at hSq); go_simp; try with_reducible rfl)); simp only [Act.put, List.setIfInBounds_toArray, List.set_cons_zero, List.set_cons_succ]))
  (refine wpSeqE_do rfl (by rfl) (fun KK hK => ?_); go_simp)
  refine (g_push _ _).mono ?_; rintro e u ⟨g, n, c, rfl, h⟩; replace A := Lib.hid (A.out.more h.out); clear h
  refine hK.out _ _ (fun _ => HB.out _ A.out.bl) ?_
  (clear hK KK; try simp only [Act.put, List.setIfInBounds_toArray, List.set_cons_zero, List.set_cons_succ])
  (repeat (refine wpSeqE_take (v := ?_) rfl (by rfl) (fun wq hSq => ?_) ?_; rotate_left; (focus ((try dsimp only at hSq); go_simp; try with_reducible rfl)); simp only [Act.put, List.setIfInBounds_toArray, List.set_cons_zero, List.set_cons_succ]))
  (refine wpSeqE_do rfl (by rfl) (fun KK hK => ?_); go_simp)
  refine (g_two _ _).mono ?_; rintro e u ⟨g, n, c, rfl, h⟩; replace A := Lib.hid (A.out.more h.out); clear h
  refine hK.out _ _ (fun _ => HB.out _ A.out.bl) ?_
  (clear hK KK; try simp only [Act.put, List.setIfInBounds_toArray, List.set_cons_zero, List.set_cons_succ])
  (repeat (refine wpSeqE_take (v := ?_) rfl (by rfl) (fun wq hSq => ?_) ?_; rotate_left; (focus ((try dsimp only at hSq); go_simp; try with_reducible rfl)); simp only [Act.put, List.setIfInBounds_toArray, List.set_cons_zero, List.set_cons_succ]))
  (refine wpSeqE_do rfl (by rfl) (fun KK hK => ?_); go_simp)
  refine (g_to _ _ _).mono ?_; rintro e u ⟨g, n, c, rfl, h⟩; replace A := Lib.hid (A.out.more h.out); clear h
  refine hK.out _ _ (fun _ => HB.out _ A.out.bl) ?_
  (clear hK KK; try simp only [Act.put, List.setIfInBounds_toArray, List.set_cons_zero, List.set_cons_succ])
  (repeat (refine wpSeqE_take (v := ?_) rfl (by rfl) (fun wq hSq => ?_) ?_; rotate_left; (focus ((try dsimp only at hSq); go_simp; try with_reducible rfl)); simp only [Act.put, List.setIfInBounds_toArray, List.set_cons_zero, List.set_cons_succ]))
  (refine wpSeqE_do rfl (by rfl) (fun KK hK => ?_); go_simp)
  refine (g_do _ _ _).mono ?_; rintro e u ⟨g, n, c, rfl, h⟩; replace A := Lib.hid (A.out.more h.out); clear h
  refine hK.out _ _ (fun _ => HB.out _ A.out.bl) ?_
  (clear hK KK; try simp only [Act.put, List.setIfInBounds_toArray, List.set_cons_zero, List.set_cons_succ])
  (repeat (refine wpSeqE_take (v := ?_) rfl (by rfl) (fun wq hSq => ?_) ?_; rotate_left; (focus ((try dsimp only at hSq); go_simp; try with_reducible rfl)); simp only [Act.put, List.setIfInBounds_toArray, List.set_cons_zero, List.set_cons_succ]))
  (refine wpSeqE_do rfl (by rfl) (fun KK hK => ?_); go_simp)
  refine (g_mark _ _).mono ?_; rintro e u ⟨g, n, c, rfl, h⟩; replace A := Lib.hid (A.out.more h.out); clear h
  refine hK.out _ _ (fun _ => HB.out _ A.out.bl) ?_
  (clear hK KK; try simp only [Act.put, List.setIfInBounds_toArray, List.set_cons_zero, List.set_cons_succ])
  (repeat (refine wpSeqE_take (v := ?_) rfl (by rfl) (fun wq hSq => ?_) ?_; rotate_left; (focus ((try dsimp only at hSq); go_simp; try with_reducible rfl)); simp only [Act.put, List.setIfInBounds_toArray, List.set_cons_zero, List.set_cons_succ]))
  (refine wpSeqE_do rfl (by rfl) (fun KK hK => ?_); go_simp)
  refine (g_spare hB hR _).mono ?_; rintro e u ⟨rfl, h⟩; replace A := Lib.hid (A.out.on h); clear h
  refine hK.out _ _ (fun _ => HB.out _ A.out.bl) ?_
  (clear hK KK; try simp only [Act.put, List.setIfInBounds_toArray, List.set_cons_zero, List.set_cons_succ])
  (repeat (refine wpSeqE_take (v := ?_) rfl (by rfl) (fun wq hSq => ?_) ?_; rotate_left; (focus ((try dsimp only at hSq); go_simp; try with_reducible rfl)); simp only [Act.put, List.setIfInBounds_toArray, List.set_cons_zero, List.set_cons_succ]))
  (refine wpSeqE_do rfl (by rfl) (fun KK hK => ?_); go_simp)
  refine (g_folded hB hR _ _).mono ?_; rintro e u ⟨g, n, c, rfl, h⟩; replace A := Lib.hid (A.out.more h.out); clear h
  refine hK.out _ _ (fun _ => HB.out _ A.out.bl) ?_
  (clear hK KK; try simp only [Act.put, List.setIfInBounds_toArray, List.set_cons_zero, List.set_cons_succ])
  (repeat (refine wpSeqE_take (v := ?_) rfl (by rfl) (fun wq hSq => ?_) ?_; rotate_left; (focus ((try dsimp only at hSq); go_simp; try with_reducible rfl)); simp only [Act.put, List.setIfInBounds_toArray, List.set_cons_zero, List.set_cons_succ]))
  (refine wpSeqE_do rfl (by rfl) (fun KK hK => ?_); go_simp)
  refine (g_set _ _).mono ?_; rintro e u ⟨g, n, c, rfl, h⟩; replace A := Lib.hid (A.out.more h.out); clear h
  refine hK.out _ _ (fun _ => HB.out _ A.out.bl) ?_
  (clear hK KK; try simp only [Act.put, List.setIfInBounds_toArray, List.set_cons_zero, List.set_cons_succ])
  (repeat (refine wpSeqE_take (v := ?_) rfl (by rfl) (fun wq hSq => ?_) ?_; rotate_left; (focus ((try dsimp only at hSq); go_simp; try with_reducible rfl)); simp only [Act.put, List.setIfInBounds_toArray, List.set_cons_zero, List.set_cons_succ]))
  (refine wpSeqE_do rfl (by rfl) (fun KK hK => ?_); go_simp)
  refine (g_get _ _).mono ?_; rintro e u ⟨g, n, c, rfl, h⟩; replace A := Lib.hid (A.out.more h.out); clear h
  refine hK.out _ _ (fun _ => HB.out _ A.out.bl) ?_
  (clear hK KK; try simp only [Act.put, List.setIfInBounds_toArray, List.set_cons_zero, List.set_cons_succ])
  (repeat (refine wpSeqE_take (v := ?_) rfl (by rfl) (fun wq hSq => ?_) ?_; rotate_left; (focus ((try dsimp only at hSq); go_simp; try with_reducible rfl)); simp only [Act.put, List.setIfInBounds_toArray, List.set_cons_zero, List.set_cons_succ]))
  (refine wpSeqE_do rfl (by rfl) (fun KK hK => ?_); go_simp)
  refine (g_to _ _ _).mono ?_; rintro e u ⟨g, n, c, rfl, h⟩; replace A := Lib.hid (A.out.more h.out); clear h
  refine hK.out _ _ (fun _ => HB.out _ A.out.bl) ?_
  (clear hK KK; try simp only [Act.put, List.setIfInBounds_toArray, List.set_cons_zero, List.set_cons_succ])
  (repeat (refine wpSeqE_take (v := ?_) rfl (by rfl) (fun wq hSq => ?_) ?_; rotate_left; (focus ((try dsimp only at hSq); go_simp; try with_reducible rfl)); simp only [Act.put, List.setIfInBounds_toArray, List.set_cons_zero, List.set_cons_succ]))
  (refine wpSeqE_do rfl (by rfl) (fun KK hK => ?_); go_simp)
  refine (g_count hB hR _).mono ?_; rintro e u ⟨rfl, h⟩; replace A := Lib.hid (A.out.on h); clear h
  refine hK.out _ _ (fun _ => HB.out _ A.out.bl) ?_
  (clear hK KK; try simp only [Act.put, List.setIfInBounds_toArray, List.set_cons_zero, List.set_cons_succ])
  (repeat (refine wpSeqE_take (v := ?_) rfl (by rfl) (fun wq hSq => ?_) ?_; rotate_left; (focus ((try dsimp only at hSq); go_simp; try with_reducible rfl)); simp only [Act.put, List.setIfInBounds_toArray, List.set_cons_zero, List.set_cons_succ]))
  (refine wpSeqE_do rfl (by rfl) (fun KK hK => ?_); go_simp)
  refine (g_folded hB hR _ _).mono ?_; rintro e u ⟨g, n, c, rfl, h⟩; replace A := Lib.hid (A.out.more h.out); clear h
  refine hK.out _ _ (fun _ => HB.out _ A.out.bl) ?_
  (clear hK KK; try simp only [Act.put, List.setIfInBounds_toArray, List.set_cons_zero, List.set_cons_succ])
  (repeat (refine wpSeqE_take (v := ?_) rfl (by rfl) (fun wq hSq => ?_) ?_; rotate_left; (focus ((try dsimp only at hSq); go_simp; try with_reducible rfl)); simp only [Act.put, List.setIfInBounds_toArray, List.set_cons_zero, List.set_cons_succ]))
  (refine wpSeqE_do rfl (by rfl) (fun KK hK => ?_); go_simp)
  refine (g_push _ _).mono ?_; rintro e u ⟨g, n, c, rfl, h⟩; replace A := Lib.hid (A.out.more h.out); clear h
  refine hK.out _ _ (fun _ => HB.out _ A.out.bl) ?_
  (clear hK KK; try simp only [Act.put, List.setIfInBounds_toArray, List.set_cons_zero, List.set_cons_succ])
  (repeat (refine wpSeqE_take (v := ?_) rfl (by rfl) (fun wq hSq => ?_) ?_; rotate_left; (focus ((try dsimp only at hSq); go_simp; try with_reducible rfl)); simp only [Act.put, List.setIfInBounds_toArray, List.set_cons_zero, List.set_cons_succ]))
  (refine wpSeqE_do rfl (by rfl) (fun KK hK => ?_); go_simp)
  refine (g_two _ _).mono ?_; rintro e u ⟨g, n, c, rfl, h⟩; replace A := Lib.hid (A.out.more h.out); clear h
  refine hK.out _ _ (fun _ => HB.out _ A.out.bl) ?_
  (clear hK KK; try simp only [Act.put, List.setIfInBounds_toArray, List.set_cons_zero, List.set_cons_succ])
  (repeat (refine wpSeqE_take (v := ?_) rfl (by rfl) (fun wq hSq => ?_) ?_; rotate_left; (focus ((try dsimp only at hSq); go_simp; try with_reducible rfl)); simp only [Act.put, List.setIfInBounds_toArray, List.set_cons_zero, List.set_cons_succ]))
  (refine wpSeqE_do rfl (by rfl) (fun KK hK => ?_); go_simp)
  refine (g_set _ _).mono ?_; rintro e u ⟨g, n, c, rfl, h⟩; replace A := Lib.hid (A.out.more h.out); clear h
  refine hK.out _ _ (fun _ => HB.out _ A.out.bl) ?_
  (clear hK KK; try simp only [Act.put, List.setIfInBounds_toArray, List.set_cons_zero, List.set_cons_succ])
  (repeat (refine wpSeqE_take (v := ?_) rfl (by rfl) (fun wq hSq => ?_) ?_; rotate_left; (focus ((try dsimp only at hSq); go_simp; try with_reducible rfl)); simp only [Act.put, List.setIfInBounds_toArray, List.set_cons_zero, List.set_cons_succ]))
  (refine wpSeqE_do rfl (by rfl) (fun KK hK => ?_); go_simp)
  refine (g_mark _ _).mono ?_; rintro e u ⟨g, n, c, rfl, h⟩; replace A := Lib.hid (A.out.more h.out); clear h
  refine hK.out _ _ (fun _ => HB.out _ A.out.bl) ?_
  (clear hK KK; try simp only [Act.put, List.setIfInBounds_toArray, List.set_cons_zero, List.set_cons_succ])
  (repeat (refine wpSeqE_take (v := ?_) rfl (by rfl) (fun wq hSq => ?_) ?_; rotate_left; (focus ((try dsimp only at hSq); go_simp; try with_reducible rfl)); simp only [Act.put, List.setIfInBounds_toArray, List.set_cons_zero, List.set_cons_succ]))
  (refine wpSeqE_do rfl (by rfl) (fun KK hK => ?_); go_simp)
  refine (g_goTo hB hR _).mono ?_; rintro e u ⟨g, n, c, rfl, h⟩; replace A := Lib.hid (A.out.more h.out); clear h
  refine hK.out _ _ (fun _ => HB.out _ A.out.bl) ?_
  (clear hK KK; try simp only [Act.put, List.setIfInBounds_toArray, List.set_cons_zero, List.set_cons_succ])
  (repeat (refine wpSeqE_take (v := ?_) rfl (by rfl) (fun wq hSq => ?_) ?_; rotate_left; (focus ((try dsimp only at hSq); go_simp; try with_reducible rfl)); simp only [Act.put, List.setIfInBounds_toArray, List.set_cons_zero, List.set_cons_succ]))
  (refine wpSeqE_do rfl (by rfl) (fun KK hK => ?_); go_simp)
  refine (g_load _ _ _).mono ?_; rintro e u ⟨g, n, c, rfl, h⟩; replace A := Lib.hid (A.out.more h.out); clear h
  refine hK.out _ _ (fun _ => HB.out _ A.out.bl) ?_
  (clear hK KK; try simp only [Act.put, List.setIfInBounds_toArray, List.set_cons_zero, List.set_cons_succ])
  (repeat (refine wpSeqE_take (v := ?_) rfl (by rfl) (fun wq hSq => ?_) ?_; rotate_left; (focus ((try dsimp only at hSq); go_simp; try with_reducible rfl)); simp only [Act.put, List.setIfInBounds_toArray, List.set_cons_zero, List.set_cons_succ]))
  (refine wpSeqE_do rfl (by rfl) (fun KK hK => ?_); go_simp)
  refine (g_spare hB hR _).mono ?_; rintro e u ⟨rfl, h⟩; replace A := Lib.hid (A.out.on h); clear h
  refine hK.out _ _ (fun _ => HB.out _ A.out.bl) ?_
  (clear hK KK; try simp only [Act.put, List.setIfInBounds_toArray, List.set_cons_zero, List.set_cons_succ])
  (repeat (refine wpSeqE_take (v := ?_) rfl (by rfl) (fun wq hSq => ?_) ?_; rotate_left; (focus ((try dsimp only at hSq); go_simp; try with_reducible rfl)); simp only [Act.put, List.setIfInBounds_toArray, List.set_cons_zero, List.set_cons_succ]))
  (refine wpSeqE_do rfl (by rfl) (fun KK hK => ?_); go_simp)
  refine (g_push _ _).mono ?_; rintro e u ⟨g, n, c, rfl, h⟩; replace A := Lib.hid (A.out.more h.out); clear h
  refine hK.out _ _ (fun _ => HB.out _ A.out.bl) ?_
  (clear hK KK; try simp only [Act.put, List.setIfInBounds_toArray, List.set_cons_zero, List.set_cons_succ])
  (repeat (refine wpSeqE_take (v := ?_) rfl (by rfl) (fun wq hSq => ?_) ?_; rotate_left; (focus ((try dsimp only at hSq); go_simp; try with_reducible rfl)); simp only [Act.put, List.setIfInBounds_toArray, List.set_cons_zero, List.set_cons_succ]))
  (refine wpSeqE_do rfl (by rfl) (fun KK hK => ?_); go_simp)
  refine (g_write _).mono ?_; rintro e u ⟨g, n, c, rfl, h⟩; replace A := Lib.hid (A.out.more h.out); clear h
  refine hK.out _ _ (fun _ => HB.out _ A.out.bl) ?_
  (clear hK KK; try simp only [Act.put, List.setIfInBounds_toArray, List.set_cons_zero, List.set_cons_succ])
  (repeat (refine wpSeqE_take (v := ?_) rfl (by rfl) (fun wq hSq => ?_) ?_; rotate_left; (focus ((try dsimp only at hSq); go_simp; try with_reducible rfl)); simp only [Act.put, List.setIfInBounds_toArray, List.set_cons_zero, List.set_cons_succ]))
  (refine wpSeqE_do rfl (by rfl) (fun KK hK => ?_); go_simp)
  refine (g_arg _ _).mono ?_; rintro e u ⟨g, n, c, rfl, h⟩; replace A := Lib.hid (A.out.more h.out); clear h
  refine hK.out _ _ (fun _ => HB.out _ A.out.bl) ?_
  (clear hK KK; try simp only [Act.put, List.setIfInBounds_toArray, List.set_cons_zero, List.set_cons_succ])
  (repeat (refine wpSeqE_take (v := ?_) rfl (by rfl) (fun wq hSq => ?_) ?_; rotate_left; (focus ((try dsimp only at hSq); go_simp; try with_reducible rfl)); simp only [Act.put, List.setIfInBounds_toArray, List.set_cons_zero, List.set_cons_succ]))
  (refine wpSeqE_do rfl (by rfl) (fun KK hK => ?_); go_simp)
  refine hK.out _ _ (fun _ => HB.out _ (A.out.on (bl1 _ _)).bl) ?_
  (clear hK KK; try simp only [Act.put, List.setIfInBounds_toArray, List.set_cons_zero, List.set_cons_succ])
  (repeat (refine wpSeqE_take (v := ?_) rfl (by rfl) (fun wq hSq => ?_) ?_; rotate_left; (focus ((try dsimp only at hSq); go_simp; try with_reducible rfl)); simp only [Act.put, List.setIfInBounds_toArray, List.set_cons_zero, List.set_cons_succ]))
  (refine wpSeqE_do rfl (by rfl) (fun KK hK => ?_); go_simp)
  refine (g_store ((A.out.take 1).parts rfl) rfl (Nat.le_of_ble_eq_true rfl) (Nat.le_of_ble_eq_true rfl) (Nat.le_of_ble_eq_true rfl) _ _).mono ?_; rintro e u ⟨g, n, c, rfl, h⟩; replace A := Lib.hid ((A.out.drop 1).over h.out); clear h
  refine hK.out _ _ (fun _ => HB.out _ A.out.bl) ?_
  (clear hK KK; try simp only [Act.put, List.setIfInBounds_toArray, List.set_cons_zero, List.set_cons_succ])
  (repeat (refine wpSeqE_take (v := ?_) rfl (by rfl) (fun wq hSq => ?_) ?_; rotate_left; (focus ((try dsimp only at hSq); go_simp; try with_reducible rfl)); simp only [Act.put, List.setIfInBounds_toArray, List.set_cons_zero, List.set_cons_succ]))
  (refine wpSeqE_do rfl (by rfl) (fun KK hK => ?_); go_simp)
  refine (g_arg _ _).mono ?_; rintro e u ⟨g, n, c, rfl, h⟩; replace A := Lib.hid (A.out.more h.out); clear h
  refine hK.out _ _ (fun _ => HB.out _ A.out.bl) ?_
  (clear hK KK; try simp only [Act.put, List.setIfInBounds_toArray, List.set_cons_zero, List.set_cons_succ])
  (repeat (refine wpSeqE_take (v := ?_) rfl (by rfl) (fun wq hSq => ?_) ?_; rotate_left; (focus ((try dsimp only at hSq); go_simp; try with_reducible rfl)); simp only [Act.put, List.setIfInBounds_toArray, List.set_cons_zero, List.set_cons_succ]))
  (refine wpSeqE_do rfl (by rfl) (fun KK hK => ?_); go_simp)
  refine hK.out _ _ (fun _ => HB.out _ (A.out.on (bl1 _ _)).bl) ?_
  (clear hK KK; try simp only [Act.put, List.setIfInBounds_toArray, List.set_cons_zero, List.set_cons_succ])
  (repeat (refine wpSeqE_take (v := ?_) rfl (by rfl) (fun wq hSq => ?_) ?_; rotate_left; (focus ((try dsimp only at hSq); go_simp; try with_reducible rfl)); simp only [Act.put, List.setIfInBounds_toArray, List.set_cons_zero, List.set_cons_succ]))
  (refine wpSeqE_do rfl (by rfl) (fun KK hK => ?_); go_simp)
  refine (g_store ((A.out.take 1).parts rfl) rfl (Nat.le_of_ble_eq_true rfl) (Nat.le_of_ble_eq_true rfl) (Nat.le_of_ble_eq_true rfl) _ _).mono ?_; rintro e u ⟨g, n, c, rfl, h⟩; replace A := Lib.hid ((A.out.drop 1).over h.out); clear h
  refine hK.out _ _ (fun _ => HB.out _ A.out.bl) ?_
  (clear hK KK; try simp only [Act.put, List.setIfInBounds_toArray, List.set_cons_zero, List.set_cons_succ])
  (repeat (refine wpSeqE_take (v := ?_) rfl (by rfl) (fun wq hSq => ?_) ?_; rotate_left; (focus ((try dsimp only at hSq); go_simp; try with_reducible rfl)); simp only [Act.put, List.setIfInBounds_toArray, List.set_cons_zero, List.set_cons_succ]))
  (refine wpSeqE_do rfl (by rfl) (fun KK hK => ?_); go_simp)
  refine (g_push _ _).mono ?_; rintro e u ⟨g, n, c, rfl, h⟩; replace A := Lib.hid (A.out.more h.out); clear h
  refine hK.out _ _ (fun _ => HB.out _ A.out.bl) ?_
  (clear hK KK; try simp only [Act.put, List.setIfInBounds_toArray, List.set_cons_zero, List.set_cons_succ])
  (repeat (refine wpSeqE_take (v := ?_) rfl (by rfl) (fun wq hSq => ?_) ?_; rotate_left; (focus ((try dsimp only at hSq); go_simp; try with_reducible rfl)); simp only [Act.put, List.setIfInBounds_toArray, List.set_cons_zero, List.set_cons_succ]))
  (refine wpSeqE_do rfl (by rfl) (fun KK hK => ?_); go_simp)
  refine hK.out _ _ (fun _ => HB.out _ (A.out.on (bl1 _ _)).bl) ?_
  (clear hK KK; try simp only [Act.put, List.setIfInBounds_toArray, List.set_cons_zero, List.set_cons_succ])
  (repeat (refine wpSeqE_take (v := ?_) rfl (by rfl) (fun wq hSq => ?_) ?_; rotate_left; (focus ((try dsimp only at hSq); go_simp; try with_reducible rfl)); simp only [Act.put, List.setIfInBounds_toArray, List.set_cons_zero, List.set_cons_succ]))
  (refine wpSeqE_do rfl (by rfl) (fun KK hK => ?_); go_simp)
  refine (g_store ((A.out.take 1).parts rfl) rfl (Nat.le_of_ble_eq_true rfl) (Nat.le_of_ble_eq_true rfl) (Nat.le_of_ble_eq_true rfl) _ _).mono ?_; rintro e u ⟨g, n, c, rfl, h⟩; replace A := Lib.hid ((A.out.drop 1).over h.out); clear h
  refine hK.out _ _ (fun _ => HB.out _ A.out.bl) ?_
  (clear hK KK; try simp only [Act.put, List.setIfInBounds_toArray, List.set_cons_zero, List.set_cons_succ])
  (repeat (refine wpSeqE_take (v := ?_) rfl (by rfl) (fun wq hSq => ?_) ?_; rotate_left; (focus ((try dsimp only at hSq); go_simp; try with_reducible rfl)); simp only [Act.put, List.setIfInBounds_toArray, List.set_cons_zero, List.set_cons_succ]))
  (refine wpSeqE_do rfl (by rfl) (fun KK hK => ?_); go_simp)
  refine (g_get _ _).mono ?_; rintro e u ⟨g, n, c, rfl, h⟩; replace A := Lib.hid (A.out.more h.out); clear h
  refine hK.out _ _ (fun _ => HB.out _ A.out.bl) ?_
  (clear hK KK; try simp only [Act.put, List.setIfInBounds_toArray, List.set_cons_zero, List.set_cons_succ])
  (repeat (refine wpSeqE_take (v := ?_) rfl (by rfl) (fun wq hSq => ?_) ?_; rotate_left; (focus ((try dsimp only at hSq); go_simp; try with_reducible rfl)); simp only [Act.put, List.setIfInBounds_toArray, List.set_cons_zero, List.set_cons_succ]))
  (refine wpSeqE_do rfl (by rfl) (fun KK hK => ?_); go_simp)
  refine hK.out _ _ (fun _ => HB.out _ (A.out.on (bl1 _ _)).bl) ?_
  (clear hK KK; try simp only [Act.put, List.setIfInBounds_toArray, List.set_cons_zero, List.set_cons_succ])
  (repeat (refine wpSeqE_take (v := ?_) rfl (by rfl) (fun wq hSq => ?_) ?_; rotate_left; (focus ((try dsimp only at hSq); go_simp; try with_reducible rfl)); simp only [Act.put, List.setIfInBounds_toArray, List.set_cons_zero, List.set_cons_succ]))
  (refine wpSeqE_do rfl (by rfl) (fun KK hK => ?_); go_simp)
  refine (g_relink hB hR ((A.out.take 1).parts rfl) rfl (Nat.le_of_ble_eq_true rfl) (Nat.le_of_ble_eq_true rfl) (Nat.le_of_ble_eq_true rfl)).mono ?_; rintro e u ⟨g, n, c, rfl, h⟩; replace A := Lib.hid ((A.out.drop 1).over h.out); clear h
  refine hK.out _ _ (fun _ => HB.out _ A.out.bl) ?_
  (clear hK KK; try simp only [Act.put, List.setIfInBounds_toArray, List.set_cons_zero, List.set_cons_succ])
  (repeat (refine wpSeqE_take (v := ?_) rfl (by rfl) (fun wq hSq => ?_) ?_; rotate_left; (focus ((try dsimp only at hSq); go_simp; try with_reducible rfl)); simp only [Act.put, List.setIfInBounds_toArray, List.set_cons_zero, List.set_cons_succ]))
  (refine wpSeqE_do rfl (by rfl) (fun KK hK => ?_); go_simp)
  refine (g_grow hB hR _ _).mono ?_; rintro e u ⟨g, n, c, rfl, h⟩; replace A := Lib.hid (A.out.more h.out); clear h
  refine hK.out _ _ (fun _ => HB.out _ A.out.bl) ?_
  (clear hK KK; try simp only [Act.put, List.setIfInBounds_toArray, List.set_cons_zero, List.set_cons_succ])
  (repeat (refine wpSeqE_take (v := ?_) rfl (by rfl) (fun wq hSq => ?_) ?_; rotate_left; (focus ((try dsimp only at hSq); go_simp; try with_reducible rfl)); simp only [Act.put, List.setIfInBounds_toArray, List.set_cons_zero, List.set_cons_succ]))
  (refine wpSeqE_do rfl (by rfl) (fun KK hK => ?_); go_simp)
  refine (g_tell _ _).mono ?_; rintro e u ⟨g, n, c, rfl, h⟩; replace A := Lib.hid (A.out.more h.out); clear h
  refine hK.out _ _ (fun _ => HB.out _ A.out.bl) ?_
  (clear hK KK; try simp only [Act.put, List.setIfInBounds_toArray, List.set_cons_zero, List.set_cons_succ])
  (repeat (refine wpSeqE_take (v := ?_) rfl (by rfl) (fun wq hSq => ?_) ?_; rotate_left; (focus ((try dsimp only at hSq); go_simp; try with_reducible rfl)); simp only [Act.put, List.setIfInBounds_toArray, List.set_cons_zero, List.set_cons_succ]))
  (refine wpSeqE_do rfl (by rfl) (fun KK hK => ?_); go_simp)
  refine hK.out _ _ (fun _ => HB.out _ (A.out.on (bl1 _ _)).bl) ?_
  (clear hK KK; try simp only [Act.put, List.setIfInBounds_toArray, List.set_cons_zero, List.set_cons_succ])
  (repeat (refine wpSeqE_take (v := ?_) rfl (by rfl) (fun wq hSq => ?_) ?_; rotate_left; (focus ((try dsimp only at hSq); go_simp; try with_reducible rfl)); simp only [Act.put, List.setIfInBounds_toArray, List.set_cons_zero, List.set_cons_succ]))
  (refine wpSeqE_do rfl (by rfl) (fun KK hK => ?_); go_simp)
  refine (g_program 2 (A.out.parts rfl) rfl (Nat.le_of_ble_eq_true rfl) (Nat.le_of_ble_eq_true rfl) (Nat.le_of_ble_eq_true rfl) (put_wf B R) (HT.out.on ((pgW_bl w B R).trans (((A.out.on (bl1 _ _)).bl).mono (by rw [pgW_size]; omega)))) (put_ans B R)).mono ?_; rintro e u ⟨p, n, c, rfl, hZ⟩; have HBL := Lib.hid (A.out.bl.trans (((bl1 _ _).trans (hZ.out.2.2.mono (by simp))).mono A.out.bl.size)); obtain ⟨⟨x0, x1⟩, y0, y1, y2, y3, y4⟩ := pg_cells w B R _ HBL.out
  refine hK.out _ _ (fun _ => ⟨x0, x1⟩) ?_
  (clear hK KK; try simp only [Act.put, List.setIfInBounds_toArray, List.set_cons_zero, List.set_cons_succ])
  (repeat (refine wpSeqE_take (v := ?_) rfl (by rfl) (fun wq hSq => ?_) ?_; rotate_left; (focus ((try dsimp only at hSq); go_simp; try with_reducible rfl)); simp only [Act.put, List.setIfInBounds_toArray, List.set_cons_zero, List.set_cons_succ]))
  (refine wpSeqE_do rfl (by rfl) (fun KK hK => ?_); go_simp)
  refine hK.out _ _ (fun hn => absurd rfl hn) ?_
  (clear hK KK; try simp only [Act.put])
  refine wpSeqE_nil ?_
  go_wp2_with fail
  obtain ⟨f1, f2, f3⟩ := hZ.out
  change RowW 63 3 u p c n (codC ((bsOf 2 (putO B R).flatten).filled.map fixI)) at f2
  change n = (bsOf 2 (putO B R).flatten).code.length at f1
  rw [put_code] at f2
  obtain ⟨z1, z2, z3⟩ := pg_end (t := 2) HBL.out f2
  exact pg_back rfl (w.heap.size + 1) 2 p n c rfl z1 rfl ⟨p, n, c, rfl, f1.trans (bs_len (put_code B R)), z2, z3⟩
set_option maxHeartbeats 2000000 in
set_option maxRecDepth 100000 in
theorem g_pdel (hB : 0 ≤ B ∧ B ≤ 256) (hR : 0 ≤ R ∧ R ≤ 16) (hT : Shaped5 w) : Calls Tryd.prog 8 #[.agg #[.int .i64 B, .int .i64 R]] w fun e w' => PgC w 2 (delC B R) e w' := by
  have HB : Hid (∀ u, Below (pgW w B R).heap.size (pgW w B R) u → u.cell? ⟨w.heap.size, 0, none⟩ = some (.int .i64 B) ∧ u.cell? ⟨w.heap.size, 1, none⟩ = some (.int .i64 R)) := fun u k => (pg_cells w B R u k).1
  have A : Hid (Acc (pgW w B R) ((pgW w B R).drew) []) := acc_nil ((Same.drew _).below _)
  have HT : Hid (Shaped5 w) := hT
  clear hT
  go_enter Tryd.func8, Tryd.ntmps8
  go_wp2_with fail
  refine wp_region_seqE (fun u => u.cell? ⟨w.heap.size, 0, none⟩ = some (.int .i64 B) ∧ u.cell? ⟨w.heap.size, 1, none⟩ = some (.int .i64 R)) ((0, true) :: (5, true) :: (8, true) :: (15, true) :: (19, true) :: (20, true) :: (35, true) :: (36, true) :: (38, true) :: (45, true) :: (46, true) :: (52, true) :: (56, true) :: (1, false) :: (2, false) :: (3, false) :: (4, false) :: (6, false) :: (7, false) :: (9, false) :: (10, false) :: (11, false) :: (12, false) :: (13, false) :: (14, false) :: (16, false) :: (17, false) :: (18, false) :: (21, false) :: (22, false) :: (23, false) :: (24, false) :: (25, false) :: (26, false) :: (27, false) :: (28, false) :: (29, false) :: (30, false) :: (31, false) :: (32, false) :: (33, false) :: (34, false) :: (37, false) :: (39, false) :: (40, false) :: (41, false) :: (42, false) :: (43, false) :: (44, false) :: (47, false) :: (48, false) :: (49, false) :: (50, false) :: (51, false) :: (53, false) :: (54, false) :: (55, false) :: (57, false) :: (58, false) :: (59, false) :: (60, false) :: (61, false) :: []) follows (by kernel_rfl) (fun _ _ _ _ _ h => h) (HB.out _ ((Same.drew _).below _)) ?_
  (repeat (refine wpSeqE_take (v := ?_) rfl (by rfl) (fun wq hSq => ?_) ?_; rotate_left; (focus ((try dsimp only at hSq); go_simp; try with_reducible rfl)); simp only [Act.put, List.setIfInBounds_toArray, List.set_cons_zero, List.set_cons_succ]))
  (refine wpSeqE_do rfl (by rfl) (fun KK hK => ?_); go_simp)
  refine (g_search hB hR _).mono ?_; rintro e u ⟨g, n, c, rfl, h⟩; replace A := Lib.hid (A.out.more h.out); clear h
  refine hK.out _ _ (fun _ => HB.out _ A.out.bl) ?_
  (clear hK KK; try simp only [Act.put, List.setIfInBounds_toArray, List.set_cons_zero, List.set_cons_succ])
  (repeat (refine wpSeqE_take (v := ?_) rfl (by rfl) (fun wq hSq => ?_) ?_; rotate_left; (focus ((try dsimp only at hSq); go_simp; try with_reducible rfl)); simp only [Act.put, List.setIfInBounds_toArray, List.set_cons_zero, List.set_cons_succ]))
  (refine wpSeqE_do rfl (by rfl) (fun KK hK => ?_); go_simp)
  refine (g_mark _ _).mono ?_; rintro e u ⟨g, n, c, rfl, h⟩; replace A := Lib.hid (A.out.more h.out); clear h
  refine hK.out _ _ (fun _ => HB.out _ A.out.bl) ?_
  (clear hK KK; try simp only [Act.put, List.setIfInBounds_toArray, List.set_cons_zero, List.set_cons_succ])
  (repeat (refine wpSeqE_take (v := ?_) rfl (by rfl) (fun wq hSq => ?_) ?_; rotate_left; (focus ((try dsimp only at hSq); go_simp; try with_reducible rfl)); simp only [Act.put, List.setIfInBounds_toArray, List.set_cons_zero, List.set_cons_succ]))
  (refine wpSeqE_do rfl (by rfl) (fun KK hK => ?_); go_simp)
  refine (g_tell _ _).mono ?_; rintro e u ⟨g, n, c, rfl, h⟩; replace A := Lib.hid (A.out.more h.out); clear h
  refine hK.out _ _ (fun _ => HB.out _ A.out.bl) ?_
  (clear hK KK; try simp only [Act.put, List.setIfInBounds_toArray, List.set_cons_zero, List.set_cons_succ])
  (repeat (refine wpSeqE_take (v := ?_) rfl (by rfl) (fun wq hSq => ?_) ?_; rotate_left; (focus ((try dsimp only at hSq); go_simp; try with_reducible rfl)); simp only [Act.put, List.setIfInBounds_toArray, List.set_cons_zero, List.set_cons_succ]))
  (refine wpSeqE_do rfl (by rfl) (fun KK hK => ?_); go_simp)
  refine (g_mark _ _).mono ?_; rintro e u ⟨g, n, c, rfl, h⟩; replace A := Lib.hid (A.out.more h.out); clear h
  refine hK.out _ _ (fun _ => HB.out _ A.out.bl) ?_
  (clear hK KK; try simp only [Act.put, List.setIfInBounds_toArray, List.set_cons_zero, List.set_cons_succ])
  (repeat (refine wpSeqE_take (v := ?_) rfl (by rfl) (fun wq hSq => ?_) ?_; rotate_left; (focus ((try dsimp only at hSq); go_simp; try with_reducible rfl)); simp only [Act.put, List.setIfInBounds_toArray, List.set_cons_zero, List.set_cons_succ]))
  (refine wpSeqE_do rfl (by rfl) (fun KK hK => ?_); go_simp)
  refine (g_ahead hB hR _).mono ?_; rintro e u ⟨g, n, c, rfl, h⟩; replace A := Lib.hid (A.out.more h.out); clear h
  refine hK.out _ _ (fun _ => HB.out _ A.out.bl) ?_
  (clear hK KK; try simp only [Act.put, List.setIfInBounds_toArray, List.set_cons_zero, List.set_cons_succ])
  (repeat (refine wpSeqE_take (v := ?_) rfl (by rfl) (fun wq hSq => ?_) ?_; rotate_left; (focus ((try dsimp only at hSq); go_simp; try with_reducible rfl)); simp only [Act.put, List.setIfInBounds_toArray, List.set_cons_zero, List.set_cons_succ]))
  (refine wpSeqE_do rfl (by rfl) (fun KK hK => ?_); go_simp)
  refine (g_to _ _ _).mono ?_; rintro e u ⟨g, n, c, rfl, h⟩; replace A := Lib.hid (A.out.more h.out); clear h
  refine hK.out _ _ (fun _ => HB.out _ A.out.bl) ?_
  (clear hK KK; try simp only [Act.put, List.setIfInBounds_toArray, List.set_cons_zero, List.set_cons_succ])
  (repeat (refine wpSeqE_take (v := ?_) rfl (by rfl) (fun wq hSq => ?_) ?_; rotate_left; (focus ((try dsimp only at hSq); go_simp; try with_reducible rfl)); simp only [Act.put, List.setIfInBounds_toArray, List.set_cons_zero, List.set_cons_succ]))
  (refine wpSeqE_do rfl (by rfl) (fun KK hK => ?_); go_simp)
  refine (g_behind hB hR _).mono ?_; rintro e u ⟨g, n, c, rfl, h⟩; replace A := Lib.hid (A.out.more h.out); clear h
  refine hK.out _ _ (fun _ => HB.out _ A.out.bl) ?_
  (clear hK KK; try simp only [Act.put, List.setIfInBounds_toArray, List.set_cons_zero, List.set_cons_succ])
  (repeat (refine wpSeqE_take (v := ?_) rfl (by rfl) (fun wq hSq => ?_) ?_; rotate_left; (focus ((try dsimp only at hSq); go_simp; try with_reducible rfl)); simp only [Act.put, List.setIfInBounds_toArray, List.set_cons_zero, List.set_cons_succ]))
  (refine wpSeqE_do rfl (by rfl) (fun KK hK => ?_); go_simp)
  refine (g_to _ _ _).mono ?_; rintro e u ⟨g, n, c, rfl, h⟩; replace A := Lib.hid (A.out.more h.out); clear h
  refine hK.out _ _ (fun _ => HB.out _ A.out.bl) ?_
  (clear hK KK; try simp only [Act.put, List.setIfInBounds_toArray, List.set_cons_zero, List.set_cons_succ])
  (repeat (refine wpSeqE_take (v := ?_) rfl (by rfl) (fun wq hSq => ?_) ?_; rotate_left; (focus ((try dsimp only at hSq); go_simp; try with_reducible rfl)); simp only [Act.put, List.setIfInBounds_toArray, List.set_cons_zero, List.set_cons_succ]))
  (refine wpSeqE_do rfl (by rfl) (fun KK hK => ?_); go_simp)
  refine (g_get _ _).mono ?_; rintro e u ⟨g, n, c, rfl, h⟩; replace A := Lib.hid (A.out.more h.out); clear h
  refine hK.out _ _ (fun _ => HB.out _ A.out.bl) ?_
  (clear hK KK; try simp only [Act.put, List.setIfInBounds_toArray, List.set_cons_zero, List.set_cons_succ])
  (repeat (refine wpSeqE_take (v := ?_) rfl (by rfl) (fun wq hSq => ?_) ?_; rotate_left; (focus ((try dsimp only at hSq); go_simp; try with_reducible rfl)); simp only [Act.put, List.setIfInBounds_toArray, List.set_cons_zero, List.set_cons_succ]))
  (refine wpSeqE_do rfl (by rfl) (fun KK hK => ?_); go_simp)
  refine (g_set _ _).mono ?_; rintro e u ⟨g, n, c, rfl, h⟩; replace A := Lib.hid (A.out.more h.out); clear h
  refine hK.out _ _ (fun _ => HB.out _ A.out.bl) ?_
  (clear hK KK; try simp only [Act.put, List.setIfInBounds_toArray, List.set_cons_zero, List.set_cons_succ])
  (repeat (refine wpSeqE_take (v := ?_) rfl (by rfl) (fun wq hSq => ?_) ?_; rotate_left; (focus ((try dsimp only at hSq); go_simp; try with_reducible rfl)); simp only [Act.put, List.setIfInBounds_toArray, List.set_cons_zero, List.set_cons_succ]))
  (refine wpSeqE_do rfl (by rfl) (fun KK hK => ?_); go_simp)
  refine (g_cell _ _ _).mono ?_; rintro e u ⟨g, n, c, rfl, h⟩; replace A := Lib.hid (A.out.more h.out); clear h
  refine hK.out _ _ (fun _ => HB.out _ A.out.bl) ?_
  (clear hK KK; try simp only [Act.put, List.setIfInBounds_toArray, List.set_cons_zero, List.set_cons_succ])
  (repeat (refine wpSeqE_take (v := ?_) rfl (by rfl) (fun wq hSq => ?_) ?_; rotate_left; (focus ((try dsimp only at hSq); go_simp; try with_reducible rfl)); simp only [Act.put, List.setIfInBounds_toArray, List.set_cons_zero, List.set_cons_succ]))
  (refine wpSeqE_do rfl (by rfl) (fun KK hK => ?_); go_simp)
  refine (g_set _ _).mono ?_; rintro e u ⟨g, n, c, rfl, h⟩; replace A := Lib.hid (A.out.more h.out); clear h
  refine hK.out _ _ (fun _ => HB.out _ A.out.bl) ?_
  (clear hK KK; try simp only [Act.put, List.setIfInBounds_toArray, List.set_cons_zero, List.set_cons_succ])
  (repeat (refine wpSeqE_take (v := ?_) rfl (by rfl) (fun wq hSq => ?_) ?_; rotate_left; (focus ((try dsimp only at hSq); go_simp; try with_reducible rfl)); simp only [Act.put, List.setIfInBounds_toArray, List.set_cons_zero, List.set_cons_succ]))
  (refine wpSeqE_do rfl (by rfl) (fun KK hK => ?_); go_simp)
  refine (g_wide hB hR _).mono ?_; rintro e u ⟨rfl, h⟩; replace A := Lib.hid (A.out.on h); clear h
  refine hK.out _ _ (fun _ => HB.out _ A.out.bl) ?_
  (clear hK KK; try simp only [Act.put, List.setIfInBounds_toArray, List.set_cons_zero, List.set_cons_succ])
  (repeat (refine wpSeqE_take (v := ?_) rfl (by rfl) (fun wq hSq => ?_) ?_; rotate_left; (focus ((try dsimp only at hSq); go_simp; try with_reducible rfl)); simp only [Act.put, List.setIfInBounds_toArray, List.set_cons_zero, List.set_cons_succ]))
  (refine wpSeqE_do rfl (by rfl) (fun KK hK => ?_); go_simp)
  refine (g_push _ _).mono ?_; rintro e u ⟨g, n, c, rfl, h⟩; replace A := Lib.hid (A.out.more h.out); clear h
  refine hK.out _ _ (fun _ => HB.out _ A.out.bl) ?_
  (clear hK KK; try simp only [Act.put, List.setIfInBounds_toArray, List.set_cons_zero, List.set_cons_succ])
  (repeat (refine wpSeqE_take (v := ?_) rfl (by rfl) (fun wq hSq => ?_) ?_; rotate_left; (focus ((try dsimp only at hSq); go_simp; try with_reducible rfl)); simp only [Act.put, List.setIfInBounds_toArray, List.set_cons_zero, List.set_cons_succ]))
  (refine wpSeqE_do rfl (by rfl) (fun KK hK => ?_); go_simp)
  refine (g_set _ _).mono ?_; rintro e u ⟨g, n, c, rfl, h⟩; replace A := Lib.hid (A.out.more h.out); clear h
  refine hK.out _ _ (fun _ => HB.out _ A.out.bl) ?_
  (clear hK KK; try simp only [Act.put, List.setIfInBounds_toArray, List.set_cons_zero, List.set_cons_succ])
  (repeat (refine wpSeqE_take (v := ?_) rfl (by rfl) (fun wq hSq => ?_) ?_; rotate_left; (focus ((try dsimp only at hSq); go_simp; try with_reducible rfl)); simp only [Act.put, List.setIfInBounds_toArray, List.set_cons_zero, List.set_cons_succ]))
  (refine wpSeqE_do rfl (by rfl) (fun KK hK => ?_); go_simp)
  refine (g_ahead hB hR _).mono ?_; rintro e u ⟨g, n, c, rfl, h⟩; replace A := Lib.hid (A.out.more h.out); clear h
  refine hK.out _ _ (fun _ => HB.out _ A.out.bl) ?_
  (clear hK KK; try simp only [Act.put, List.setIfInBounds_toArray, List.set_cons_zero, List.set_cons_succ])
  (repeat (refine wpSeqE_take (v := ?_) rfl (by rfl) (fun wq hSq => ?_) ?_; rotate_left; (focus ((try dsimp only at hSq); go_simp; try with_reducible rfl)); simp only [Act.put, List.setIfInBounds_toArray, List.set_cons_zero, List.set_cons_succ]))
  (refine wpSeqE_do rfl (by rfl) (fun KK hK => ?_); go_simp)
  refine (g_to _ _ _).mono ?_; rintro e u ⟨g, n, c, rfl, h⟩; replace A := Lib.hid (A.out.more h.out); clear h
  refine hK.out _ _ (fun _ => HB.out _ A.out.bl) ?_
  (clear hK KK; try simp only [Act.put, List.setIfInBounds_toArray, List.set_cons_zero, List.set_cons_succ])
  (repeat (refine wpSeqE_take (v := ?_) rfl (by rfl) (fun wq hSq => ?_) ?_; rotate_left; (focus ((try dsimp only at hSq); go_simp; try with_reducible rfl)); simp only [Act.put, List.setIfInBounds_toArray, List.set_cons_zero, List.set_cons_succ]))
  (refine wpSeqE_do rfl (by rfl) (fun KK hK => ?_); go_simp)
  refine (g_push _ _).mono ?_; rintro e u ⟨g, n, c, rfl, h⟩; replace A := Lib.hid (A.out.more h.out); clear h
  refine hK.out _ _ (fun _ => HB.out _ A.out.bl) ?_
  (clear hK KK; try simp only [Act.put, List.setIfInBounds_toArray, List.set_cons_zero, List.set_cons_succ])
  (repeat (refine wpSeqE_take (v := ?_) rfl (by rfl) (fun wq hSq => ?_) ?_; rotate_left; (focus ((try dsimp only at hSq); go_simp; try with_reducible rfl)); simp only [Act.put, List.setIfInBounds_toArray, List.set_cons_zero, List.set_cons_succ]))
  (refine wpSeqE_do rfl (by rfl) (fun KK hK => ?_); go_simp)
  refine (g_set _ _).mono ?_; rintro e u ⟨g, n, c, rfl, h⟩; replace A := Lib.hid (A.out.more h.out); clear h
  refine hK.out _ _ (fun _ => HB.out _ A.out.bl) ?_
  (clear hK KK; try simp only [Act.put, List.setIfInBounds_toArray, List.set_cons_zero, List.set_cons_succ])
  (repeat (refine wpSeqE_take (v := ?_) rfl (by rfl) (fun wq hSq => ?_) ?_; rotate_left; (focus ((try dsimp only at hSq); go_simp; try with_reducible rfl)); simp only [Act.put, List.setIfInBounds_toArray, List.set_cons_zero, List.set_cons_succ]))
  (refine wpSeqE_do rfl (by rfl) (fun KK hK => ?_); go_simp)
  refine hK.out _ _ (fun _ => HB.out _ (A.out.on (bl1 _ _)).bl) ?_
  (clear hK KK; try simp only [Act.put, List.setIfInBounds_toArray, List.set_cons_zero, List.set_cons_succ])
  (repeat (refine wpSeqE_take (v := ?_) rfl (by rfl) (fun wq hSq => ?_) ?_; rotate_left; (focus ((try dsimp only at hSq); go_simp; try with_reducible rfl)); simp only [Act.put, List.setIfInBounds_toArray, List.set_cons_zero, List.set_cons_succ]))
  (refine wpSeqE_do rfl (by rfl) (fun KK hK => ?_); go_simp)
  refine (g_walk hB hR ((A.out.take 4).parts rfl) rfl (Nat.le_of_ble_eq_true rfl) (Nat.le_of_ble_eq_true rfl) (Nat.le_of_ble_eq_true rfl) _ _).mono ?_; rintro e u ⟨g, n, c, rfl, h⟩; replace A := Lib.hid ((A.out.drop 4).over h.out); clear h
  refine hK.out _ _ (fun _ => HB.out _ A.out.bl) ?_
  (clear hK KK; try simp only [Act.put, List.setIfInBounds_toArray, List.set_cons_zero, List.set_cons_succ])
  (repeat (refine wpSeqE_take (v := ?_) rfl (by rfl) (fun wq hSq => ?_) ?_; rotate_left; (focus ((try dsimp only at hSq); go_simp; try with_reducible rfl)); simp only [Act.put, List.setIfInBounds_toArray, List.set_cons_zero, List.set_cons_succ]))
  (refine wpSeqE_do rfl (by rfl) (fun KK hK => ?_); go_simp)
  refine (g_mark _ _).mono ?_; rintro e u ⟨g, n, c, rfl, h⟩; replace A := Lib.hid (A.out.more h.out); clear h
  refine hK.out _ _ (fun _ => HB.out _ A.out.bl) ?_
  (clear hK KK; try simp only [Act.put, List.setIfInBounds_toArray, List.set_cons_zero, List.set_cons_succ])
  (repeat (refine wpSeqE_take (v := ?_) rfl (by rfl) (fun wq hSq => ?_) ?_; rotate_left; (focus ((try dsimp only at hSq); go_simp; try with_reducible rfl)); simp only [Act.put, List.setIfInBounds_toArray, List.set_cons_zero, List.set_cons_succ]))
  (refine wpSeqE_do rfl (by rfl) (fun KK hK => ?_); go_simp)
  refine (g_load _ _ _).mono ?_; rintro e u ⟨g, n, c, rfl, h⟩; replace A := Lib.hid (A.out.more h.out); clear h
  refine hK.out _ _ (fun _ => HB.out _ A.out.bl) ?_
  (clear hK KK; try simp only [Act.put, List.setIfInBounds_toArray, List.set_cons_zero, List.set_cons_succ])
  (repeat (refine wpSeqE_take (v := ?_) rfl (by rfl) (fun wq hSq => ?_) ?_; rotate_left; (focus ((try dsimp only at hSq); go_simp; try with_reducible rfl)); simp only [Act.put, List.setIfInBounds_toArray, List.set_cons_zero, List.set_cons_succ]))
  (refine wpSeqE_do rfl (by rfl) (fun KK hK => ?_); go_simp)
  refine hK.out _ _ (fun _ => HB.out _ (A.out.on (bl1 _ _)).bl) ?_
  (clear hK KK; try simp only [Act.put, List.setIfInBounds_toArray, List.set_cons_zero, List.set_cons_succ])
  (repeat (refine wpSeqE_take (v := ?_) rfl (by rfl) (fun wq hSq => ?_) ?_; rotate_left; (focus ((try dsimp only at hSq); go_simp; try with_reducible rfl)); simp only [Act.put, List.setIfInBounds_toArray, List.set_cons_zero, List.set_cons_succ]))
  (refine wpSeqE_do rfl (by rfl) (fun KK hK => ?_); go_simp)
  refine (g_store ((A.out.take 1).parts rfl) rfl (Nat.le_of_ble_eq_true rfl) (Nat.le_of_ble_eq_true rfl) (Nat.le_of_ble_eq_true rfl) _ _).mono ?_; rintro e u ⟨g, n, c, rfl, h⟩; replace A := Lib.hid ((A.out.drop 1).over h.out); clear h
  refine hK.out _ _ (fun _ => HB.out _ A.out.bl) ?_
  (clear hK KK; try simp only [Act.put, List.setIfInBounds_toArray, List.set_cons_zero, List.set_cons_succ])
  (repeat (refine wpSeqE_take (v := ?_) rfl (by rfl) (fun wq hSq => ?_) ?_; rotate_left; (focus ((try dsimp only at hSq); go_simp; try with_reducible rfl)); simp only [Act.put, List.setIfInBounds_toArray, List.set_cons_zero, List.set_cons_succ]))
  (refine wpSeqE_do rfl (by rfl) (fun KK hK => ?_); go_simp)
  refine (g_load _ _ _).mono ?_; rintro e u ⟨g, n, c, rfl, h⟩; replace A := Lib.hid (A.out.more h.out); clear h
  refine hK.out _ _ (fun _ => HB.out _ A.out.bl) ?_
  (clear hK KK; try simp only [Act.put, List.setIfInBounds_toArray, List.set_cons_zero, List.set_cons_succ])
  (repeat (refine wpSeqE_take (v := ?_) rfl (by rfl) (fun wq hSq => ?_) ?_; rotate_left; (focus ((try dsimp only at hSq); go_simp; try with_reducible rfl)); simp only [Act.put, List.setIfInBounds_toArray, List.set_cons_zero, List.set_cons_succ]))
  (refine wpSeqE_do rfl (by rfl) (fun KK hK => ?_); go_simp)
  refine hK.out _ _ (fun _ => HB.out _ (A.out.on (bl1 _ _)).bl) ?_
  (clear hK KK; try simp only [Act.put, List.setIfInBounds_toArray, List.set_cons_zero, List.set_cons_succ])
  (repeat (refine wpSeqE_take (v := ?_) rfl (by rfl) (fun wq hSq => ?_) ?_; rotate_left; (focus ((try dsimp only at hSq); go_simp; try with_reducible rfl)); simp only [Act.put, List.setIfInBounds_toArray, List.set_cons_zero, List.set_cons_succ]))
  (refine wpSeqE_do rfl (by rfl) (fun KK hK => ?_); go_simp)
  refine (g_store ((A.out.take 1).parts rfl) rfl (Nat.le_of_ble_eq_true rfl) (Nat.le_of_ble_eq_true rfl) (Nat.le_of_ble_eq_true rfl) _ _).mono ?_; rintro e u ⟨g, n, c, rfl, h⟩; replace A := Lib.hid ((A.out.drop 1).over h.out); clear h
  refine hK.out _ _ (fun _ => HB.out _ A.out.bl) ?_
  (clear hK KK; try simp only [Act.put, List.setIfInBounds_toArray, List.set_cons_zero, List.set_cons_succ])
  (repeat (refine wpSeqE_take (v := ?_) rfl (by rfl) (fun wq hSq => ?_) ?_; rotate_left; (focus ((try dsimp only at hSq); go_simp; try with_reducible rfl)); simp only [Act.put, List.setIfInBounds_toArray, List.set_cons_zero, List.set_cons_succ]))
  (refine wpSeqE_do rfl (by rfl) (fun KK hK => ?_); go_simp)
  refine (g_mark _ _).mono ?_; rintro e u ⟨g, n, c, rfl, h⟩; replace A := Lib.hid (A.out.more h.out); clear h
  refine hK.out _ _ (fun _ => HB.out _ A.out.bl) ?_
  (clear hK KK; try simp only [Act.put, List.setIfInBounds_toArray, List.set_cons_zero, List.set_cons_succ])
  (repeat (refine wpSeqE_take (v := ?_) rfl (by rfl) (fun wq hSq => ?_) ?_; rotate_left; (focus ((try dsimp only at hSq); go_simp; try with_reducible rfl)); simp only [Act.put, List.setIfInBounds_toArray, List.set_cons_zero, List.set_cons_succ]))
  (refine wpSeqE_do rfl (by rfl) (fun KK hK => ?_); go_simp)
  refine (g_ahead hB hR _).mono ?_; rintro e u ⟨g, n, c, rfl, h⟩; replace A := Lib.hid (A.out.more h.out); clear h
  refine hK.out _ _ (fun _ => HB.out _ A.out.bl) ?_
  (clear hK KK; try simp only [Act.put, List.setIfInBounds_toArray, List.set_cons_zero, List.set_cons_succ])
  (repeat (refine wpSeqE_take (v := ?_) rfl (by rfl) (fun wq hSq => ?_) ?_; rotate_left; (focus ((try dsimp only at hSq); go_simp; try with_reducible rfl)); simp only [Act.put, List.setIfInBounds_toArray, List.set_cons_zero, List.set_cons_succ]))
  (refine wpSeqE_do rfl (by rfl) (fun KK hK => ?_); go_simp)
  refine (g_behind hB hR _).mono ?_; rintro e u ⟨g, n, c, rfl, h⟩; replace A := Lib.hid (A.out.more h.out); clear h
  refine hK.out _ _ (fun _ => HB.out _ A.out.bl) ?_
  (clear hK KK; try simp only [Act.put, List.setIfInBounds_toArray, List.set_cons_zero, List.set_cons_succ])
  (repeat (refine wpSeqE_take (v := ?_) rfl (by rfl) (fun wq hSq => ?_) ?_; rotate_left; (focus ((try dsimp only at hSq); go_simp; try with_reducible rfl)); simp only [Act.put, List.setIfInBounds_toArray, List.set_cons_zero, List.set_cons_succ]))
  (refine wpSeqE_do rfl (by rfl) (fun KK hK => ?_); go_simp)
  refine (g_two _ _).mono ?_; rintro e u ⟨g, n, c, rfl, h⟩; replace A := Lib.hid (A.out.more h.out); clear h
  refine hK.out _ _ (fun _ => HB.out _ A.out.bl) ?_
  (clear hK KK; try simp only [Act.put, List.setIfInBounds_toArray, List.set_cons_zero, List.set_cons_succ])
  (repeat (refine wpSeqE_take (v := ?_) rfl (by rfl) (fun wq hSq => ?_) ?_; rotate_left; (focus ((try dsimp only at hSq); go_simp; try with_reducible rfl)); simp only [Act.put, List.setIfInBounds_toArray, List.set_cons_zero, List.set_cons_succ]))
  (refine wpSeqE_do rfl (by rfl) (fun KK hK => ?_); go_simp)
  refine (g_get _ _).mono ?_; rintro e u ⟨g, n, c, rfl, h⟩; replace A := Lib.hid (A.out.more h.out); clear h
  refine hK.out _ _ (fun _ => HB.out _ A.out.bl) ?_
  (clear hK KK; try simp only [Act.put, List.setIfInBounds_toArray, List.set_cons_zero, List.set_cons_succ])
  (repeat (refine wpSeqE_take (v := ?_) rfl (by rfl) (fun wq hSq => ?_) ?_; rotate_left; (focus ((try dsimp only at hSq); go_simp; try with_reducible rfl)); simp only [Act.put, List.setIfInBounds_toArray, List.set_cons_zero, List.set_cons_succ]))
  (refine wpSeqE_do rfl (by rfl) (fun KK hK => ?_); go_simp)
  refine (g_two _ _).mono ?_; rintro e u ⟨g, n, c, rfl, h⟩; replace A := Lib.hid (A.out.more h.out); clear h
  refine hK.out _ _ (fun _ => HB.out _ A.out.bl) ?_
  (clear hK KK; try simp only [Act.put, List.setIfInBounds_toArray, List.set_cons_zero, List.set_cons_succ])
  (repeat (refine wpSeqE_take (v := ?_) rfl (by rfl) (fun wq hSq => ?_) ?_; rotate_left; (focus ((try dsimp only at hSq); go_simp; try with_reducible rfl)); simp only [Act.put, List.setIfInBounds_toArray, List.set_cons_zero, List.set_cons_succ]))
  (refine wpSeqE_do rfl (by rfl) (fun KK hK => ?_); go_simp)
  refine hK.out _ _ (fun _ => HB.out _ (A.out.on (bl1 _ _)).bl) ?_
  (clear hK KK; try simp only [Act.put, List.setIfInBounds_toArray, List.set_cons_zero, List.set_cons_succ])
  (repeat (refine wpSeqE_take (v := ?_) rfl (by rfl) (fun wq hSq => ?_) ?_; rotate_left; (focus ((try dsimp only at hSq); go_simp; try with_reducible rfl)); simp only [Act.put, List.setIfInBounds_toArray, List.set_cons_zero, List.set_cons_succ]))
  (refine wpSeqE_do rfl (by rfl) (fun KK hK => ?_); go_simp)
  refine (g_relink hB hR ((A.out.take 5).parts rfl) rfl (Nat.le_of_ble_eq_true rfl) (Nat.le_of_ble_eq_true rfl) (Nat.le_of_ble_eq_true rfl)).mono ?_; rintro e u ⟨g, n, c, rfl, h⟩; replace A := Lib.hid ((A.out.drop 5).over h.out); clear h
  refine hK.out _ _ (fun _ => HB.out _ A.out.bl) ?_
  (clear hK KK; try simp only [Act.put, List.setIfInBounds_toArray, List.set_cons_zero, List.set_cons_succ])
  (repeat (refine wpSeqE_take (v := ?_) rfl (by rfl) (fun wq hSq => ?_) ?_; rotate_left; (focus ((try dsimp only at hSq); go_simp; try with_reducible rfl)); simp only [Act.put, List.setIfInBounds_toArray, List.set_cons_zero, List.set_cons_succ]))
  (refine wpSeqE_do rfl (by rfl) (fun KK hK => ?_); go_simp)
  refine (g_spare hB hR _).mono ?_; rintro e u ⟨rfl, h⟩; replace A := Lib.hid (A.out.on h); clear h
  refine hK.out _ _ (fun _ => HB.out _ A.out.bl) ?_
  (clear hK KK; try simp only [Act.put, List.setIfInBounds_toArray, List.set_cons_zero, List.set_cons_succ])
  (repeat (refine wpSeqE_take (v := ?_) rfl (by rfl) (fun wq hSq => ?_) ?_; rotate_left; (focus ((try dsimp only at hSq); go_simp; try with_reducible rfl)); simp only [Act.put, List.setIfInBounds_toArray, List.set_cons_zero, List.set_cons_succ]))
  (refine wpSeqE_do rfl (by rfl) (fun KK hK => ?_); go_simp)
  refine (g_folded hB hR _ _).mono ?_; rintro e u ⟨g, n, c, rfl, h⟩; replace A := Lib.hid (A.out.more h.out); clear h
  refine hK.out _ _ (fun _ => HB.out _ A.out.bl) ?_
  (clear hK KK; try simp only [Act.put, List.setIfInBounds_toArray, List.set_cons_zero, List.set_cons_succ])
  (repeat (refine wpSeqE_take (v := ?_) rfl (by rfl) (fun wq hSq => ?_) ?_; rotate_left; (focus ((try dsimp only at hSq); go_simp; try with_reducible rfl)); simp only [Act.put, List.setIfInBounds_toArray, List.set_cons_zero, List.set_cons_succ]))
  (refine wpSeqE_do rfl (by rfl) (fun KK hK => ?_); go_simp)
  refine hK.out _ _ (fun _ => HB.out _ (A.out.on (bl1 _ _)).bl) ?_
  (clear hK KK; try simp only [Act.put, List.setIfInBounds_toArray, List.set_cons_zero, List.set_cons_succ])
  (repeat (refine wpSeqE_take (v := ?_) rfl (by rfl) (fun wq hSq => ?_) ?_; rotate_left; (focus ((try dsimp only at hSq); go_simp; try with_reducible rfl)); simp only [Act.put, List.setIfInBounds_toArray, List.set_cons_zero, List.set_cons_succ]))
  (refine wpSeqE_do rfl (by rfl) (fun KK hK => ?_); go_simp)
  refine (g_store ((A.out.take 1).parts rfl) rfl (Nat.le_of_ble_eq_true rfl) (Nat.le_of_ble_eq_true rfl) (Nat.le_of_ble_eq_true rfl) _ _).mono ?_; rintro e u ⟨g, n, c, rfl, h⟩; replace A := Lib.hid ((A.out.drop 1).over h.out); clear h
  refine hK.out _ _ (fun _ => HB.out _ A.out.bl) ?_
  (clear hK KK; try simp only [Act.put, List.setIfInBounds_toArray, List.set_cons_zero, List.set_cons_succ])
  (repeat (refine wpSeqE_take (v := ?_) rfl (by rfl) (fun wq hSq => ?_) ?_; rotate_left; (focus ((try dsimp only at hSq); go_simp; try with_reducible rfl)); simp only [Act.put, List.setIfInBounds_toArray, List.set_cons_zero, List.set_cons_succ]))
  (refine wpSeqE_do rfl (by rfl) (fun KK hK => ?_); go_simp)
  refine (g_get _ _).mono ?_; rintro e u ⟨g, n, c, rfl, h⟩; replace A := Lib.hid (A.out.more h.out); clear h
  refine hK.out _ _ (fun _ => HB.out _ A.out.bl) ?_
  (clear hK KK; try simp only [Act.put, List.setIfInBounds_toArray, List.set_cons_zero, List.set_cons_succ])
  (repeat (refine wpSeqE_take (v := ?_) rfl (by rfl) (fun wq hSq => ?_) ?_; rotate_left; (focus ((try dsimp only at hSq); go_simp; try with_reducible rfl)); simp only [Act.put, List.setIfInBounds_toArray, List.set_cons_zero, List.set_cons_succ]))
  (refine wpSeqE_do rfl (by rfl) (fun KK hK => ?_); go_simp)
  refine (g_spare hB hR _).mono ?_; rintro e u ⟨rfl, h⟩; replace A := Lib.hid (A.out.on h); clear h
  refine hK.out _ _ (fun _ => HB.out _ A.out.bl) ?_
  (clear hK KK; try simp only [Act.put, List.setIfInBounds_toArray, List.set_cons_zero, List.set_cons_succ])
  (repeat (refine wpSeqE_take (v := ?_) rfl (by rfl) (fun wq hSq => ?_) ?_; rotate_left; (focus ((try dsimp only at hSq); go_simp; try with_reducible rfl)); simp only [Act.put, List.setIfInBounds_toArray, List.set_cons_zero, List.set_cons_succ]))
  (refine wpSeqE_do rfl (by rfl) (fun KK hK => ?_); go_simp)
  refine (g_push _ _).mono ?_; rintro e u ⟨g, n, c, rfl, h⟩; replace A := Lib.hid (A.out.more h.out); clear h
  refine hK.out _ _ (fun _ => HB.out _ A.out.bl) ?_
  (clear hK KK; try simp only [Act.put, List.setIfInBounds_toArray, List.set_cons_zero, List.set_cons_succ])
  (repeat (refine wpSeqE_take (v := ?_) rfl (by rfl) (fun wq hSq => ?_) ?_; rotate_left; (focus ((try dsimp only at hSq); go_simp; try with_reducible rfl)); simp only [Act.put, List.setIfInBounds_toArray, List.set_cons_zero, List.set_cons_succ]))
  (refine wpSeqE_do rfl (by rfl) (fun KK hK => ?_); go_simp)
  refine (g_write _).mono ?_; rintro e u ⟨g, n, c, rfl, h⟩; replace A := Lib.hid (A.out.more h.out); clear h
  refine hK.out _ _ (fun _ => HB.out _ A.out.bl) ?_
  (clear hK KK; try simp only [Act.put, List.setIfInBounds_toArray, List.set_cons_zero, List.set_cons_succ])
  (repeat (refine wpSeqE_take (v := ?_) rfl (by rfl) (fun wq hSq => ?_) ?_; rotate_left; (focus ((try dsimp only at hSq); go_simp; try with_reducible rfl)); simp only [Act.put, List.setIfInBounds_toArray, List.set_cons_zero, List.set_cons_succ]))
  (refine wpSeqE_do rfl (by rfl) (fun KK hK => ?_); go_simp)
  refine (g_grow hB hR _ _).mono ?_; rintro e u ⟨g, n, c, rfl, h⟩; replace A := Lib.hid (A.out.more h.out); clear h
  refine hK.out _ _ (fun _ => HB.out _ A.out.bl) ?_
  (clear hK KK; try simp only [Act.put, List.setIfInBounds_toArray, List.set_cons_zero, List.set_cons_succ])
  (repeat (refine wpSeqE_take (v := ?_) rfl (by rfl) (fun wq hSq => ?_) ?_; rotate_left; (focus ((try dsimp only at hSq); go_simp; try with_reducible rfl)); simp only [Act.put, List.setIfInBounds_toArray, List.set_cons_zero, List.set_cons_succ]))
  (refine wpSeqE_do rfl (by rfl) (fun KK hK => ?_); go_simp)
  refine (g_tell _ _).mono ?_; rintro e u ⟨g, n, c, rfl, h⟩; replace A := Lib.hid (A.out.more h.out); clear h
  refine hK.out _ _ (fun _ => HB.out _ A.out.bl) ?_
  (clear hK KK; try simp only [Act.put, List.setIfInBounds_toArray, List.set_cons_zero, List.set_cons_succ])
  (repeat (refine wpSeqE_take (v := ?_) rfl (by rfl) (fun wq hSq => ?_) ?_; rotate_left; (focus ((try dsimp only at hSq); go_simp; try with_reducible rfl)); simp only [Act.put, List.setIfInBounds_toArray, List.set_cons_zero, List.set_cons_succ]))
  (refine wpSeqE_do rfl (by rfl) (fun KK hK => ?_); go_simp)
  refine hK.out _ _ (fun _ => HB.out _ (A.out.on (bl1 _ _)).bl) ?_
  (clear hK KK; try simp only [Act.put, List.setIfInBounds_toArray, List.set_cons_zero, List.set_cons_succ])
  (repeat (refine wpSeqE_take (v := ?_) rfl (by rfl) (fun wq hSq => ?_) ?_; rotate_left; (focus ((try dsimp only at hSq); go_simp; try with_reducible rfl)); simp only [Act.put, List.setIfInBounds_toArray, List.set_cons_zero, List.set_cons_succ]))
  (refine wpSeqE_do rfl (by rfl) (fun KK hK => ?_); go_simp)
  refine (g_program 2 (A.out.parts rfl) rfl (Nat.le_of_ble_eq_true rfl) (Nat.le_of_ble_eq_true rfl) (Nat.le_of_ble_eq_true rfl) (del_wf B R) (HT.out.on ((pgW_bl w B R).trans (((A.out.on (bl1 _ _)).bl).mono (by rw [pgW_size]; omega)))) (del_ans B R)).mono ?_; rintro e u ⟨p, n, c, rfl, hZ⟩; have HBL := Lib.hid (A.out.bl.trans (((bl1 _ _).trans (hZ.out.2.2.mono (by simp))).mono A.out.bl.size)); obtain ⟨⟨x0, x1⟩, y0, y1, y2, y3, y4⟩ := pg_cells w B R _ HBL.out
  refine hK.out _ _ (fun _ => ⟨x0, x1⟩) ?_
  (clear hK KK; try simp only [Act.put, List.setIfInBounds_toArray, List.set_cons_zero, List.set_cons_succ])
  (repeat (refine wpSeqE_take (v := ?_) rfl (by rfl) (fun wq hSq => ?_) ?_; rotate_left; (focus ((try dsimp only at hSq); go_simp; try with_reducible rfl)); simp only [Act.put, List.setIfInBounds_toArray, List.set_cons_zero, List.set_cons_succ]))
  (refine wpSeqE_do rfl (by rfl) (fun KK hK => ?_); go_simp)
  refine hK.out _ _ (fun hn => absurd rfl hn) ?_
  (clear hK KK; try simp only [Act.put])
  refine wpSeqE_nil ?_
  go_wp2_with fail
  obtain ⟨f1, f2, f3⟩ := hZ.out
  change RowW 63 3 u p c n (codC ((bsOf 2 (delO B R).flatten).filled.map fixI)) at f2
  change n = (bsOf 2 (delO B R).flatten).code.length at f1
  rw [del_code] at f2
  obtain ⟨z1, z2, z3⟩ := pg_end (t := 2) HBL.out f2
  exact pg_back rfl (w.heap.size + 1) 2 p n c rfl z1 rfl ⟨p, n, c, rfl, f1.trans (bs_len (del_code B R)), z2, z3⟩
set_option maxHeartbeats 2000000 in
set_option maxRecDepth 100000 in
theorem g_pleast (hB : 0 ≤ B ∧ B ≤ 256) (hR : 0 ≤ R ∧ R ≤ 16) (hT : Shaped5 w) : Calls Tryd.prog 9 #[.agg #[.int .i64 B, .int .i64 R]] w fun e w' => PgC w 1 (leastC B R) e w' := by
  have HB : Hid (∀ u, Below (pgW w B R).heap.size (pgW w B R) u → u.cell? ⟨w.heap.size, 0, none⟩ = some (.int .i64 B) ∧ u.cell? ⟨w.heap.size, 1, none⟩ = some (.int .i64 R)) := fun u k => (pg_cells w B R u k).1
  have A : Hid (Acc (pgW w B R) ((pgW w B R).drew) []) := acc_nil ((Same.drew _).below _)
  have HT : Hid (Shaped5 w) := hT
  clear hT
  go_enter Tryd.func9, Tryd.ntmps9
  go_wp2_with fail
  refine wp_region_seqE (fun u => u.cell? ⟨w.heap.size, 0, none⟩ = some (.int .i64 B) ∧ u.cell? ⟨w.heap.size, 1, none⟩ = some (.int .i64 R)) ((0, true) :: (2, true) :: (1, false) :: (3, false) :: (4, false) :: (5, false) :: (6, false) :: (7, false) :: (8, false) :: (9, false) :: (10, false) :: (11, false) :: []) follows (by kernel_rfl) (fun _ _ _ _ _ h => h) (HB.out _ ((Same.drew _).below _)) ?_
  (repeat (refine wpSeqE_take (v := ?_) rfl (by rfl) (fun wq hSq => ?_) ?_; rotate_left; (focus ((try dsimp only at hSq); go_simp; try with_reducible rfl)); simp only [Act.put, List.setIfInBounds_toArray, List.set_cons_zero, List.set_cons_succ]))
  (refine wpSeqE_do rfl (by rfl) (fun KK hK => ?_); go_simp)
  refine (g_begin hB hR _).mono ?_; rintro e u ⟨g, n, c, rfl, h⟩; replace A := Lib.hid (A.out.more h.out); clear h
  refine hK.out _ _ (fun _ => HB.out _ A.out.bl) ?_
  (clear hK KK; try simp only [Act.put, List.setIfInBounds_toArray, List.set_cons_zero, List.set_cons_succ])
  (repeat (refine wpSeqE_take (v := ?_) rfl (by rfl) (fun wq hSq => ?_) ?_; rotate_left; (focus ((try dsimp only at hSq); go_simp; try with_reducible rfl)); simp only [Act.put, List.setIfInBounds_toArray, List.set_cons_zero, List.set_cons_succ]))
  (refine wpSeqE_do rfl (by rfl) (fun KK hK => ?_); go_simp)
  refine (g_get _ _).mono ?_; rintro e u ⟨g, n, c, rfl, h⟩; replace A := Lib.hid (A.out.more h.out); clear h
  refine hK.out _ _ (fun _ => HB.out _ A.out.bl) ?_
  (clear hK KK; try simp only [Act.put, List.setIfInBounds_toArray, List.set_cons_zero, List.set_cons_succ])
  (repeat (refine wpSeqE_take (v := ?_) rfl (by rfl) (fun wq hSq => ?_) ?_; rotate_left; (focus ((try dsimp only at hSq); go_simp; try with_reducible rfl)); simp only [Act.put, List.setIfInBounds_toArray, List.set_cons_zero, List.set_cons_succ]))
  (refine wpSeqE_do rfl (by rfl) (fun KK hK => ?_); go_simp)
  refine (g_set _ _).mono ?_; rintro e u ⟨g, n, c, rfl, h⟩; replace A := Lib.hid (A.out.more h.out); clear h
  refine hK.out _ _ (fun _ => HB.out _ A.out.bl) ?_
  (clear hK KK; try simp only [Act.put, List.setIfInBounds_toArray, List.set_cons_zero, List.set_cons_succ])
  (repeat (refine wpSeqE_take (v := ?_) rfl (by rfl) (fun wq hSq => ?_) ?_; rotate_left; (focus ((try dsimp only at hSq); go_simp; try with_reducible rfl)); simp only [Act.put, List.setIfInBounds_toArray, List.set_cons_zero, List.set_cons_succ]))
  (refine wpSeqE_do rfl (by rfl) (fun KK hK => ?_); go_simp)
  refine hK.out _ _ (fun _ => HB.out _ (A.out.on (bl1 _ _)).bl) ?_
  (clear hK KK; try simp only [Act.put, List.setIfInBounds_toArray, List.set_cons_zero, List.set_cons_succ])
  (repeat (refine wpSeqE_take (v := ?_) rfl (by rfl) (fun wq hSq => ?_) ?_; rotate_left; (focus ((try dsimp only at hSq); go_simp; try with_reducible rfl)); simp only [Act.put, List.setIfInBounds_toArray, List.set_cons_zero, List.set_cons_succ]))
  (refine wpSeqE_do rfl (by rfl) (fun KK hK => ?_); go_simp)
  refine (g_walk hB hR ((A.out.take 2).parts rfl) rfl (Nat.le_of_ble_eq_true rfl) (Nat.le_of_ble_eq_true rfl) (Nat.le_of_ble_eq_true rfl) _ _).mono ?_; rintro e u ⟨g, n, c, rfl, h⟩; replace A := Lib.hid ((A.out.drop 2).over h.out); clear h
  refine hK.out _ _ (fun _ => HB.out _ A.out.bl) ?_
  (clear hK KK; try simp only [Act.put, List.setIfInBounds_toArray, List.set_cons_zero, List.set_cons_succ])
  (repeat (refine wpSeqE_take (v := ?_) rfl (by rfl) (fun wq hSq => ?_) ?_; rotate_left; (focus ((try dsimp only at hSq); go_simp; try with_reducible rfl)); simp only [Act.put, List.setIfInBounds_toArray, List.set_cons_zero, List.set_cons_succ]))
  (refine wpSeqE_do rfl (by rfl) (fun KK hK => ?_); go_simp)
  refine (g_mark _ _).mono ?_; rintro e u ⟨g, n, c, rfl, h⟩; replace A := Lib.hid (A.out.more h.out); clear h
  refine hK.out _ _ (fun _ => HB.out _ A.out.bl) ?_
  (clear hK KK; try simp only [Act.put, List.setIfInBounds_toArray, List.set_cons_zero, List.set_cons_succ])
  (repeat (refine wpSeqE_take (v := ?_) rfl (by rfl) (fun wq hSq => ?_) ?_; rotate_left; (focus ((try dsimp only at hSq); go_simp; try with_reducible rfl)); simp only [Act.put, List.setIfInBounds_toArray, List.set_cons_zero, List.set_cons_succ]))
  (refine wpSeqE_do rfl (by rfl) (fun KK hK => ?_); go_simp)
  refine (g_emitKept _).mono ?_; rintro e u ⟨g, n, c, rfl, h⟩; replace A := Lib.hid (A.out.more h.out); clear h
  refine hK.out _ _ (fun _ => HB.out _ A.out.bl) ?_
  (clear hK KK; try simp only [Act.put, List.setIfInBounds_toArray, List.set_cons_zero, List.set_cons_succ])
  (repeat (refine wpSeqE_take (v := ?_) rfl (by rfl) (fun wq hSq => ?_) ?_; rotate_left; (focus ((try dsimp only at hSq); go_simp; try with_reducible rfl)); simp only [Act.put, List.setIfInBounds_toArray, List.set_cons_zero, List.set_cons_succ]))
  (refine wpSeqE_do rfl (by rfl) (fun KK hK => ?_); go_simp)
  refine hK.out _ _ (fun _ => HB.out _ (A.out.on (bl1 _ _)).bl) ?_
  (clear hK KK; try simp only [Act.put, List.setIfInBounds_toArray, List.set_cons_zero, List.set_cons_succ])
  (repeat (refine wpSeqE_take (v := ?_) rfl (by rfl) (fun wq hSq => ?_) ?_; rotate_left; (focus ((try dsimp only at hSq); go_simp; try with_reducible rfl)); simp only [Act.put, List.setIfInBounds_toArray, List.set_cons_zero, List.set_cons_succ]))
  (refine wpSeqE_do rfl (by rfl) (fun KK hK => ?_); go_simp)
  refine (g_program 1 (A.out.parts rfl) rfl (Nat.le_of_ble_eq_true rfl) (Nat.le_of_ble_eq_true rfl) (Nat.le_of_ble_eq_true rfl) (least_wf B R) (HT.out.on ((pgW_bl w B R).trans (((A.out.on (bl1 _ _)).bl).mono (by rw [pgW_size]; omega)))) (least_ans B R)).mono ?_; rintro e u ⟨p, n, c, rfl, hZ⟩; have HBL := Lib.hid (A.out.bl.trans (((bl1 _ _).trans (hZ.out.2.2.mono (by simp))).mono A.out.bl.size)); obtain ⟨⟨x0, x1⟩, y0, y1, y2, y3, y4⟩ := pg_cells w B R _ HBL.out
  refine hK.out _ _ (fun _ => ⟨x0, x1⟩) ?_
  (clear hK KK; try simp only [Act.put, List.setIfInBounds_toArray, List.set_cons_zero, List.set_cons_succ])
  (repeat (refine wpSeqE_take (v := ?_) rfl (by rfl) (fun wq hSq => ?_) ?_; rotate_left; (focus ((try dsimp only at hSq); go_simp; try with_reducible rfl)); simp only [Act.put, List.setIfInBounds_toArray, List.set_cons_zero, List.set_cons_succ]))
  (refine wpSeqE_do rfl (by rfl) (fun KK hK => ?_); go_simp)
  refine hK.out _ _ (fun hn => absurd rfl hn) ?_
  (clear hK KK; try simp only [Act.put])
  refine wpSeqE_nil ?_
  go_wp2_with fail
  obtain ⟨f1, f2, f3⟩ := hZ.out
  change RowW 63 3 u p c n (codC ((bsOf 1 (leastO B R).flatten).filled.map fixI)) at f2
  change n = (bsOf 1 (leastO B R).flatten).code.length at f1
  rw [least_code] at f2
  obtain ⟨z1, z2, z3⟩ := pg_end (t := 1) HBL.out f2
  exact pg_back rfl (w.heap.size + 1) 1 p n c rfl z1 rfl ⟨p, n, c, rfl, f1.trans (bs_len (least_code B R)), z2, z3⟩
set_option maxHeartbeats 2000000 in
set_option maxRecDepth 100000 in
theorem g_pafter (hB : 0 ≤ B ∧ B ≤ 256) (hR : 0 ≤ R ∧ R ≤ 16) (hT : Shaped5 w) : Calls Tryd.prog 10 #[.agg #[.int .i64 B, .int .i64 R]] w fun e w' => PgC w 1 (afterC B R) e w' := by
  have HB : Hid (∀ u, Below (pgW w B R).heap.size (pgW w B R) u → u.cell? ⟨w.heap.size, 0, none⟩ = some (.int .i64 B) ∧ u.cell? ⟨w.heap.size, 1, none⟩ = some (.int .i64 R)) := fun u k => (pg_cells w B R u k).1
  have A : Hid (Acc (pgW w B R) ((pgW w B R).drew) []) := acc_nil ((Same.drew _).below _)
  have HT : Hid (Shaped5 w) := hT
  clear hT
  go_enter Tryd.func10, Tryd.ntmps10
  go_wp2_with fail
  refine wp_region_seqE (fun u => u.cell? ⟨w.heap.size, 0, none⟩ = some (.int .i64 B) ∧ u.cell? ⟨w.heap.size, 1, none⟩ = some (.int .i64 R)) ((0, true) :: (2, true) :: (12, true) :: (1, false) :: (3, false) :: (4, false) :: (5, false) :: (6, false) :: (7, false) :: (8, false) :: (9, false) :: (10, false) :: (11, false) :: (13, false) :: (14, false) :: (15, false) :: (16, false) :: (17, false) :: (18, false) :: (19, false) :: (20, false) :: []) follows (by kernel_rfl) (fun _ _ _ _ _ h => h) (HB.out _ ((Same.drew _).below _)) ?_
  (repeat (refine wpSeqE_take (v := ?_) rfl (by rfl) (fun wq hSq => ?_) ?_; rotate_left; (focus ((try dsimp only at hSq); go_simp; try with_reducible rfl)); simp only [Act.put, List.setIfInBounds_toArray, List.set_cons_zero, List.set_cons_succ]))
  (refine wpSeqE_do rfl (by rfl) (fun KK hK => ?_); go_simp)
  refine (g_begin hB hR _).mono ?_; rintro e u ⟨g, n, c, rfl, h⟩; replace A := Lib.hid (A.out.more h.out); clear h
  refine hK.out _ _ (fun _ => HB.out _ A.out.bl) ?_
  (clear hK KK; try simp only [Act.put, List.setIfInBounds_toArray, List.set_cons_zero, List.set_cons_succ])
  (repeat (refine wpSeqE_take (v := ?_) rfl (by rfl) (fun wq hSq => ?_) ?_; rotate_left; (focus ((try dsimp only at hSq); go_simp; try with_reducible rfl)); simp only [Act.put, List.setIfInBounds_toArray, List.set_cons_zero, List.set_cons_succ]))
  (refine wpSeqE_do rfl (by rfl) (fun KK hK => ?_); go_simp)
  refine (g_arg _ _).mono ?_; rintro e u ⟨g, n, c, rfl, h⟩; replace A := Lib.hid (A.out.more h.out); clear h
  refine hK.out _ _ (fun _ => HB.out _ A.out.bl) ?_
  (clear hK KK; try simp only [Act.put, List.setIfInBounds_toArray, List.set_cons_zero, List.set_cons_succ])
  (repeat (refine wpSeqE_take (v := ?_) rfl (by rfl) (fun wq hSq => ?_) ?_; rotate_left; (focus ((try dsimp only at hSq); go_simp; try with_reducible rfl)); simp only [Act.put, List.setIfInBounds_toArray, List.set_cons_zero, List.set_cons_succ]))
  (refine wpSeqE_do rfl (by rfl) (fun KK hK => ?_); go_simp)
  refine (g_load _ _ _).mono ?_; rintro e u ⟨g, n, c, rfl, h⟩; replace A := Lib.hid (A.out.more h.out); clear h
  refine hK.out _ _ (fun _ => HB.out _ A.out.bl) ?_
  (clear hK KK; try simp only [Act.put, List.setIfInBounds_toArray, List.set_cons_zero, List.set_cons_succ])
  (repeat (refine wpSeqE_take (v := ?_) rfl (by rfl) (fun wq hSq => ?_) ?_; rotate_left; (focus ((try dsimp only at hSq); go_simp; try with_reducible rfl)); simp only [Act.put, List.setIfInBounds_toArray, List.set_cons_zero, List.set_cons_succ]))
  (refine wpSeqE_do rfl (by rfl) (fun KK hK => ?_); go_simp)
  refine (g_two _ _).mono ?_; rintro e u ⟨g, n, c, rfl, h⟩; replace A := Lib.hid (A.out.more h.out); clear h
  refine hK.out _ _ (fun _ => HB.out _ A.out.bl) ?_
  (clear hK KK; try simp only [Act.put, List.setIfInBounds_toArray, List.set_cons_zero, List.set_cons_succ])
  (repeat (refine wpSeqE_take (v := ?_) rfl (by rfl) (fun wq hSq => ?_) ?_; rotate_left; (focus ((try dsimp only at hSq); go_simp; try with_reducible rfl)); simp only [Act.put, List.setIfInBounds_toArray, List.set_cons_zero, List.set_cons_succ]))
  (refine wpSeqE_do rfl (by rfl) (fun KK hK => ?_); go_simp)
  refine (g_do _ _ _).mono ?_; rintro e u ⟨g, n, c, rfl, h⟩; replace A := Lib.hid (A.out.more h.out); clear h
  refine hK.out _ _ (fun _ => HB.out _ A.out.bl) ?_
  (clear hK KK; try simp only [Act.put, List.setIfInBounds_toArray, List.set_cons_zero, List.set_cons_succ])
  (repeat (refine wpSeqE_take (v := ?_) rfl (by rfl) (fun wq hSq => ?_) ?_; rotate_left; (focus ((try dsimp only at hSq); go_simp; try with_reducible rfl)); simp only [Act.put, List.setIfInBounds_toArray, List.set_cons_zero, List.set_cons_succ]))
  (refine wpSeqE_do rfl (by rfl) (fun KK hK => ?_); go_simp)
  refine (g_to _ _ _).mono ?_; rintro e u ⟨g, n, c, rfl, h⟩; replace A := Lib.hid (A.out.more h.out); clear h
  refine hK.out _ _ (fun _ => HB.out _ A.out.bl) ?_
  (clear hK KK; try simp only [Act.put, List.setIfInBounds_toArray, List.set_cons_zero, List.set_cons_succ])
  (repeat (refine wpSeqE_take (v := ?_) rfl (by rfl) (fun wq hSq => ?_) ?_; rotate_left; (focus ((try dsimp only at hSq); go_simp; try with_reducible rfl)); simp only [Act.put, List.setIfInBounds_toArray, List.set_cons_zero, List.set_cons_succ]))
  (refine wpSeqE_do rfl (by rfl) (fun KK hK => ?_); go_simp)
  refine (g_get _ _).mono ?_; rintro e u ⟨g, n, c, rfl, h⟩; replace A := Lib.hid (A.out.more h.out); clear h
  refine hK.out _ _ (fun _ => HB.out _ A.out.bl) ?_
  (clear hK KK; try simp only [Act.put, List.setIfInBounds_toArray, List.set_cons_zero, List.set_cons_succ])
  (repeat (refine wpSeqE_take (v := ?_) rfl (by rfl) (fun wq hSq => ?_) ?_; rotate_left; (focus ((try dsimp only at hSq); go_simp; try with_reducible rfl)); simp only [Act.put, List.setIfInBounds_toArray, List.set_cons_zero, List.set_cons_succ]))
  (refine wpSeqE_do rfl (by rfl) (fun KK hK => ?_); go_simp)
  refine (g_set _ _).mono ?_; rintro e u ⟨g, n, c, rfl, h⟩; replace A := Lib.hid (A.out.more h.out); clear h
  refine hK.out _ _ (fun _ => HB.out _ A.out.bl) ?_
  (clear hK KK; try simp only [Act.put, List.setIfInBounds_toArray, List.set_cons_zero, List.set_cons_succ])
  (repeat (refine wpSeqE_take (v := ?_) rfl (by rfl) (fun wq hSq => ?_) ?_; rotate_left; (focus ((try dsimp only at hSq); go_simp; try with_reducible rfl)); simp only [Act.put, List.setIfInBounds_toArray, List.set_cons_zero, List.set_cons_succ]))
  (refine wpSeqE_do rfl (by rfl) (fun KK hK => ?_); go_simp)
  refine (g_mark _ _).mono ?_; rintro e u ⟨g, n, c, rfl, h⟩; replace A := Lib.hid (A.out.more h.out); clear h
  refine hK.out _ _ (fun _ => HB.out _ A.out.bl) ?_
  (clear hK KK; try simp only [Act.put, List.setIfInBounds_toArray, List.set_cons_zero, List.set_cons_succ])
  (repeat (refine wpSeqE_take (v := ?_) rfl (by rfl) (fun wq hSq => ?_) ?_; rotate_left; (focus ((try dsimp only at hSq); go_simp; try with_reducible rfl)); simp only [Act.put, List.setIfInBounds_toArray, List.set_cons_zero, List.set_cons_succ]))
  (refine wpSeqE_do rfl (by rfl) (fun KK hK => ?_); go_simp)
  refine (g_one _ _).mono ?_; rintro e u ⟨g, n, c, rfl, h⟩; replace A := Lib.hid (A.out.more h.out); clear h
  refine hK.out _ _ (fun _ => HB.out _ A.out.bl) ?_
  (clear hK KK; try simp only [Act.put, List.setIfInBounds_toArray, List.set_cons_zero, List.set_cons_succ])
  (repeat (refine wpSeqE_take (v := ?_) rfl (by rfl) (fun wq hSq => ?_) ?_; rotate_left; (focus ((try dsimp only at hSq); go_simp; try with_reducible rfl)); simp only [Act.put, List.setIfInBounds_toArray, List.set_cons_zero, List.set_cons_succ]))
  (refine wpSeqE_do rfl (by rfl) (fun KK hK => ?_); go_simp)
  refine (g_turn hB hR _).mono ?_; rintro e u ⟨g, n, c, rfl, h⟩; replace A := Lib.hid (A.out.more h.out); clear h
  refine hK.out _ _ (fun _ => HB.out _ A.out.bl) ?_
  (clear hK KK; try simp only [Act.put, List.setIfInBounds_toArray, List.set_cons_zero, List.set_cons_succ])
  (repeat (refine wpSeqE_take (v := ?_) rfl (by rfl) (fun wq hSq => ?_) ?_; rotate_left; (focus ((try dsimp only at hSq); go_simp; try with_reducible rfl)); simp only [Act.put, List.setIfInBounds_toArray, List.set_cons_zero, List.set_cons_succ]))
  (refine wpSeqE_do rfl (by rfl) (fun KK hK => ?_); go_simp)
  refine hK.out _ _ (fun _ => HB.out _ (A.out.on (bl1 _ _)).bl) ?_
  (clear hK KK; try simp only [Act.put, List.setIfInBounds_toArray, List.set_cons_zero, List.set_cons_succ])
  (repeat (refine wpSeqE_take (v := ?_) rfl (by rfl) (fun wq hSq => ?_) ?_; rotate_left; (focus ((try dsimp only at hSq); go_simp; try with_reducible rfl)); simp only [Act.put, List.setIfInBounds_toArray, List.set_cons_zero, List.set_cons_succ]))
  (refine wpSeqE_do rfl (by rfl) (fun KK hK => ?_); go_simp)
  refine (g_walk hB hR ((A.out.take 10).parts rfl) rfl (Nat.le_of_ble_eq_true rfl) (Nat.le_of_ble_eq_true rfl) (Nat.le_of_ble_eq_true rfl) _ _).mono ?_; rintro e u ⟨g, n, c, rfl, h⟩; replace A := Lib.hid ((A.out.drop 10).over h.out); clear h
  refine hK.out _ _ (fun _ => HB.out _ A.out.bl) ?_
  (clear hK KK; try simp only [Act.put, List.setIfInBounds_toArray, List.set_cons_zero, List.set_cons_succ])
  (repeat (refine wpSeqE_take (v := ?_) rfl (by rfl) (fun wq hSq => ?_) ?_; rotate_left; (focus ((try dsimp only at hSq); go_simp; try with_reducible rfl)); simp only [Act.put, List.setIfInBounds_toArray, List.set_cons_zero, List.set_cons_succ]))
  (refine wpSeqE_do rfl (by rfl) (fun KK hK => ?_); go_simp)
  refine (g_mark _ _).mono ?_; rintro e u ⟨g, n, c, rfl, h⟩; replace A := Lib.hid (A.out.more h.out); clear h
  refine hK.out _ _ (fun _ => HB.out _ A.out.bl) ?_
  (clear hK KK; try simp only [Act.put, List.setIfInBounds_toArray, List.set_cons_zero, List.set_cons_succ])
  (repeat (refine wpSeqE_take (v := ?_) rfl (by rfl) (fun wq hSq => ?_) ?_; rotate_left; (focus ((try dsimp only at hSq); go_simp; try with_reducible rfl)); simp only [Act.put, List.setIfInBounds_toArray, List.set_cons_zero, List.set_cons_succ]))
  (refine wpSeqE_do rfl (by rfl) (fun KK hK => ?_); go_simp)
  refine (g_emitKept _).mono ?_; rintro e u ⟨g, n, c, rfl, h⟩; replace A := Lib.hid (A.out.more h.out); clear h
  refine hK.out _ _ (fun _ => HB.out _ A.out.bl) ?_
  (clear hK KK; try simp only [Act.put, List.setIfInBounds_toArray, List.set_cons_zero, List.set_cons_succ])
  (repeat (refine wpSeqE_take (v := ?_) rfl (by rfl) (fun wq hSq => ?_) ?_; rotate_left; (focus ((try dsimp only at hSq); go_simp; try with_reducible rfl)); simp only [Act.put, List.setIfInBounds_toArray, List.set_cons_zero, List.set_cons_succ]))
  (refine wpSeqE_do rfl (by rfl) (fun KK hK => ?_); go_simp)
  refine hK.out _ _ (fun _ => HB.out _ (A.out.on (bl1 _ _)).bl) ?_
  (clear hK KK; try simp only [Act.put, List.setIfInBounds_toArray, List.set_cons_zero, List.set_cons_succ])
  (repeat (refine wpSeqE_take (v := ?_) rfl (by rfl) (fun wq hSq => ?_) ?_; rotate_left; (focus ((try dsimp only at hSq); go_simp; try with_reducible rfl)); simp only [Act.put, List.setIfInBounds_toArray, List.set_cons_zero, List.set_cons_succ]))
  (refine wpSeqE_do rfl (by rfl) (fun KK hK => ?_); go_simp)
  refine (g_program 1 (A.out.parts rfl) rfl (Nat.le_of_ble_eq_true rfl) (Nat.le_of_ble_eq_true rfl) (Nat.le_of_ble_eq_true rfl) (after_wf B R) (HT.out.on ((pgW_bl w B R).trans (((A.out.on (bl1 _ _)).bl).mono (by rw [pgW_size]; omega)))) (after_ans B R)).mono ?_; rintro e u ⟨p, n, c, rfl, hZ⟩; have HBL := Lib.hid (A.out.bl.trans (((bl1 _ _).trans (hZ.out.2.2.mono (by simp))).mono A.out.bl.size)); obtain ⟨⟨x0, x1⟩, y0, y1, y2, y3, y4⟩ := pg_cells w B R _ HBL.out
  refine hK.out _ _ (fun _ => ⟨x0, x1⟩) ?_
  (clear hK KK; try simp only [Act.put, List.setIfInBounds_toArray, List.set_cons_zero, List.set_cons_succ])
  (repeat (refine wpSeqE_take (v := ?_) rfl (by rfl) (fun wq hSq => ?_) ?_; rotate_left; (focus ((try dsimp only at hSq); go_simp; try with_reducible rfl)); simp only [Act.put, List.setIfInBounds_toArray, List.set_cons_zero, List.set_cons_succ]))
  (refine wpSeqE_do rfl (by rfl) (fun KK hK => ?_); go_simp)
  refine hK.out _ _ (fun hn => absurd rfl hn) ?_
  (clear hK KK; try simp only [Act.put])
  refine wpSeqE_nil ?_
  go_wp2_with fail
  obtain ⟨f1, f2, f3⟩ := hZ.out
  change RowW 63 3 u p c n (codC ((bsOf 1 (afterO B R).flatten).filled.map fixI)) at f2
  change n = (bsOf 1 (afterO B R).flatten).code.length at f1
  rw [after_code] at f2
  obtain ⟨z1, z2, z3⟩ := pg_end (t := 1) HBL.out f2
  exact pg_back rfl (w.heap.size + 1) 1 p n c rfl z1 rfl ⟨p, n, c, rfl, f1.trans (bs_len (after_code B R)), z2, z3⟩
set_option maxHeartbeats 2000000 in
set_option maxRecDepth 100000 in
theorem g_plen (hB : 0 ≤ B ∧ B ≤ 256) (hR : 0 ≤ R ∧ R ≤ 16) (hT : Shaped5 w) : Calls Tryd.prog 11 #[.agg #[.int .i64 B, .int .i64 R]] w fun e w' => PgC w 1 (lenC B R) e w' := by
  have HB : Hid (∀ u, Below (pgW w B R).heap.size (pgW w B R) u → u.cell? ⟨w.heap.size, 0, none⟩ = some (.int .i64 B) ∧ u.cell? ⟨w.heap.size, 1, none⟩ = some (.int .i64 R)) := fun u k => (pg_cells w B R u k).1
  have A : Hid (Acc (pgW w B R) ((pgW w B R).drew) []) := acc_nil ((Same.drew _).below _)
  have HT : Hid (Shaped5 w) := hT
  clear hT
  go_enter Tryd.func11, Tryd.ntmps11
  go_wp2_with fail
  refine wp_region_seqE (fun u => u.cell? ⟨w.heap.size, 0, none⟩ = some (.int .i64 B) ∧ u.cell? ⟨w.heap.size, 1, none⟩ = some (.int .i64 R)) ((0, true) :: (1, true) :: (2, false) :: (3, false) :: (4, false) :: (5, false) :: (6, false) :: (7, false) :: (8, false) :: []) follows (by kernel_rfl) (fun _ _ _ _ _ h => h) (HB.out _ ((Same.drew _).below _)) ?_
  (repeat (refine wpSeqE_take (v := ?_) rfl (by rfl) (fun wq hSq => ?_) ?_; rotate_left; (focus ((try dsimp only at hSq); go_simp; try with_reducible rfl)); simp only [Act.put, List.setIfInBounds_toArray, List.set_cons_zero, List.set_cons_succ]))
  (refine wpSeqE_do rfl (by rfl) (fun KK hK => ?_); go_simp)
  refine (g_count hB hR _).mono ?_; rintro e u ⟨rfl, h⟩; replace A := Lib.hid (A.out.on h); clear h
  refine hK.out _ _ (fun _ => HB.out _ A.out.bl) ?_
  (clear hK KK; try simp only [Act.put, List.setIfInBounds_toArray, List.set_cons_zero, List.set_cons_succ])
  (repeat (refine wpSeqE_take (v := ?_) rfl (by rfl) (fun wq hSq => ?_) ?_; rotate_left; (focus ((try dsimp only at hSq); go_simp; try with_reducible rfl)); simp only [Act.put, List.setIfInBounds_toArray, List.set_cons_zero, List.set_cons_succ]))
  (refine wpSeqE_do rfl (by rfl) (fun KK hK => ?_); go_simp)
  refine (g_folded hB hR _ _).mono ?_; rintro e u ⟨g, n, c, rfl, h⟩; replace A := Lib.hid (A.out.more h.out); clear h
  refine hK.out _ _ (fun _ => HB.out _ A.out.bl) ?_
  (clear hK KK; try simp only [Act.put, List.setIfInBounds_toArray, List.set_cons_zero, List.set_cons_succ])
  (repeat (refine wpSeqE_take (v := ?_) rfl (by rfl) (fun wq hSq => ?_) ?_; rotate_left; (focus ((try dsimp only at hSq); go_simp; try with_reducible rfl)); simp only [Act.put, List.setIfInBounds_toArray, List.set_cons_zero, List.set_cons_succ]))
  (refine wpSeqE_do rfl (by rfl) (fun KK hK => ?_); go_simp)
  refine (g_emit _).mono ?_; rintro e u ⟨g, n, c, rfl, h⟩; replace A := Lib.hid (A.out.more h.out); clear h
  refine hK.out _ _ (fun _ => HB.out _ A.out.bl) ?_
  (clear hK KK; try simp only [Act.put, List.setIfInBounds_toArray, List.set_cons_zero, List.set_cons_succ])
  (repeat (refine wpSeqE_take (v := ?_) rfl (by rfl) (fun wq hSq => ?_) ?_; rotate_left; (focus ((try dsimp only at hSq); go_simp; try with_reducible rfl)); simp only [Act.put, List.setIfInBounds_toArray, List.set_cons_zero, List.set_cons_succ]))
  (refine wpSeqE_do rfl (by rfl) (fun KK hK => ?_); go_simp)
  refine (g_halt _).mono ?_; rintro e u ⟨g, n, c, rfl, h⟩; replace A := Lib.hid (A.out.more h.out); clear h
  refine hK.out _ _ (fun _ => HB.out _ A.out.bl) ?_
  (clear hK KK; try simp only [Act.put, List.setIfInBounds_toArray, List.set_cons_zero, List.set_cons_succ])
  (repeat (refine wpSeqE_take (v := ?_) rfl (by rfl) (fun wq hSq => ?_) ?_; rotate_left; (focus ((try dsimp only at hSq); go_simp; try with_reducible rfl)); simp only [Act.put, List.setIfInBounds_toArray, List.set_cons_zero, List.set_cons_succ]))
  (refine wpSeqE_do rfl (by rfl) (fun KK hK => ?_); go_simp)
  refine hK.out _ _ (fun _ => HB.out _ (A.out.on (bl1 _ _)).bl) ?_
  (clear hK KK; try simp only [Act.put, List.setIfInBounds_toArray, List.set_cons_zero, List.set_cons_succ])
  (repeat (refine wpSeqE_take (v := ?_) rfl (by rfl) (fun wq hSq => ?_) ?_; rotate_left; (focus ((try dsimp only at hSq); go_simp; try with_reducible rfl)); simp only [Act.put, List.setIfInBounds_toArray, List.set_cons_zero, List.set_cons_succ]))
  (refine wpSeqE_do rfl (by rfl) (fun KK hK => ?_); go_simp)
  refine (g_program 1 (A.out.parts rfl) rfl (Nat.le_of_ble_eq_true rfl) (Nat.le_of_ble_eq_true rfl) (Nat.le_of_ble_eq_true rfl) (len_wf B R) (HT.out.on ((pgW_bl w B R).trans (((A.out.on (bl1 _ _)).bl).mono (by rw [pgW_size]; omega)))) (len_ans B R)).mono ?_; rintro e u ⟨p, n, c, rfl, hZ⟩; have HBL := Lib.hid (A.out.bl.trans (((bl1 _ _).trans (hZ.out.2.2.mono (by simp))).mono A.out.bl.size)); obtain ⟨⟨x0, x1⟩, y0, y1, y2, y3, y4⟩ := pg_cells w B R _ HBL.out
  refine hK.out _ _ (fun _ => ⟨x0, x1⟩) ?_
  (clear hK KK; try simp only [Act.put, List.setIfInBounds_toArray, List.set_cons_zero, List.set_cons_succ])
  (repeat (refine wpSeqE_take (v := ?_) rfl (by rfl) (fun wq hSq => ?_) ?_; rotate_left; (focus ((try dsimp only at hSq); go_simp; try with_reducible rfl)); simp only [Act.put, List.setIfInBounds_toArray, List.set_cons_zero, List.set_cons_succ]))
  (refine wpSeqE_do rfl (by rfl) (fun KK hK => ?_); go_simp)
  refine hK.out _ _ (fun hn => absurd rfl hn) ?_
  (clear hK KK; try simp only [Act.put])
  refine wpSeqE_nil ?_
  go_wp2_with fail
  obtain ⟨f1, f2, f3⟩ := hZ.out
  change RowW 63 3 u p c n (codC ((bsOf 1 (lenO B R).flatten).filled.map fixI)) at f2
  change n = (bsOf 1 (lenO B R).flatten).code.length at f1
  rw [len_code] at f2
  obtain ⟨z1, z2, z3⟩ := pg_end (t := 1) HBL.out f2
  exact pg_back rfl (w.heap.size + 1) 1 p n c rfl z1 rfl ⟨p, n, c, rfl, f1.trans (bs_len (len_code B R)), z2, z3⟩
set_option maxHeartbeats 2000000 in
set_option maxRecDepth 100000 in
theorem g_pall (hB : 0 ≤ B ∧ B ≤ 256) (hR : 0 ≤ R ∧ R ≤ 16) (hT : Shaped5 w) : Calls Tryd.prog 12 #[.agg #[.int .i64 B, .int .i64 R]] w fun e w' => PgC w 1 (allC B R) e w' := by
  have HB : Hid (∀ u, Below (pgW w B R).heap.size (pgW w B R) u → u.cell? ⟨w.heap.size, 0, none⟩ = some (.int .i64 B) ∧ u.cell? ⟨w.heap.size, 1, none⟩ = some (.int .i64 R)) := fun u k => (pg_cells w B R u k).1
  have A : Hid (Acc (pgW w B R) ((pgW w B R).drew) []) := acc_nil ((Same.drew _).below _)
  have HT : Hid (Shaped5 w) := hT
  clear hT
  go_enter Tryd.func12, Tryd.ntmps12
  go_wp2_with fail
  refine wp_region_seqE (fun u => u.cell? ⟨w.heap.size, 0, none⟩ = some (.int .i64 B) ∧ u.cell? ⟨w.heap.size, 1, none⟩ = some (.int .i64 R)) ((1, true) :: (3, true) :: (16, true) :: (0, false) :: (2, false) :: (4, false) :: (5, false) :: (6, false) :: (7, false) :: (8, false) :: (9, false) :: (10, false) :: (11, false) :: (12, false) :: (13, false) :: (14, false) :: (15, false) :: (17, false) :: (18, false) :: (19, false) :: (20, false) :: (21, false) :: (22, false) :: (23, false) :: (24, false) :: (25, false) :: []) follows (by kernel_rfl) (fun _ _ _ _ _ h => h) (HB.out _ ((Same.drew _).below _)) ?_
  (repeat (refine wpSeqE_take (v := ?_) rfl (by rfl) (fun wq hSq => ?_) ?_; rotate_left; (focus ((try dsimp only at hSq); go_simp; try with_reducible rfl)); simp only [Act.put, List.setIfInBounds_toArray, List.set_cons_zero, List.set_cons_succ]))
  (refine wpSeqE_do rfl (by rfl) (fun KK hK => ?_); go_simp)
  refine (g_push _ _).mono ?_; rintro e u ⟨g, n, c, rfl, h⟩; replace A := Lib.hid (A.out.more h.out); clear h
  refine hK.out _ _ (fun _ => HB.out _ A.out.bl) ?_
  (clear hK KK; try simp only [Act.put, List.setIfInBounds_toArray, List.set_cons_zero, List.set_cons_succ])
  (repeat (refine wpSeqE_take (v := ?_) rfl (by rfl) (fun wq hSq => ?_) ?_; rotate_left; (focus ((try dsimp only at hSq); go_simp; try with_reducible rfl)); simp only [Act.put, List.setIfInBounds_toArray, List.set_cons_zero, List.set_cons_succ]))
  (refine wpSeqE_do rfl (by rfl) (fun KK hK => ?_); go_simp)
  refine (g_begin hB hR _).mono ?_; rintro e u ⟨g, n, c, rfl, h⟩; replace A := Lib.hid (A.out.more h.out); clear h
  refine hK.out _ _ (fun _ => HB.out _ A.out.bl) ?_
  (clear hK KK; try simp only [Act.put, List.setIfInBounds_toArray, List.set_cons_zero, List.set_cons_succ])
  (repeat (refine wpSeqE_take (v := ?_) rfl (by rfl) (fun wq hSq => ?_) ?_; rotate_left; (focus ((try dsimp only at hSq); go_simp; try with_reducible rfl)); simp only [Act.put, List.setIfInBounds_toArray, List.set_cons_zero, List.set_cons_succ]))
  (refine wpSeqE_do rfl (by rfl) (fun KK hK => ?_); go_simp)
  refine (g_get _ _).mono ?_; rintro e u ⟨g, n, c, rfl, h⟩; replace A := Lib.hid (A.out.more h.out); clear h
  refine hK.out _ _ (fun _ => HB.out _ A.out.bl) ?_
  (clear hK KK; try simp only [Act.put, List.setIfInBounds_toArray, List.set_cons_zero, List.set_cons_succ])
  (repeat (refine wpSeqE_take (v := ?_) rfl (by rfl) (fun wq hSq => ?_) ?_; rotate_left; (focus ((try dsimp only at hSq); go_simp; try with_reducible rfl)); simp only [Act.put, List.setIfInBounds_toArray, List.set_cons_zero, List.set_cons_succ]))
  (refine wpSeqE_do rfl (by rfl) (fun KK hK => ?_); go_simp)
  refine (g_push _ _).mono ?_; rintro e u ⟨g, n, c, rfl, h⟩; replace A := Lib.hid (A.out.more h.out); clear h
  refine hK.out _ _ (fun _ => HB.out _ A.out.bl) ?_
  (clear hK KK; try simp only [Act.put, List.setIfInBounds_toArray, List.set_cons_zero, List.set_cons_succ])
  (repeat (refine wpSeqE_take (v := ?_) rfl (by rfl) (fun wq hSq => ?_) ?_; rotate_left; (focus ((try dsimp only at hSq); go_simp; try with_reducible rfl)); simp only [Act.put, List.setIfInBounds_toArray, List.set_cons_zero, List.set_cons_succ]))
  (refine wpSeqE_do rfl (by rfl) (fun KK hK => ?_); go_simp)
  refine (g_set _ _).mono ?_; rintro e u ⟨g, n, c, rfl, h⟩; replace A := Lib.hid (A.out.more h.out); clear h
  refine hK.out _ _ (fun _ => HB.out _ A.out.bl) ?_
  (clear hK KK; try simp only [Act.put, List.setIfInBounds_toArray, List.set_cons_zero, List.set_cons_succ])
  (repeat (refine wpSeqE_take (v := ?_) rfl (by rfl) (fun wq hSq => ?_) ?_; rotate_left; (focus ((try dsimp only at hSq); go_simp; try with_reducible rfl)); simp only [Act.put, List.setIfInBounds_toArray, List.set_cons_zero, List.set_cons_succ]))
  (refine wpSeqE_do rfl (by rfl) (fun KK hK => ?_); go_simp)
  refine hK.out _ _ (fun _ => HB.out _ (A.out.on (bl1 _ _)).bl) ?_
  (clear hK KK; try simp only [Act.put, List.setIfInBounds_toArray, List.set_cons_zero, List.set_cons_succ])
  (repeat (refine wpSeqE_take (v := ?_) rfl (by rfl) (fun wq hSq => ?_) ?_; rotate_left; (focus ((try dsimp only at hSq); go_simp; try with_reducible rfl)); simp only [Act.put, List.setIfInBounds_toArray, List.set_cons_zero, List.set_cons_succ]))
  (refine wpSeqE_do rfl (by rfl) (fun KK hK => ?_); go_simp)
  refine (g_walk hB hR ((A.out.take 3).parts rfl) rfl (Nat.le_of_ble_eq_true rfl) (Nat.le_of_ble_eq_true rfl) (Nat.le_of_ble_eq_true rfl) _ _).mono ?_; rintro e u ⟨g, n, c, rfl, h⟩; replace A := Lib.hid ((A.out.drop 3).over h.out); clear h
  refine hK.out _ _ (fun _ => HB.out _ A.out.bl) ?_
  (clear hK KK; try simp only [Act.put, List.setIfInBounds_toArray, List.set_cons_zero, List.set_cons_succ])
  (repeat (refine wpSeqE_take (v := ?_) rfl (by rfl) (fun wq hSq => ?_) ?_; rotate_left; (focus ((try dsimp only at hSq); go_simp; try with_reducible rfl)); simp only [Act.put, List.setIfInBounds_toArray, List.set_cons_zero, List.set_cons_succ]))
  (refine wpSeqE_do rfl (by rfl) (fun KK hK => ?_); go_simp)
  refine (g_mark _ _).mono ?_; rintro e u ⟨g, n, c, rfl, h⟩; replace A := Lib.hid (A.out.more h.out); clear h
  refine hK.out _ _ (fun _ => HB.out _ A.out.bl) ?_
  (clear hK KK; try simp only [Act.put, List.setIfInBounds_toArray, List.set_cons_zero, List.set_cons_succ])
  (repeat (refine wpSeqE_take (v := ?_) rfl (by rfl) (fun wq hSq => ?_) ?_; rotate_left; (focus ((try dsimp only at hSq); go_simp; try with_reducible rfl)); simp only [Act.put, List.setIfInBounds_toArray, List.set_cons_zero, List.set_cons_succ]))
  (refine wpSeqE_do rfl (by rfl) (fun KK hK => ?_); go_simp)
  refine (g_do _ _ _).mono ?_; rintro e u ⟨g, n, c, rfl, h⟩; replace A := Lib.hid (A.out.more h.out); clear h
  refine hK.out _ _ (fun _ => HB.out _ A.out.bl) ?_
  (clear hK KK; try simp only [Act.put, List.setIfInBounds_toArray, List.set_cons_zero, List.set_cons_succ])
  (repeat (refine wpSeqE_take (v := ?_) rfl (by rfl) (fun wq hSq => ?_) ?_; rotate_left; (focus ((try dsimp only at hSq); go_simp; try with_reducible rfl)); simp only [Act.put, List.setIfInBounds_toArray, List.set_cons_zero, List.set_cons_succ]))
  (refine wpSeqE_do rfl (by rfl) (fun KK hK => ?_); go_simp)
  refine (g_to _ _ _).mono ?_; rintro e u ⟨g, n, c, rfl, h⟩; replace A := Lib.hid (A.out.more h.out); clear h
  refine hK.out _ _ (fun _ => HB.out _ A.out.bl) ?_
  (clear hK KK; try simp only [Act.put, List.setIfInBounds_toArray, List.set_cons_zero, List.set_cons_succ])
  (repeat (refine wpSeqE_take (v := ?_) rfl (by rfl) (fun wq hSq => ?_) ?_; rotate_left; (focus ((try dsimp only at hSq); go_simp; try with_reducible rfl)); simp only [Act.put, List.setIfInBounds_toArray, List.set_cons_zero, List.set_cons_succ]))
  (refine wpSeqE_do rfl (by rfl) (fun KK hK => ?_); go_simp)
  refine (g_set _ _).mono ?_; rintro e u ⟨g, n, c, rfl, h⟩; replace A := Lib.hid (A.out.more h.out); clear h
  refine hK.out _ _ (fun _ => HB.out _ A.out.bl) ?_
  (clear hK KK; try simp only [Act.put, List.setIfInBounds_toArray, List.set_cons_zero, List.set_cons_succ])
  (repeat (refine wpSeqE_take (v := ?_) rfl (by rfl) (fun wq hSq => ?_) ?_; rotate_left; (focus ((try dsimp only at hSq); go_simp; try with_reducible rfl)); simp only [Act.put, List.setIfInBounds_toArray, List.set_cons_zero, List.set_cons_succ]))
  (refine wpSeqE_do rfl (by rfl) (fun KK hK => ?_); go_simp)
  refine (g_emitPair _ _).mono ?_; rintro e u ⟨g, n, c, rfl, h⟩; replace A := Lib.hid (A.out.more h.out); clear h
  refine hK.out _ _ (fun _ => HB.out _ A.out.bl) ?_
  (clear hK KK; try simp only [Act.put, List.setIfInBounds_toArray, List.set_cons_zero, List.set_cons_succ])
  (repeat (refine wpSeqE_take (v := ?_) rfl (by rfl) (fun wq hSq => ?_) ?_; rotate_left; (focus ((try dsimp only at hSq); go_simp; try with_reducible rfl)); simp only [Act.put, List.setIfInBounds_toArray, List.set_cons_zero, List.set_cons_succ]))
  (refine wpSeqE_do rfl (by rfl) (fun KK hK => ?_); go_simp)
  refine (g_cell _ _ _).mono ?_; rintro e u ⟨g, n, c, rfl, h⟩; replace A := Lib.hid (A.out.more h.out); clear h
  refine hK.out _ _ (fun _ => HB.out _ A.out.bl) ?_
  (clear hK KK; try simp only [Act.put, List.setIfInBounds_toArray, List.set_cons_zero, List.set_cons_succ])
  (repeat (refine wpSeqE_take (v := ?_) rfl (by rfl) (fun wq hSq => ?_) ?_; rotate_left; (focus ((try dsimp only at hSq); go_simp; try with_reducible rfl)); simp only [Act.put, List.setIfInBounds_toArray, List.set_cons_zero, List.set_cons_succ]))
  (refine wpSeqE_do rfl (by rfl) (fun KK hK => ?_); go_simp)
  refine (g_set _ _).mono ?_; rintro e u ⟨g, n, c, rfl, h⟩; replace A := Lib.hid (A.out.more h.out); clear h
  refine hK.out _ _ (fun _ => HB.out _ A.out.bl) ?_
  (clear hK KK; try simp only [Act.put, List.setIfInBounds_toArray, List.set_cons_zero, List.set_cons_succ])
  (repeat (refine wpSeqE_take (v := ?_) rfl (by rfl) (fun wq hSq => ?_) ?_; rotate_left; (focus ((try dsimp only at hSq); go_simp; try with_reducible rfl)); simp only [Act.put, List.setIfInBounds_toArray, List.set_cons_zero, List.set_cons_succ]))
  (refine wpSeqE_do rfl (by rfl) (fun KK hK => ?_); go_simp)
  refine (g_wide hB hR _).mono ?_; rintro e u ⟨rfl, h⟩; replace A := Lib.hid (A.out.on h); clear h
  refine hK.out _ _ (fun _ => HB.out _ A.out.bl) ?_
  (clear hK KK; try simp only [Act.put, List.setIfInBounds_toArray, List.set_cons_zero, List.set_cons_succ])
  (repeat (refine wpSeqE_take (v := ?_) rfl (by rfl) (fun wq hSq => ?_) ?_; rotate_left; (focus ((try dsimp only at hSq); go_simp; try with_reducible rfl)); simp only [Act.put, List.setIfInBounds_toArray, List.set_cons_zero, List.set_cons_succ]))
  (refine wpSeqE_do rfl (by rfl) (fun KK hK => ?_); go_simp)
  refine (g_push _ _).mono ?_; rintro e u ⟨g, n, c, rfl, h⟩; replace A := Lib.hid (A.out.more h.out); clear h
  refine hK.out _ _ (fun _ => HB.out _ A.out.bl) ?_
  (clear hK KK; try simp only [Act.put, List.setIfInBounds_toArray, List.set_cons_zero, List.set_cons_succ])
  (repeat (refine wpSeqE_take (v := ?_) rfl (by rfl) (fun wq hSq => ?_) ?_; rotate_left; (focus ((try dsimp only at hSq); go_simp; try with_reducible rfl)); simp only [Act.put, List.setIfInBounds_toArray, List.set_cons_zero, List.set_cons_succ]))
  (refine wpSeqE_do rfl (by rfl) (fun KK hK => ?_); go_simp)
  refine (g_set _ _).mono ?_; rintro e u ⟨g, n, c, rfl, h⟩; replace A := Lib.hid (A.out.more h.out); clear h
  refine hK.out _ _ (fun _ => HB.out _ A.out.bl) ?_
  (clear hK KK; try simp only [Act.put, List.setIfInBounds_toArray, List.set_cons_zero, List.set_cons_succ])
  (repeat (refine wpSeqE_take (v := ?_) rfl (by rfl) (fun wq hSq => ?_) ?_; rotate_left; (focus ((try dsimp only at hSq); go_simp; try with_reducible rfl)); simp only [Act.put, List.setIfInBounds_toArray, List.set_cons_zero, List.set_cons_succ]))
  (refine wpSeqE_do rfl (by rfl) (fun KK hK => ?_); go_simp)
  refine (g_to _ _ _).mono ?_; rintro e u ⟨g, n, c, rfl, h⟩; replace A := Lib.hid (A.out.more h.out); clear h
  refine hK.out _ _ (fun _ => HB.out _ A.out.bl) ?_
  (clear hK KK; try simp only [Act.put, List.setIfInBounds_toArray, List.set_cons_zero, List.set_cons_succ])
  (repeat (refine wpSeqE_take (v := ?_) rfl (by rfl) (fun wq hSq => ?_) ?_; rotate_left; (focus ((try dsimp only at hSq); go_simp; try with_reducible rfl)); simp only [Act.put, List.setIfInBounds_toArray, List.set_cons_zero, List.set_cons_succ]))
  (refine wpSeqE_do rfl (by rfl) (fun KK hK => ?_); go_simp)
  refine (g_mark _ _).mono ?_; rintro e u ⟨g, n, c, rfl, h⟩; replace A := Lib.hid (A.out.more h.out); clear h
  refine hK.out _ _ (fun _ => HB.out _ A.out.bl) ?_
  (clear hK KK; try simp only [Act.put, List.setIfInBounds_toArray, List.set_cons_zero, List.set_cons_succ])
  (repeat (refine wpSeqE_take (v := ?_) rfl (by rfl) (fun wq hSq => ?_) ?_; rotate_left; (focus ((try dsimp only at hSq); go_simp; try with_reducible rfl)); simp only [Act.put, List.setIfInBounds_toArray, List.set_cons_zero, List.set_cons_succ]))
  (refine wpSeqE_do rfl (by rfl) (fun KK hK => ?_); go_simp)
  refine (g_halt _).mono ?_; rintro e u ⟨g, n, c, rfl, h⟩; replace A := Lib.hid (A.out.more h.out); clear h
  refine hK.out _ _ (fun _ => HB.out _ A.out.bl) ?_
  (clear hK KK; try simp only [Act.put, List.setIfInBounds_toArray, List.set_cons_zero, List.set_cons_succ])
  (repeat (refine wpSeqE_take (v := ?_) rfl (by rfl) (fun wq hSq => ?_) ?_; rotate_left; (focus ((try dsimp only at hSq); go_simp; try with_reducible rfl)); simp only [Act.put, List.setIfInBounds_toArray, List.set_cons_zero, List.set_cons_succ]))
  (refine wpSeqE_do rfl (by rfl) (fun KK hK => ?_); go_simp)
  refine hK.out _ _ (fun _ => HB.out _ (A.out.on (bl1 _ _)).bl) ?_
  (clear hK KK; try simp only [Act.put, List.setIfInBounds_toArray, List.set_cons_zero, List.set_cons_succ])
  (repeat (refine wpSeqE_take (v := ?_) rfl (by rfl) (fun wq hSq => ?_) ?_; rotate_left; (focus ((try dsimp only at hSq); go_simp; try with_reducible rfl)); simp only [Act.put, List.setIfInBounds_toArray, List.set_cons_zero, List.set_cons_succ]))
  (refine wpSeqE_do rfl (by rfl) (fun KK hK => ?_); go_simp)
  refine (g_program 1 (A.out.parts rfl) rfl (Nat.le_of_ble_eq_true rfl) (Nat.le_of_ble_eq_true rfl) (Nat.le_of_ble_eq_true rfl) (all_wf B R) (HT.out.on ((pgW_bl w B R).trans (((A.out.on (bl1 _ _)).bl).mono (by rw [pgW_size]; omega)))) (all_ans B R)).mono ?_; rintro e u ⟨p, n, c, rfl, hZ⟩; have HBL := Lib.hid (A.out.bl.trans (((bl1 _ _).trans (hZ.out.2.2.mono (by simp))).mono A.out.bl.size)); obtain ⟨⟨x0, x1⟩, y0, y1, y2, y3, y4⟩ := pg_cells w B R _ HBL.out
  refine hK.out _ _ (fun _ => ⟨x0, x1⟩) ?_
  (clear hK KK; try simp only [Act.put, List.setIfInBounds_toArray, List.set_cons_zero, List.set_cons_succ])
  (repeat (refine wpSeqE_take (v := ?_) rfl (by rfl) (fun wq hSq => ?_) ?_; rotate_left; (focus ((try dsimp only at hSq); go_simp; try with_reducible rfl)); simp only [Act.put, List.setIfInBounds_toArray, List.set_cons_zero, List.set_cons_succ]))
  (refine wpSeqE_do rfl (by rfl) (fun KK hK => ?_); go_simp)
  refine hK.out _ _ (fun hn => absurd rfl hn) ?_
  (clear hK KK; try simp only [Act.put])
  refine wpSeqE_nil ?_
  go_wp2_with fail
  obtain ⟨f1, f2, f3⟩ := hZ.out
  change RowW 63 3 u p c n (codC ((bsOf 1 (allO B R).flatten).filled.map fixI)) at f2
  change n = (bsOf 1 (allO B R).flatten).code.length at f1
  rw [all_code] at f2
  obtain ⟨z1, z2, z3⟩ := pg_end (t := 1) HBL.out f2
  exact pg_back rfl (w.heap.size + 1) 1 p n c rfl z1 rfl ⟨p, n, c, rfl, f1.trans (bs_len (all_code B R)), z2, z3⟩
end
end Go.Proofs.YthnpgbmagfhgpaaDoor.Tr
namespace Go.Proofs.YthnpgbmagfhgpaaDoor.Tr
open Go.ChangeShapes Go.WideShapes Go.ChangeAt Go.RowKit Num Go.Maps As
open Go.ChangeMaps Go.MapKept
attribute [local go_sem] run_store_float frombits_run bits_run
def roomV (c : Int) : Int := if c < 7 then 0 else if 52 ≤ c then 16 else (c - 4) / 3
theorem roomV_in (c : Int) : 0 ≤ roomV c ∧ roomV c ≤ 16 := by
  unfold roomV
  split
  · omega
  · split <;> omega
set_option maxRecDepth 100000 in
theorem room_any (c : Int) (hc : c ≤ 9223372036854775807) (w : World) : Calls Tryd.prog 5 #[.int .i64 c] w fun e w' => e = .returned (.int .i64 (roomV c)) ∧ w' = w := by
  unfold roomV
  by_cases h : c < 7
  · rw [if_pos h]
    go_enter Tryd.func5, Tryd.ntmps5
    go_wp2
    go_ret
    exact ⟨rfl, rfl⟩
  · rw [if_neg h]
    have h1 : wrap64 (c - 4) = c - 4 := by unfold wrap64; omega
    have h2 : wrap64 ((c - 4).tdiv 3) = (c - 4) / 3 := by rw [Int.tdiv_eq_ediv_of_nonneg (by omega)]; unfold wrap64; omega
    go_enter Tryd.func5, Tryd.ntmps5
    go_wp2
    all_goals go_ret
    all_goals refine ⟨?_, rfl⟩
    all_goals first | rfl | (exfalso; omega)
def treeO : Obj := .cells #[.int .i64 0, .slice none 0 0, .int .i64 0, .slice none 0 0, .int .i64 0, .slice none 0 0, .int .i64 0, .slice none 0 0, .int .i64 0, .slice none 0 0, .int .i64 0, .slice none 0 0, .int .i64 0, .slice none 0 0] 26
def mkW (w : World) (B R : Int) : World := (w.alloc treeO).alloc (plotO B R)
theorem mkW_size (w : World) (B R : Int) : (mkW w B R).heap.size = w.heap.size + 2 := by simp [mkW]
theorem mkW_bl (w : World) (B R : Int) : Below w.heap.size w (mkW w B R) := (bl1 w _).trans ((bl1 _ _).mono (by simp))
theorem mk_cells (w : World) (B R : Int) (u : World) (k : Below (mkW w B R).heap.size (mkW w B R) u) : (u.cell? ⟨w.heap.size + 1, 0, none⟩ = some (.int .i64 B) ∧ u.cell? ⟨w.heap.size + 1, 1, none⟩ = some (.int .i64 R)) ∧ u.heap[w.heap.size]? = some treeO := by
  have h1 : (mkW w B R).heap[w.heap.size + 1]? = some (plotO B R) := by
    have := heap_alloc_new (w.alloc treeO) (plotO B R)
    simpa [mkW] using this
  have h0 : (mkW w B R).heap[w.heap.size]? = some treeO := (Below.heap_alloc _ _ _ (by simp)).trans (heap_alloc_new w _)
  have hs := mkW_size w B R
  have a := cells2_of ((k.block _ (by omega)).trans h1)
  exact ⟨⟨a.1, a.2.1⟩, (k.block _ (by omega)).trans h0⟩
structure PAcc (W u : World) (L : List (Option Addr × Nat × Nat × List Ins)) : Prop where
  bl : Below W.heap.size W u
  it : ∀ q ∈ L, q.2.1 = q.2.2.2.length ∧ RowW 63 3 u q.1 q.2.2.1 q.2.1 (codC q.2.2.2)
theorem PAcc.more {W u u' : World} {L : List (Option Addr × Nat × Nat × List Ins)} {cs : List Ins} (h : PAcc W u L) (q : Option Addr × Nat × Nat) (k : q.2.1 = cs.length ∧ RowW 63 3 u' q.1 q.2.2 q.2.1 (codC cs) ∧ Below u.heap.size u u') : PAcc W u' ((q.1, q.2.1, q.2.2, cs) :: L) :=
  ⟨h.bl.trans (k.2.2.mono h.bl.size), fun x hx => by
    rcases List.mem_cons.1 hx with rfl | hx
    · exact ⟨k.1, k.2.1⟩
    · exact ⟨(h.it x hx).1, (h.it x hx).2.keep (kept_below k.2.2 (h.it x hx).2.blw)⟩⟩
section
variable {w : World}
set_option maxHeartbeats 4000000 in
theorem set14 (w u : World) (x0 x1 x2 x3 x4 x5 x6 x7 x8 x9 x10 x11 x12 x13 : Value) (hb : u.heap[w.heap.size]? = some treeO) :
    ((((((((((((((u.setCell ⟨w.heap.size, 0, none⟩ x0).setCell ⟨w.heap.size, 1, none⟩ x1).setCell ⟨w.heap.size, 2, none⟩ x2).setCell ⟨w.heap.size, 3, none⟩ x3).setCell ⟨w.heap.size, 4, none⟩ x4).setCell ⟨w.heap.size, 5, none⟩ x5).setCell ⟨w.heap.size, 6, none⟩ x6).setCell ⟨w.heap.size, 7, none⟩ x7).setCell ⟨w.heap.size, 8, none⟩ x8).setCell ⟨w.heap.size, 9, none⟩ x9).setCell ⟨w.heap.size, 10, none⟩ x10).setCell ⟨w.heap.size, 11, none⟩ x11).setCell ⟨w.heap.size, 12, none⟩ x12).setCell ⟨w.heap.size, 13, none⟩ x13).heap[w.heap.size]? = some (.cells #[x0, x1, x2, x3, x4, x5, x6, x7, x8, x9, x10, x11, x12, x13] 26 (0, 0)) ∧ Turn [w.heap.size] [w.heap.size] u ((((((((((((((u.setCell ⟨w.heap.size, 0, none⟩ x0).setCell ⟨w.heap.size, 1, none⟩ x1).setCell ⟨w.heap.size, 2, none⟩ x2).setCell ⟨w.heap.size, 3, none⟩ x3).setCell ⟨w.heap.size, 4, none⟩ x4).setCell ⟨w.heap.size, 5, none⟩ x5).setCell ⟨w.heap.size, 6, none⟩ x6).setCell ⟨w.heap.size, 7, none⟩ x7).setCell ⟨w.heap.size, 8, none⟩ x8).setCell ⟨w.heap.size, 9, none⟩ x9).setCell ⟨w.heap.size, 10, none⟩ x10).setCell ⟨w.heap.size, 11, none⟩ x11).setCell ⟨w.heap.size, 12, none⟩ x12).setCell ⟨w.heap.size, 13, none⟩ x13) := by
  unfold treeO at hb
  exact ⟨(heap_setCell_same _ _ 13 _ _ _ (heap_setCell_same _ _ 12 _ _ _ (heap_setCell_same _ _ 11 _ _ _ (heap_setCell_same _ _ 10 _ _ _ (heap_setCell_same _ _ 9 _ _ _ (heap_setCell_same _ _ 8 _ _ _ (heap_setCell_same _ _ 7 _ _ _ (heap_setCell_same _ _ 6 _ _ _ (heap_setCell_same _ _ 5 _ _ _ (heap_setCell_same _ _ 4 _ _ _ (heap_setCell_same _ _ 3 _ _ _ (heap_setCell_same _ _ 2 _ _ _ (heap_setCell_same _ _ 1 _ _ _ (heap_setCell_same _ _ 0 _ _ _ hb)))))))))))))).trans (by simp), ((((((((((((((As.turn_set w.heap.size 0 x0 u).trans (As.turn_set w.heap.size 1 x1 _)).trans (As.turn_set w.heap.size 2 x2 _)).trans (As.turn_set w.heap.size 3 x3 _)).trans (As.turn_set w.heap.size 4 x4 _)).trans (As.turn_set w.heap.size 5 x5 _)).trans (As.turn_set w.heap.size 6 x6 _)).trans (As.turn_set w.heap.size 7 x7 _)).trans (As.turn_set w.heap.size 8 x8 _)).trans (As.turn_set w.heap.size 9 x9 _)).trans (As.turn_set w.heap.size 10 x10 _)).trans (As.turn_set w.heap.size 11 x11 _)).trans (As.turn_set w.heap.size 12 x12 _)).trans (As.turn_set w.heap.size 13 x13 _))⟩
theorem tree_back {fn : Func} {p r : Tmp} (h : fn.results = #[.cell p 26, .tmp r]) {Q : Ending → World → Prop} {a : Act} {w : World} (g : Nat) (e : Int) {arr : Array Value} (hp : a.tmps.getD p undef = .pointer (some ⟨g, 0, none⟩)) (hu : a.tmps.getD r undef = .int .i64 e)
    (hg : w.heap[g]? = some (.cells arr 26 (0, 0))) (ha : arr.size = 14) (hd : a.defers = []) (hR : Q (.returned (.tuple #[.agg arr, .int .i64 e])) w) : bodyPost Tryd.prog fn Q .ret a w := by
  refine bodyPost_ret (v := .tuple #[.agg arr, .int .i64 e]) ?_ hd hR
  rw [results_cell_tmp h, hp, hu]
  have hl := run_loadVar_row (P := Tryd.prog) w g 26 26 arr (0, 0) _ hg Tryd.underlying26 rfl (by rw [ha]; kernel_rfl)
  simp [asAddr, hl, Result.andThen]
structure Ptr where
  p : Option Addr
  n : Nat
  c : Nat
def treeV (q : Nat → Ptr) : Value := .agg #[.int .i64 1, .slice (q 0).p (q 0).n (q 0).c, .int .i64 2, .slice (q 1).p (q 1).n (q 1).c, .int .i64 2, .slice (q 2).p (q 2).n (q 2).c, .int .i64 1, .slice (q 3).p (q 3).n (q 3).c, .int .i64 1, .slice (q 4).p (q 4).n (q 4).c, .int .i64 1, .slice (q 5).p (q 5).n (q 5).c, .int .i64 1, .slice (q 6).p (q 6).n (q 6).c]
def codeOf (B R : Int) (k : Nat) : List Ins := [getC B R, putCd B R, delC B R, leastC B R, afterC B R, lenC B R, allC B R].getD k []
structure TrAt (w : World) (B R : Int) (q : Nat → Ptr) : Prop where
  row : ∀ k, k < 7 → (q k).n = (codeOf B R k).length ∧ RowW 63 3 w (q k).p (q k).c (q k).n (codC (codeOf B R k))
def tree0 : Value := .agg #[.int .i64 0, .slice none 0 0, .int .i64 0, .slice none 0 0, .int .i64 0, .slice none 0 0, .int .i64 0, .slice none 0 0, .int .i64 0, .slice none 0 0, .int .i64 0, .slice none 0 0, .int .i64 0, .slice none 0 0]
theorem make_yes (hT : Shaped5 w) {b c : Int} (hc : c ≤ 9223372036854775807) (h7 : 7 ≤ c) (h0 : 0 ≤ b) (hf : b + c ≤ 256) : Calls Tryd.prog 4 #[.int .i64 b, .int .i64 c] w fun e w' => ∃ q, e = .returned (.tuple #[treeV q, .int .i64 0]) ∧ Hid (TrAt w' b (roomV c) q ∧ Below w.heap.size w w') := by
  have HT := Lib.hid hT
  have HR := Lib.hid (room_any c hc)
  have hr0 := roomV_in c
  have hr1 : roomV c ≠ 0 := by unfold roomV; rw [if_neg (by omega)]; split <;> omega
  obtain ⟨r, hr⟩ : ∃ r, roomV c = r := ⟨_, rfl⟩
  rw [hr] at HR hr0 hr1
  have hB : 0 ≤ b ∧ b ≤ 256 := by omega
  have hR : 0 ≤ r ∧ r ≤ 16 := hr0
  have e0 : (r == 0) = false := by simpa using hr1
  have e1 : ¬ b < 0 := by omega
  have e2 : wrap64 (256 - c) = 256 - c := by unfold wrap64; omega
  have e3 : ¬ 256 - c < b := by omega
  have A : Hid (PAcc (mkW w b r) (mkW w b r).drew []) := ⟨(Same.drew _).below _, fun q hq => by cases hq⟩
  rw [hr]
  clear hT hr hr0 hr1 h7 h0 hf hc
  go_enter Tryd.func4, Tryd.ntmps4
  go_wp2_with (go_at_call 5; refine (HR.out _).mono ?_; rintro e u ⟨rfl, hu⟩; subst u)
  refine wp_region_seq (fun u => u.cell? ⟨w.heap.size + 1, 0, none⟩ = some (.int .i64 b) ∧ u.cell? ⟨w.heap.size + 1, 1, none⟩ = some (.int .i64 r)) ((0, true) :: (2, true) :: (4, true) :: (6, true) :: (8, true) :: (10, true) :: (12, true) :: (1, false) :: (3, false) :: (5, false) :: (7, false) :: (9, false) :: (11, false) :: (13, false) :: (14, true) :: (15, false) :: (16, true) :: []) follows (by kernel_rfl) (fun _ _ _ _ _ h => h) (mk_cells w b r _ ((Same.drew _).below _)).1 ?_
  (repeat ((first | (refine wpSeq_take (v := ?_) rfl (by rfl) (fun wq hSq => ?_) ?_; rotate_left; (focus ((try dsimp only at hSq); go_simp; try with_reducible rfl))) | refine wpSeq_skip rfl (by rfl) ?_); simp only [Act.put, List.setIfInBounds_toArray, List.set_cons_zero, List.set_cons_succ]))
  (refine wpSeq_do rfl (by rfl) (fun KK hK => ?_); go_simp)
  refine (g_pget (B := b) (R := r) hB hR (HT.out.on ((mkW_bl w b r).trans (A.out.bl.mono (by rw [mkW_size]; omega))))).mono ?_; rintro e u0 ⟨p0, n0, c0, rfl, h⟩; replace A := Lib.hid (A.out.more ⟨p0, n0, c0⟩ h.out); clear h
  refine hK.out _ _ (mk_cells w b r _ A.out.bl).1 ?_
  (clear hK KK; try simp only [Act.put, List.setIfInBounds_toArray, List.set_cons_zero, List.set_cons_succ])
  (repeat ((first | (refine wpSeq_take (v := ?_) rfl (by rfl) (fun wq hSq => ?_) ?_; rotate_left; (focus ((try dsimp only at hSq); go_simp; try with_reducible rfl))) | refine wpSeq_skip rfl (by rfl) ?_); simp only [Act.put, List.setIfInBounds_toArray, List.set_cons_zero, List.set_cons_succ]))
  (refine wpSeq_do rfl (by rfl) (fun KK hK => ?_); go_simp)
  refine (g_pput (B := b) (R := r) hB hR (HT.out.on ((mkW_bl w b r).trans (A.out.bl.mono (by rw [mkW_size]; omega))))).mono ?_; rintro e u1 ⟨p1, n1, c1, rfl, h⟩; replace A := Lib.hid (A.out.more ⟨p1, n1, c1⟩ h.out); clear h
  refine hK.out _ _ (mk_cells w b r _ A.out.bl).1 ?_
  (clear hK KK; try simp only [Act.put, List.setIfInBounds_toArray, List.set_cons_zero, List.set_cons_succ])
  (repeat ((first | (refine wpSeq_take (v := ?_) rfl (by rfl) (fun wq hSq => ?_) ?_; rotate_left; (focus ((try dsimp only at hSq); go_simp; try with_reducible rfl))) | refine wpSeq_skip rfl (by rfl) ?_); simp only [Act.put, List.setIfInBounds_toArray, List.set_cons_zero, List.set_cons_succ]))
  (refine wpSeq_do rfl (by rfl) (fun KK hK => ?_); go_simp)
  refine (g_pdel (B := b) (R := r) hB hR (HT.out.on ((mkW_bl w b r).trans (A.out.bl.mono (by rw [mkW_size]; omega))))).mono ?_; rintro e u2 ⟨p2, n2, c2, rfl, h⟩; replace A := Lib.hid (A.out.more ⟨p2, n2, c2⟩ h.out); clear h
  refine hK.out _ _ (mk_cells w b r _ A.out.bl).1 ?_
  (clear hK KK; try simp only [Act.put, List.setIfInBounds_toArray, List.set_cons_zero, List.set_cons_succ])
  (repeat ((first | (refine wpSeq_take (v := ?_) rfl (by rfl) (fun wq hSq => ?_) ?_; rotate_left; (focus ((try dsimp only at hSq); go_simp; try with_reducible rfl))) | refine wpSeq_skip rfl (by rfl) ?_); simp only [Act.put, List.setIfInBounds_toArray, List.set_cons_zero, List.set_cons_succ]))
  (refine wpSeq_do rfl (by rfl) (fun KK hK => ?_); go_simp)
  refine (g_pleast (B := b) (R := r) hB hR (HT.out.on ((mkW_bl w b r).trans (A.out.bl.mono (by rw [mkW_size]; omega))))).mono ?_; rintro e u3 ⟨p3, n3, c3, rfl, h⟩; replace A := Lib.hid (A.out.more ⟨p3, n3, c3⟩ h.out); clear h
  refine hK.out _ _ (mk_cells w b r _ A.out.bl).1 ?_
  (clear hK KK; try simp only [Act.put, List.setIfInBounds_toArray, List.set_cons_zero, List.set_cons_succ])
  (repeat ((first | (refine wpSeq_take (v := ?_) rfl (by rfl) (fun wq hSq => ?_) ?_; rotate_left; (focus ((try dsimp only at hSq); go_simp; try with_reducible rfl))) | refine wpSeq_skip rfl (by rfl) ?_); simp only [Act.put, List.setIfInBounds_toArray, List.set_cons_zero, List.set_cons_succ]))
  (refine wpSeq_do rfl (by rfl) (fun KK hK => ?_); go_simp)
  refine (g_pafter (B := b) (R := r) hB hR (HT.out.on ((mkW_bl w b r).trans (A.out.bl.mono (by rw [mkW_size]; omega))))).mono ?_; rintro e u4 ⟨p4, n4, c4, rfl, h⟩; replace A := Lib.hid (A.out.more ⟨p4, n4, c4⟩ h.out); clear h
  refine hK.out _ _ (mk_cells w b r _ A.out.bl).1 ?_
  (clear hK KK; try simp only [Act.put, List.setIfInBounds_toArray, List.set_cons_zero, List.set_cons_succ])
  (repeat ((first | (refine wpSeq_take (v := ?_) rfl (by rfl) (fun wq hSq => ?_) ?_; rotate_left; (focus ((try dsimp only at hSq); go_simp; try with_reducible rfl))) | refine wpSeq_skip rfl (by rfl) ?_); simp only [Act.put, List.setIfInBounds_toArray, List.set_cons_zero, List.set_cons_succ]))
  (refine wpSeq_do rfl (by rfl) (fun KK hK => ?_); go_simp)
  refine (g_plen (B := b) (R := r) hB hR (HT.out.on ((mkW_bl w b r).trans (A.out.bl.mono (by rw [mkW_size]; omega))))).mono ?_; rintro e u5 ⟨p5, n5, c5, rfl, h⟩; replace A := Lib.hid (A.out.more ⟨p5, n5, c5⟩ h.out); clear h
  refine hK.out _ _ (mk_cells w b r _ A.out.bl).1 ?_
  (clear hK KK; try simp only [Act.put, List.setIfInBounds_toArray, List.set_cons_zero, List.set_cons_succ])
  (repeat ((first | (refine wpSeq_take (v := ?_) rfl (by rfl) (fun wq hSq => ?_) ?_; rotate_left; (focus ((try dsimp only at hSq); go_simp; try with_reducible rfl))) | refine wpSeq_skip rfl (by rfl) ?_); simp only [Act.put, List.setIfInBounds_toArray, List.set_cons_zero, List.set_cons_succ]))
  (refine wpSeq_do rfl (by rfl) (fun KK hK => ?_); go_simp)
  refine (g_pall (B := b) (R := r) hB hR (HT.out.on ((mkW_bl w b r).trans (A.out.bl.mono (by rw [mkW_size]; omega))))).mono ?_; rintro e u6 ⟨p6, n6, c6, rfl, h⟩; replace A := Lib.hid (A.out.more ⟨p6, n6, c6⟩ h.out); clear h
  refine hK.out _ _ (mk_cells w b r _ A.out.bl).1 ?_
  (clear hK KK; try simp only [Act.put, List.setIfInBounds_toArray, List.set_cons_zero, List.set_cons_succ])
  (repeat ((first | (refine wpSeq_take (v := ?_) rfl (by rfl) (fun wq hSq => ?_) ?_; rotate_left; (focus ((try dsimp only at hSq); go_simp; try with_reducible rfl))) | refine wpSeq_skip rfl (by rfl) ?_); simp only [Act.put, List.setIfInBounds_toArray, List.set_cons_zero, List.set_cons_succ]))
  have HX := mk_cells w b r _ A.out.bl
  obtain ⟨⟨x0, x1⟩, xs⟩ := HX
  have hlt := lt_of_block xs
  have a0 := (cell_of_row _ _ 0 _ _ _ xs).trans rfl
  have f0 := frozen_of_row _ _ 0 _ _ xs
  have a1 := (cell_of_row _ _ 1 _ _ _ xs).trans rfl
  have f1 := frozen_of_row _ _ 1 _ _ xs
  have a2 := (cell_of_row _ _ 2 _ _ _ xs).trans rfl
  have f2 := frozen_of_row _ _ 2 _ _ xs
  have a3 := (cell_of_row _ _ 3 _ _ _ xs).trans rfl
  have f3 := frozen_of_row _ _ 3 _ _ xs
  have a4 := (cell_of_row _ _ 4 _ _ _ xs).trans rfl
  have f4 := frozen_of_row _ _ 4 _ _ xs
  have a5 := (cell_of_row _ _ 5 _ _ _ xs).trans rfl
  have f5 := frozen_of_row _ _ 5 _ _ xs
  have a6 := (cell_of_row _ _ 6 _ _ _ xs).trans rfl
  have f6 := frozen_of_row _ _ 6 _ _ xs
  have a7 := (cell_of_row _ _ 7 _ _ _ xs).trans rfl
  have f7 := frozen_of_row _ _ 7 _ _ xs
  have a8 := (cell_of_row _ _ 8 _ _ _ xs).trans rfl
  have f8 := frozen_of_row _ _ 8 _ _ xs
  have a9 := (cell_of_row _ _ 9 _ _ _ xs).trans rfl
  have f9 := frozen_of_row _ _ 9 _ _ xs
  have a10 := (cell_of_row _ _ 10 _ _ _ xs).trans rfl
  have f10 := frozen_of_row _ _ 10 _ _ xs
  have a11 := (cell_of_row _ _ 11 _ _ _ xs).trans rfl
  have f11 := frozen_of_row _ _ 11 _ _ xs
  have a12 := (cell_of_row _ _ 12 _ _ _ xs).trans rfl
  have f12 := frozen_of_row _ _ 12 _ _ xs
  have a13 := (cell_of_row _ _ 13 _ _ _ xs).trans rfl
  have f13 := frozen_of_row _ _ 13 _ _ xs
  have HS := Lib.hid (set14 w u6 (.int .i64 1) (.slice p0 n0 c0) (.int .i64 2) (.slice p1 n1 c1) (.int .i64 2) (.slice p2 n2 c2) (.int .i64 1) (.slice p3 n3 c3) (.int .i64 1) (.slice p4 n4 c4) (.int .i64 1) (.slice p5 n5 c5) (.int .i64 1) (.slice p6 n6 c6) xs)
  have HX := Lib.hid (mk_cells w b r u6 A.out.bl)
  have hl2 : w.heap.size + 1 < u6.heap.size := by
    have := A.out.bl.size
    rw [mkW_size] at this
    omega
  clear x0 x1 xs
  (refine wpSeq_do rfl (by rfl) (fun KK hK => ?_); go_simp)
  refine hK.out _ _ ⟨(World.cell?_of_block (a := ⟨w.heap.size + 1, 0, none⟩) (HS.out.2.block _ hl2 (by simp))).trans HX.out.1.1, (World.cell?_of_block (a := ⟨w.heap.size + 1, 1, none⟩) (HS.out.2.block _ hl2 (by simp))).trans HX.out.1.2⟩ ?_
  (clear hK KK; try simp only [Act.put, List.setIfInBounds_toArray, List.set_cons_zero, List.set_cons_succ])
  (repeat ((first | (refine wpSeq_take (v := ?_) rfl (by rfl) (fun wq hSq => ?_) ?_; rotate_left; (focus ((try dsimp only at hSq); go_simp; try with_reducible rfl))) | refine wpSeq_skip rfl (by rfl) ?_); simp only [Act.put, List.setIfInBounds_toArray, List.set_cons_zero, List.set_cons_succ]))
  refine wpSeq_nil ?_
  go_wp2_with fail
  have hbw : Below w.heap.size w u6 := (mkW_bl w b r).trans (A.out.bl.mono (by rw [mkW_size]; omega))
  have hrow : ∀ q ∈ ([(p6, n6, c6, allC b r), (p5, n5, c5, lenC b r), (p4, n4, c4, afterC b r), (p3, n3, c3, leastC b r), (p2, n2, c2, delC b r), (p1, n1, c1, putCd b r), (p0, n0, c0, getC b r)] : List (Option Addr × Nat × Nat × List Ins)), q.2.1 = q.2.2.2.length ∧ RowW 63 3 _ q.1 q.2.2.1 q.2.1 (codC q.2.2.2) := fun q hq => ⟨(A.out.it q hq).1, (A.out.it q hq).2.keep (HS.out.2.kept (fun x hx z => by
    obtain ⟨arr, e⟩ := (A.out.it q hq).2.blk hx
    rw [show x = w.heap.size by simpa using z] at e
    exact ne_ty e HX.out.2 (by decide) rfl) (A.out.it q hq).2.blw)⟩
  refine tree_back rfl w.heap.size 0 rfl rfl HS.out.1 rfl rfl ⟨fun k => [⟨p0, n0, c0⟩, ⟨p1, n1, c1⟩, ⟨p2, n2, c2⟩, ⟨p3, n3, c3⟩, ⟨p4, n4, c4⟩, ⟨p5, n5, c5⟩, ⟨p6, n6, c6⟩].getD k ⟨none, 0, 0⟩, rfl, ⟨fun k hk => ?_⟩, hbw.trans (HS.out.2.below (fun x hx => by simp at hx; omega) hbw.size)⟩
  match k, hk with
  | 0, _ => exact hrow (p0, n0, c0, getC b r) (by simp)
  | 1, _ => exact hrow (p1, n1, c1, putCd b r) (by simp)
  | 2, _ => exact hrow (p2, n2, c2, delC b r) (by simp)
  | 3, _ => exact hrow (p3, n3, c3, leastC b r) (by simp)
  | 4, _ => exact hrow (p4, n4, c4, afterC b r) (by simp)
  | 5, _ => exact hrow (p5, n5, c5, lenC b r) (by simp)
  | 6, _ => exact hrow (p6, n6, c6, allC b r) (by simp)
set_option maxHeartbeats 1000000 in
theorem make_no {b c : Int} (hc : c ≤ 9223372036854775807) (hc0 : -9223372036854775808 ≤ c) (hf : ¬ (7 ≤ c ∧ 0 ≤ b ∧ b + c ≤ 256)) : Calls Tryd.prog 4 #[.int .i64 b, .int .i64 c] w fun e w' => e = .returned (.tuple #[tree0, .int .i64 200]) ∧ Below w.heap.size w w' := by
  have HR := Lib.hid (room_any c hc)
  by_cases h7 : c < 7
  · have hr : roomV c = 0 := by unfold roomV; rw [if_pos h7]
    rw [hr] at HR
    have HS := Lib.hid (heap_alloc_new w treeO)
    clear hf hc0
    go_enter Tryd.func4, Tryd.ntmps4
    go_wp2_with (go_at_call 5; refine (HR.out _).mono ?_; rintro e u ⟨rfl, hu⟩; subst u)
    exact tree_back rfl w.heap.size 200 rfl rfl HS.out rfl rfl ⟨rfl, bl1 _ _⟩
  · have hr := roomV_in c
    have hr1 : roomV c ≠ 0 := by unfold roomV; rw [if_neg h7]; split <;> omega
    obtain ⟨r, hr2⟩ : ∃ r, roomV c = r := ⟨_, rfl⟩
    rw [hr2] at HR hr hr1
    have e0 : (r == 0) = false := by simpa using hr1
    have e2 : wrap64 (256 - c) = 256 - c := by unfold wrap64; omega
    have HS := Lib.hid (heap_alloc_new w treeO)
    by_cases hb : b < 0
    · clear hf hc0 hr hr1 hr2 h7
      go_enter Tryd.func4, Tryd.ntmps4
      go_wp2_with (go_at_call 5; refine (HR.out _).mono ?_; rintro e u ⟨rfl, hu⟩; subst u)
      exact tree_back rfl w.heap.size 200 rfl rfl HS.out rfl rfl ⟨rfl, bl1 _ _⟩
    · have e3 : 256 - c < b := by omega
      clear hf hc0 hr hr1 hr2 h7
      go_enter Tryd.func4, Tryd.ntmps4
      go_wp2_with (go_at_call 5; refine (HR.out _).mono ?_; rintro e u ⟨rfl, hu⟩; subst u)
      exact tree_back rfl w.heap.size 200 rfl rfl HS.out rfl rfl ⟨rfl, bl1 _ _⟩
end
end Go.Proofs.YthnpgbmagfhgpaaDoor.Tr
namespace Go.Proofs.YthnpgbmagfhgpaaDoor.Tr
open Go.ChangeShapes Go.WideShapes Go.ChangeAt Go.RowKit Num Go.Maps As
open Go.ChangeMaps Go.MapKept
attribute [local go_sem] run_store_float frombits_run bits_run
set_option maxHeartbeats 1000000 in
set_option maxRecDepth 100000 in
theorem numbers_any (w : World) (hT : Shaped5 w) : Calls Tryd.prog 3 #[] w fun e w' => e = .returned (.bool true) ∧ Below w.heap.size w w' := by
  have H1 : Hid (∀ w : World, Calls Tryd.prog 4 #[.int .i64 0, .int .i64 6] w fun e w' => e = .returned (.tuple #[.agg #[.int .i64 0, .slice none 0 0, .int .i64 0, .slice none 0 0, .int .i64 0, .slice none 0 0, .int .i64 0, .slice none 0 0, .int .i64 0, .slice none 0 0, .int .i64 0, .slice none 0 0, .int .i64 0, .slice none 0 0], .int .i64 200]) ∧ Below w.heap.size w w') := fun w => make_no (by decide) (by decide) (by decide)
  have H2 : Hid (∀ u : World, Below w.heap.size w u → Calls Tryd.prog 4 #[.int .i64 249, .int .i64 7] u fun e w' => ∃ q, e = .returned (.tuple #[.agg #[.int .i64 1, .slice (q 0).p (q 0).n (q 0).c, .int .i64 2, .slice (q 1).p (q 1).n (q 1).c, .int .i64 2, .slice (q 2).p (q 2).n (q 2).c, .int .i64 1, .slice (q 3).p (q 3).n (q 3).c, .int .i64 1, .slice (q 4).p (q 4).n (q 4).c, .int .i64 1, .slice (q 5).p (q 5).n (q 5).c, .int .i64 1, .slice (q 6).p (q 6).n (q 6).c], .int .i64 0]) ∧ Hid (TrAt w' 249 (roomV 7) q ∧ Below u.heap.size u w')) := fun u k => make_yes (hT.on k) (by decide) (by decide) (by decide) (by decide)
  have H3 : Hid (∀ w : World, Calls Tryd.prog 5 #[.int .i64 256] w fun e w' => e = .returned (.int .i64 16) ∧ w' = w) := fun w => room_any 256 (by decide) w
  have H4 : Hid (∀ w : World, Calls Tryd.prog 5 #[.int .i64 7] w fun e w' => e = .returned (.int .i64 1) ∧ w' = w) := fun w => room_any 7 (by decide) w
  clear hT
  go_enter Tryd.func3, Tryd.ntmps3
  go_wp2_with (first
    | (go_at_call 4; refine (H1.out _).mono ?_; rintro e u1 ⟨rfl, k1⟩; have K := Lib.hid k1; clear k1 H1)
    | (go_at_call 4; refine (H2.out _ (K.out.trans ((bl1 _ _).mono K.out.size))).mono ?_; rintro e u2 ⟨q, rfl, k2⟩; replace K := Lib.hid ((K.out.trans ((bl1 _ _).mono K.out.size)).trans (k2.out.2.mono (K.out.trans ((bl1 _ _).mono K.out.size)).size)); clear k2 H2)
    | (go_at_call 5; refine (H3.out _).mono ?_; rintro e u3 ⟨rfl, hu⟩; subst u3; clear H3)
    | (go_at_call 5; refine (H4.out _).mono ?_; rintro e u4 ⟨rfl, hu⟩; subst u4; clear H4))
  go_ret
  exact ⟨rfl, K.out.trans ((bl1 _ _).mono K.out.size)⟩
end Go.Proofs.YthnpgbmagfhgpaaDoor.Tr
