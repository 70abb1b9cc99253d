import Derived.Test.YtmmijcmlnhmooaaED
namespace Go.Proofs.Ytmmijcmlnhmooaa
open Go.ChangeShapes Go.WideShapes Go.ChangeAt Go.RowKit Num
attribute [local go_sem] run_store_float

/-- the document's read: its box, the words that were loaded -/
def dboxV (p c s : Int) (v : Value) : Array Value := #[.int .i64 0, .int .i64 0, .int .i64 0, .int .i64 0, .int .i64 p, .int .i64 0, .int .i64 c, .int .u64 s, v]
structure DrAt (w : World) (b : Nat) (p c s : Int) (L : List Int) (pv : Option Addr) (cv : Nat) : Prop where
  box : w.heap[b]? = some (.cells (dboxV p c s (.slice pv L.length cv)) 120 (0, 0))
  row : w.ownsRow 0 22 1 (.slice pv L.length cv) L.length (u64s L)
  ne : ∀ g, (Value.slice pv L.length cv).ownBlock = some g → g ≠ b
section
variable {w w' : World} {b : Nat} {p c s : Int} {L : List Int} {pv : Option Addr} {cv : Nat}
theorem DrAt.lt (h : DrAt w b p c s L pv cv) : b < w.heap.size := lt_of_block h.box
theorem DrAt.cell (h : DrAt w b p c s L pv cv) (j : Nat) (v : Value) (hj : (dboxV p c s (.slice pv L.length cv))[j]? = some v) : w.cell? ⟨b, j, none⟩ = some v := by rw [cell_of_row w b j _ _ _ h.box]; exact hj
theorem DrAt.free (h : DrAt w b p c s L pv cv) (j : Nat) : w.frozen? ⟨b, j, none⟩ = false := frozen_of_row w b j _ _ h.box
theorem DrAt.keep (h : DrAt w b p c s L pv cv) (h1 : w'.heap[b]? = w.heap[b]?) (h2 : ∀ g, (Value.slice pv L.length cv).ownBlock = some g → w'.heap[g]? = w.heap[g]?) : DrAt w' b p c s L pv cv := by
  refine ⟨h1.trans h.box, ⟨h.row.1, ?_⟩, h.ne⟩
  rcases h.row.2 with q | ⟨g, cap, cur, hv, hb, hg, rest⟩
  · exact .inl q
  · refine .inr ⟨g, cap, cur, hv, hb, (h2 g ?_).trans hg, rest⟩
    rw [hv]; rfl
theorem DrAt.on (h : DrAt w b p c s L pv cv) (k : Below w.heap.size w w') : DrAt w' b p c s L pv cv := h.keep (k.block b h.lt) (fun g hg => k.block g (World.ownsRow.lt h.row g hg).2)
theorem DrAt.word (h : DrAt w b p c s L pv cv) (h0 : 0 < L.length) : ∃ g, pv = some ⟨g, 0, none⟩ ∧ g < w.heap.size ∧ ∀ j, j < L.length → w.cell? ⟨g, j, none⟩ = some (.int .u64 (L.getD j 0)) := by
  rcases h.row.2 with ⟨_, q⟩ | ⟨g, cap, cur, hv, hb, hg, rest⟩
  · omega
  · injection hv with e1 e2 e3
    subst e1 e3
    refine ⟨g, rfl, lt_of_block hg, fun j hj => ?_⟩
    rw [World.ownsRow.cellAt h.row j (by omega)]
    simp [u64s, hj]
end
/-- which word is loaded next; -1: it is over -/
def nextD (s : Int) (L : List Int) : Int :=
  if L.length = 0 then 0 else if L.length = 1 then (if s < L.getD 0 0 then 2 else 1) else if L.length = 2 then (if L.getD 0 0 ≤ s then 0 else -1)
  else if L.length = 3 then (if L.getD 2 0 ≠ L.getD 0 0 then 2 else -1) else -1
section
variable {w : World} {b : Nat} {p c s : Int} {L : List Int} {pv : Option Addr} {cv : Nat}
set_option maxRecDepth 100000 in
set_option maxHeartbeats 2000000 in
theorem dnext_any (h : DrAt w b p c s L pv cv) (hl : L.length ≤ 4) : Calls Try.prog 83 #[.pointer (some ⟨b, 0, none⟩)] w fun e w' => e = .returned (.int .i64 (nextD s L)) ∧ Below w.heap.size w w' := by
  have h7 : w.cell? ⟨b, 7, none⟩ = some (.int .u64 s) := h.cell 7 _ rfl
  have h8 : w.cell? ⟨b, 8, none⟩ = some (.slice pv L.length cv) := h.cell 8 _ rfl
  have hb := h.lt
  by_cases h0 : L.length = 0
  · have e : nextD s L = 0 := by simp [nextD, h0]
    rw [e]
    rw [h0] at h8
    clear h hl
    go_enter Try.func83, Try.ntmps83
    go_wp2
    go_ret
    exact ⟨rfl, (by repeat (first | exact Below.refl _ _ | refine bl_drew ?_ | refine bl_drewN _ ?_ | refine bl_alloc ?_ _ | refine bl_setCell ?_ (by simp) _ _ | refine bl_setRow ?_ (by simp) _))⟩
  · obtain ⟨g, rfl, hg, hw⟩ := h.word (by omega)
    have HWS := Lib.hid hw
    clear h hw
    have x0 := HWS.out 0 (by omega)
    by_cases h1 : L.length = 1
    · rw [h1] at h8
      by_cases hs : s < L.getD 0 0
      · have e : nextD s L = 2 := by simp only [nextD, h1, hs]; rfl
        rw [e]
        generalize L.getD 0 0 = x at x0 hs
        clear hl h0 h1 HWS e
        go_enter Try.func83, Try.ntmps83
        go_wp2
        go_quiet (fail)
        go_wp2
        go_ret
        exact ⟨rfl, (by repeat (first | exact Below.refl _ _ | refine bl_drew ?_ | refine bl_drewN _ ?_ | refine bl_alloc ?_ _ | refine bl_setCell ?_ (by simp) _ _ | refine bl_setRow ?_ (by simp) _))⟩
      · have e : nextD s L = 1 := by simp only [nextD, h1, hs]; rfl
        rw [e]
        generalize L.getD 0 0 = x at x0 hs
        clear hl h0 h1 HWS e
        go_enter Try.func83, Try.ntmps83
        go_wp2
        go_quiet (fail)
        go_wp2
        go_ret
        exact ⟨rfl, (by repeat (first | exact Below.refl _ _ | refine bl_drew ?_ | refine bl_drewN _ ?_ | refine bl_alloc ?_ _ | refine bl_setCell ?_ (by simp) _ _ | refine bl_setRow ?_ (by simp) _))⟩
    · by_cases h2 : L.length = 2
      · rw [h2] at h8
        by_cases hs : L.getD 0 0 ≤ s
        · have e : nextD s L = 0 := by simp only [nextD, h2, hs]; rfl
          rw [e]
          generalize L.getD 0 0 = x at x0 hs
          clear hl h0 h1 h2 HWS e
          go_enter Try.func83, Try.ntmps83
          go_wp2
          go_quiet (fail)
          go_wp2
          go_quiet (fail)
          go_wp2
          go_ret
          exact ⟨rfl, (by repeat (first | exact Below.refl _ _ | refine bl_drew ?_ | refine bl_drewN _ ?_ | refine bl_alloc ?_ _ | refine bl_setCell ?_ (by simp) _ _ | refine bl_setRow ?_ (by simp) _))⟩
        · have e : nextD s L = -1 := by simp only [nextD, h2, hs]; rfl
          rw [e]
          generalize L.getD 0 0 = x at x0 hs
          clear hl h0 h1 h2 HWS e
          go_enter Try.func83, Try.ntmps83
          go_wp2
          go_quiet (fail)
          go_wp2
          go_quiet (fail)
          go_wp2
          go_quiet (fail)
          go_wp2
          go_ret
          exact ⟨rfl, (by repeat (first | exact Below.refl _ _ | refine bl_drew ?_ | refine bl_drewN _ ?_ | refine bl_alloc ?_ _ | refine bl_setCell ?_ (by simp) _ _ | refine bl_setRow ?_ (by simp) _))⟩
      · by_cases h3 : L.length = 3
        · have x2 := HWS.out 2 (by omega)
          rw [h3] at h8
          by_cases hs : L.getD 2 0 = L.getD 0 0
          · have e : nextD s L = -1 := by simp only [nextD, h3, hs]; simp
            rw [e]
            rw [hs] at x2
            generalize L.getD 0 0 = x at x0 x2
            clear hl h0 h1 h2 h3 hs HWS e
            go_enter Try.func83, Try.ntmps83
            go_wp2
            go_quiet (fail)
            go_wp2
            go_quiet (fail)
            go_wp2
            go_quiet (fail)
            go_wp2
            go_ret
            exact ⟨rfl, (by repeat (first | exact Below.refl _ _ | refine bl_drew ?_ | refine bl_drewN _ ?_ | refine bl_alloc ?_ _ | refine bl_setCell ?_ (by simp) _ _ | refine bl_setRow ?_ (by simp) _))⟩
          · have e : nextD s L = 2 := by simp only [nextD, h3, ne_eq, hs, not_false_eq_true, if_true]; rfl
            rw [e]
            generalize L.getD 0 0 = x at x0 hs
            generalize L.getD 2 0 = y at x2 hs
            clear hl h0 h1 h2 h3 HWS e
            go_enter Try.func83, Try.ntmps83
            go_wp2
            go_quiet (fail)
            go_wp2
            go_quiet (fail)
            go_wp2
            go_quiet (fail)
            go_wp2
            go_ret
            exact ⟨rfl, (by repeat (first | exact Below.refl _ _ | refine bl_drew ?_ | refine bl_drewN _ ?_ | refine bl_alloc ?_ _ | refine bl_setCell ?_ (by simp) _ _ | refine bl_setRow ?_ (by simp) _))⟩
        · have h4 : L.length = 4 := by omega
          have e : nextD s L = -1 := by simp only [nextD, h4]; rfl
          rw [e]
          rw [h4] at h8
          generalize L.getD 0 0 = x at x0
          clear hl h0 h1 h2 h3 h4 HWS e
          go_enter Try.func83, Try.ntmps83
          go_wp2
          go_quiet (fail)
          go_wp2
          go_quiet (fail)
          go_wp2
          go_quiet (fail)
          go_wp2
          go_ret
          exact ⟨rfl, (by repeat (first | exact Below.refl _ _ | refine bl_drew ?_ | refine bl_drewN _ ?_ | refine bl_alloc ?_ _ | refine bl_setCell ?_ (by simp) _ _ | refine bl_setRow ?_ (by simp) _))⟩
end
def errD (s p c : Int) (L ws : List Int) (o : Bool) : Int := if nextD s L < 0 then 3 else errC ws o p c (nextD s L)
def stepD (s p c : Int) (L ws : List Int) (o : Bool) : List Int := if errD s p c L ws o = 0 then L ++ [wordC ws p c (nextD s L)] else L
def endD (s p c : Int) (L ws : List Int) (o : Bool) : Bool := decide (errD s p c L ws o = 0) && decide (nextD s (stepD s p c L ws o) < 0)
def ownL (pv : Option Addr) : List Nat := match pv with | some a => [a.block] | none => []
theorem own_mem {pv : Option Addr} {n cv g : Nat} (h : (Value.slice pv n cv).ownBlock = some g) : g ∈ ownL pv := by
  cases pv with
  | none => simp [Value.ownBlock] at h
  | some a => simp [Value.ownBlock] at h; simp [ownL, h]
theorem DrAt.more {w w3 : World} {b : Nat} {p c s x : Int} {L : List Int} {pv : Option Addr} {cv : Nat} {v : Value} {o : Obj} (h : DrAt w b p c s L pv cv) (hown : w3.ownsRow 0 22 1 v (L.length + 1) (u64s L ++ [.int .u64 x])) (hg : (w.alloc o).grownBy w3 (Value.slice pv L.length cv).ownBlock) (hat : v.ownBlock = (Value.slice pv L.length cv).ownBlock ∨ v.ownBlock = some (w.alloc o).heap.size) :
    ∃ pv' cv', v = .slice pv' (L.length + 1) cv' ∧ w3.cell? ⟨b, 8, none⟩ = some (.slice pv L.length cv) ∧ w3.frozen? ⟨b, 8, none⟩ = false ∧ b < w3.heap.size ∧ Hid (DrAt (w3.setCell ⟨b, 8, none⟩ (.slice pv' (L.length + 1) cv')) b p c s (L ++ [x]) pv' cv' ∧ (∀ g, g ∈ ownL pv' → g ∈ ownL pv ∨ w.heap.size ≤ g) ∧ Ch (b :: ownL pv) w (w3.setCell ⟨b, 8, none⟩ (.slice pv' (L.length + 1) cv'))) := by
  have hbl := h.lt
  have hbo : some b ≠ (Value.slice pv L.length cv).ownBlock := fun q => h.ne b q.symm rfl
  have hbox : w3.heap[b]? = some (.cells (dboxV p c s (.slice pv L.length cv)) 120 (0, 0)) := (hg.block b (by simp; omega) hbo).trans ((Below.heap_alloc _ _ _ hbl).trans h.box)
  rcases hown.2 with ⟨_, q⟩ | ⟨g, cap, cur, hv, hb, hgx, rest⟩
  · omega
  · subst hv
    have hgb : g ≠ b := by
      rcases hat with q | q
      · exact fun e => h.ne g (q ▸ rfl) e
      · have q' : some g = some (w.alloc o).heap.size := q
        have := Option.some.inj q'
        simp at this
        omega
    have hl : (L ++ [x]).length = L.length + 1 := by simp
    refine ⟨some ⟨g, 0, none⟩, cap, rfl, ?_, frozen_of_row _ _ _ _ _ hbox, lt_of_block hbox, ⟨?_, ?_, ?_⟩, ?_, ?_⟩
    · rw [cell_of_row _ _ _ _ _ _ hbox]; rfl
    · rw [hl, heap_setCell_same _ _ _ _ _ _ hbox]; rfl
    · have e : u64s (L ++ [x]) = u64s L ++ [.int .u64 x] := by simp [u64s]
      rw [hl, e]
      exact ⟨hown.1, .inr ⟨g, cap, cur, rfl, hb, (heap_setCell_other _ _ _ _ hgb).trans hgx, rest⟩⟩
    · rw [hl]
      intro k hk
      have hk' : some g = some k := hk
      have := Option.some.inj hk'
      omega
    · intro k hk
      simp [ownL] at hk
      subst hk
      rcases hat with q | q
      · exact .inl (own_mem (n := L.length) (cv := cv) (q.symm.trans rfl))
      · have q' : some k = some (w.alloc o).heap.size := q
        have := Option.some.inj q'
        simp at this
        exact .inr (by omega)
    · refine ⟨hg.os, hg.tape, hg.output, ?_, fun k hk hn => ?_⟩
      · have := hg.size
        simp at this
        simp
        omega
      · have h1 : k ≠ b := fun e => hn (by simp [e])
        have h2 : some k ≠ (Value.slice pv L.length cv).ownBlock := fun e => hn (List.mem_cons_of_mem _ (own_mem e.symm))
        exact (heap_setCell_other _ _ _ _ h1).trans ((hg.block k (by simp; omega) h2).trans (Below.heap_alloc _ _ _ hk))
theorem nextD_in (s : Int) (L : List Int) : nextD s L = -1 ∨ 0 ≤ nextD s L ∧ nextD s L ≤ 2 := by
  unfold nextD
  repeat (first | split | omega)
section
variable {w : World} {b bm gm : Nat} {p c s n : Int} {L ws : List Int} {pv : Option Addr} {cv : Nat} {o : Bool}
set_option maxRecDepth 100000 in
set_option maxHeartbeats 2000000 in
theorem dstep_over (hr : DrAt w b p c s L pv cv) (hl : L.length ≤ 4) (hn : nextD s L = -1) : Calls Try.prog 68 #[.pointer (some ⟨b, 0, none⟩), .pointer (some ⟨bm, 0, none⟩)] w fun e w' => e = .returned (.tuple #[.bool false, .int .i64 3]) ∧ Below w.heap.size w w' := by
  have HN := Lib.hid (dnext_any hr hl)
  rw [hn] at HN
  clear hr hl hn
  go_enter Try.func68, Try.ntmps68
  go_wp2_with (go_at_call 83; refine HN.out.mono ?_; rintro e w1 ⟨rfl, hb⟩; have HB := Lib.hid hb; clear hb)
  go_ret2
  exact ⟨rfl, HB.out⟩
set_option maxRecDepth 100000 in
set_option maxHeartbeats 2000000 in
theorem dstep_no (h : MemAt 92 w bm gm ws o n) (hr : DrAt w b p c s L pv cv) (hl : L.length ≤ 4) (hn : 0 ≤ nextD s L ∧ nextD s L ≤ 2) (he : ¬ errC ws o p c (nextD s L) = 0) : Calls Try.prog 68 #[.pointer (some ⟨b, 0, none⟩), .pointer (some ⟨bm, 0, none⟩)] w fun e w' => e = .returned (.tuple #[.bool false, .int .i64 (errC ws o p c (nextD s L))]) ∧ MemAt 92 w' bm gm ws o n ∧ Chg bm gm w w' := by
  have HN := Lib.hid (dnext_any hr hl)
  have HMB := Lib.hid (refMayBe_any c)
  have h7 : ∀ u, Below w.heap.size w u → u.cell? ⟨b, 6, none⟩ = some (.int .i64 c) ∧ u.cell? ⟨b, 0, none⟩ = some (.int .i64 0) ∧ u.cell? ⟨b, 1, none⟩ = some (.int .i64 0) ∧ u.cell? ⟨b, 2, none⟩ = some (.int .i64 0) ∧ u.cell? ⟨b, 3, none⟩ = some (.int .i64 0) ∧ u.cell? ⟨b, 4, none⟩ = some (.int .i64 p) ∧ u.cell? ⟨b, 5, none⟩ = some (.int .i64 0) ∧ b < u.heap.size := fun u k => ⟨(hr.on k).cell 6 _ rfl, (hr.on k).cell 0 _ rfl, (hr.on k).cell 1 _ rfl, (hr.on k).cell 2 _ rfl, (hr.on k).cell 3 _ rfl, (hr.on k).cell 4 _ rfl, (hr.on k).cell 5 _ rfl, (hr.on k).lt⟩
  have H7 := Lib.hid h7
  have HM := Lib.hid (fun (u : World) (k : Below w.heap.size w u) => h.on k)
  have hz : ¬ nextD s L < 0 := by omega
  cases hm : mayC c
  · have e : errC ws o p c (nextD s L) = 60 := by simp [errC, hm]
    rw [e]
    simp only [hm] at HMB
    generalize nextD s L = q at HN hz
    clear h hr hl hn he e hm h7
    go_enter Try.func68, Try.ntmps68
    go_wp2_with (first
      | (go_at_call 83; refine HN.out.mono ?_; rintro e w1 ⟨rfl, hb⟩; have HB := Lib.hid hb; obtain ⟨c6, c0, c1, c2, c3, c4, c5, cb⟩ := H7.out _ hb; clear hb)
      | (go_at_call 64; refine (HMB.out _).mono ?_; rintro e w2 ⟨rfl, hw⟩; subst w2))
    go_ret2
    exact ⟨rfl, HM.out _ HB.out, chg_from HB.out (Chg.refl _ _ _)⟩
  · obtain ⟨f1, f2, f3, f4, _⟩ := err_same (ws := ws) (o := o) hm p (nextD s L) n
    simp only [hm] at HMB
    have HW := Lib.hid (refWord_any 0 0 0 0 p 0 c (nextD s L) (mayC_pos hm) (by omega))
    have HL := Lib.hid (fun (u : World) (k : Below w.heap.size w u) => refLoad_any (h.on k) (placeI p c (nextD s L)))
    simp only [f1, f2, f3, f4, aftO, aftN, if_neg he] at HL
    unfold planV at HW
    generalize placeI p c (nextD s L) = ii at HW HL
    generalize errC ws o p c (nextD s L) = x at HL he ⊢
    generalize nextD s L = q at HN hz HW
    clear h hr hl hn hm h7 f1 f2 f3 f4
    go_enter Try.func68, Try.ntmps68
    go_wp2_with (first
      | (go_at_call 83; refine HN.out.mono ?_; rintro e w1 ⟨rfl, hb⟩; have HB := Lib.hid hb; obtain ⟨c6, c0, c1, c2, c3, c4, c5, cb⟩ := H7.out _ hb; clear hb)
      | (go_at_call 64; refine (HMB.out _).mono ?_; rintro e w2 ⟨rfl, hw⟩; subst w2))
    go_region_held (fun u => u.cell? ⟨b, 0, none⟩ = some (.int .i64 0) ∧ u.cell? ⟨b, 1, none⟩ = some (.int .i64 0) ∧ u.cell? ⟨b, 2, none⟩ = some (.int .i64 0) ∧ u.cell? ⟨b, 3, none⟩ = some (.int .i64 0) ∧ u.cell? ⟨b, 4, none⟩ = some (.int .i64 p) ∧ u.cell? ⟨b, 5, none⟩ = some (.int .i64 0) ∧ u.cell? ⟨b, 6, none⟩ = some (.int .i64 c)) (go_keep) (first | (go_at_call 62; refine (HW.out _).mono ?_; rintro e w2 ⟨rfl, hw⟩; have HB2 : Hid (Below w.heap.size w w2) := below_step (by repeat (first | exact HB.out | refine bl_drew ?_ | refine bl_drewN _ ?_ | refine bl_alloc ?_ _)) hw; obtain ⟨c6, c0, c1, c2, c3, c4, c5, cb⟩ := H7.out _ HB2.out; clear hw))
    go_wp2_with (go_at_call 65; refine (HL.out _ (by repeat (first | exact HB2.out | refine bl_drew ?_ | refine bl_drewN _ ?_ | refine bl_alloc ?_ _))).mono ?_; rintro e w3 ⟨rfl, hm, hc⟩; have HX := Lib.hid (And.intro hm (chg_from (a := w) (by repeat (first | exact HB2.out | refine bl_drew ?_ | refine bl_drewN _ ?_ | refine bl_alloc ?_ _)) hc)); clear hm hc)
    go_ret2
    exact ⟨rfl, HX.out⟩
set_option maxRecDepth 100000 in
set_option maxHeartbeats 2000000 in
theorem dstep_ok (h : MemAt 92 w bm gm ws o n) (hr : DrAt w b p c s L pv cv) (hl : L.length ≤ 3) (hn : 0 ≤ nextD s L ∧ nextD s L ≤ 2) (he : errC ws o p c (nextD s L) = 0) (h1 : b ≠ bm) (h2 : b ≠ gm) (h3 : ∀ g, g ∈ ownL pv → g ≠ bm ∧ g ≠ gm) : Calls Try.prog 68 #[.pointer (some ⟨b, 0, none⟩), .pointer (some ⟨bm, 0, none⟩)] w fun e w' => e = .returned (.tuple #[.bool (decide (nextD s (L ++ [wordC ws p c (nextD s L)]) < 0)), .int .i64 0]) ∧ MemAt 92 w' bm gm ws false (up n) ∧ ∃ pv' cv', DrAt w' b p c s (L ++ [wordC ws p c (nextD s L)]) pv' cv' ∧ (∀ g, g ∈ ownL pv' → g ∈ ownL pv ∨ w.heap.size ≤ g) ∧ Ch (bm :: gm :: b :: ownL pv) w w' := by
  have hm : mayC c = true := by
    cases q : mayC c
    · simp [errC, q] at he
    · rfl
  have HN := Lib.hid (dnext_any hr (by omega))
  have HMB := Lib.hid (refMayBe_any c)
  simp only [hm] at HMB
  obtain ⟨f1, f2, f3, f4, _⟩ := err_same (ws := ws) (o := o) hm p (nextD s L) n
  have HW := Lib.hid (refWord_any 0 0 0 0 p 0 c (nextD s L) (mayC_pos hm) (by omega))
  have HL := Lib.hid (fun (u : World) (k : Below w.heap.size w u) => refLoad_any (h.on k) (placeI p c (nextD s L)))
  simp only [f1, f2, f3, f4, aftO, aftN, if_pos he] at HL
  rw [he] at HL
  have H7 : Hid (∀ u, Below w.heap.size w u → u.cell? ⟨b, 6, none⟩ = some (.int .i64 c) ∧ u.cell? ⟨b, 0, none⟩ = some (.int .i64 0) ∧ u.cell? ⟨b, 1, none⟩ = some (.int .i64 0) ∧ u.cell? ⟨b, 2, none⟩ = some (.int .i64 0) ∧ u.cell? ⟨b, 3, none⟩ = some (.int .i64 0) ∧ u.cell? ⟨b, 4, none⟩ = some (.int .i64 p) ∧ u.cell? ⟨b, 5, none⟩ = some (.int .i64 0) ∧ b < u.heap.size) := fun u k => ⟨(hr.on k).cell 6 _ rfl, (hr.on k).cell 0 _ rfl, (hr.on k).cell 1 _ rfl, (hr.on k).cell 2 _ rfl, (hr.on k).cell 3 _ rfl, (hr.on k).cell 4 _ rfl, (hr.on k).cell 5 _ rfl, (hr.on k).lt⟩
  have HR2 : Hid (∀ u v, Below w.heap.size w u → Chg bm gm u v → DrAt v b p c s L pv cv) := fun u v k q => (hr.on k).keep (q.block b (hr.on k).lt h1 h2) (fun g hg => q.block g (World.ownsRow.lt (hr.on k).row g hg).2 (h3 g (own_mem hg)).1 (h3 g (own_mem hg)).2)
  have hz : ¬ nextD s L < 0 := by omega
  obtain ⟨i0, hi, hz0, hz1, hz2⟩ := info_parts wordInfo
  have HZI := Lib.hid (And.intro hi (And.intro hz0 (And.intro hz1 hz2)))
  have HLL := Lib.hid hl
  unfold planV at HW
  generalize wordC ws p c (nextD s L) = x at HL ⊢
  generalize placeI p c (nextD s L) = ii at HW HL
  generalize nextD s L = q at HN hz HW
  clear h hr hl hn hm he f1 f2 f3 f4 hi hz0 hz1 hz2
  go_enter Try.func68, Try.ntmps68
  go_wp2_with (first
    | (go_at_call 83; refine HN.out.mono ?_; rintro e w1 ⟨rfl, hb⟩; have HB := Lib.hid hb; obtain ⟨c6, c0, c1, c2, c3, c4, c5, cb⟩ := H7.out _ hb; clear hb HN)
    | (go_at_call 64; refine (HMB.out _).mono ?_; rintro e w2 ⟨rfl, hw⟩; subst w2))
  go_region_held (fun u => u.cell? ⟨b, 0, none⟩ = some (.int .i64 0) ∧ u.cell? ⟨b, 1, none⟩ = some (.int .i64 0) ∧ u.cell? ⟨b, 2, none⟩ = some (.int .i64 0) ∧ u.cell? ⟨b, 3, none⟩ = some (.int .i64 0) ∧ u.cell? ⟨b, 4, none⟩ = some (.int .i64 p) ∧ u.cell? ⟨b, 5, none⟩ = some (.int .i64 0) ∧ u.cell? ⟨b, 6, none⟩ = some (.int .i64 c)) (go_keep) (first | (go_at_call 62; refine (HW.out _).mono ?_; rintro e w2 ⟨rfl, hw⟩; have HB2 : Hid (Below w.heap.size w w2) := below_step (by repeat (first | exact HB.out | refine bl_drew ?_ | refine bl_drewN _ ?_ | refine bl_alloc ?_ _)) hw; obtain ⟨c6, c0, c1, c2, c3, c4, c5, cb⟩ := H7.out _ HB2.out; clear hw))
  have HN2 := Lib.hid (fun (u : World) pv' cv' (k : DrAt u b p c s (L ++ [x]) pv' cv') => dnext_any k (by simp; have := HLL.out; omega))
  go_wp2_with (first
    | (go_at_call 65; refine (HL.out _ (by repeat (first | exact HB2.out | refine bl_drew ?_ | refine bl_drewN _ ?_ | refine bl_alloc ?_ _))).mono ?_; rintro e w3 ⟨rfl, hm, hc⟩; have HX := Lib.hid (And.intro hm (And.intro (chg_from (a := w) (by repeat (first | exact HB2.out | refine bl_drew ?_ | refine bl_drewN _ ?_ | refine bl_alloc ?_ _)) hc) (HR2.out _ _ (by repeat (first | exact HB2.out | refine bl_drew ?_ | refine bl_drewN _ ?_ | refine bl_alloc ?_ _)) hc))); have d8 : w3.cell? ⟨b, 8, none⟩ = some (.slice pv L.length cv) := HX.out.2.2.cell 8 _ rfl; have d88 := HX.out.2.2.free 8; have db := HX.out.2.2.lt; clear hm hc)
    | (at_builtin; refine wpList_append_own_at _ rfl _ _ 50 rfl 0 22 i0 (.int .u64 0) 1 8 Try.underlying50 HZI.out.1 HZI.out.2.1 HZI.out.2.2.1 HZI.out.2.2.2 rfl (by decide) _ L.length (u64s L) rfl (World.ownsRow.alloc HX.out.2.2.row _) ⟨w3.heap.size, 0, none⟩ 1 1 [Value.int .u64 x] rfl rfl (cell_one_new _ _ _) (fun u hu => by simp at hu; subst hu; rfl) (by have := HLL.out; unfold maxLen; omega) (by have := HLL.out; omega) (Nat.zero_le _) ?_; intro v4 w4 hown hgrow hnil hat; obtain ⟨pv', cv', hv4, e8, e88, eb, HY⟩ := HX.out.2.2.more hown hgrow hat; subst hv4; clear hown hgrow hnil hat)
    | (go_at_call 83; refine (HN2.out _ _ _ HY.out.1).mono ?_; rintro e w5 ⟨rfl, hb⟩; have HZ := Lib.hid hb; clear hb))
  go_ret2
  refine ⟨by first | rfl | simp, ?_, pv', cv', HY.out.1.on HZ.out, fun g hg => (HY.out.2.1 g hg).imp id (fun q => Nat.le_trans HX.out.2.1.size q), ?_⟩
  · exact (HX.out.1.ch HY.out.2.2 (by simp; exact ⟨Ne.symm h1, fun q => (h3 _ q).1 rfl⟩) (by simp; exact ⟨Ne.symm h2, fun q => (h3 _ q).2 rfl⟩)).on HZ.out
  · exact ((HX.out.2.1.ch (by simp) (by simp)).trans (HY.out.2.2.mono (fun k hk => List.mem_cons_of_mem _ (List.mem_cons_of_mem _ hk)))).trans (ch_of HZ.out _)
/-- a step of the document's read, whatever it is -/
theorem dstep_any (h : MemAt 92 w bm gm ws o n) (hr : DrAt w b p c s L pv cv) (hl : L.length ≤ 4) (hl3 : 0 ≤ nextD s L → L.length ≤ 3) (h1 : b ≠ bm) (h2 : b ≠ gm) (h3 : ∀ g, g ∈ ownL pv → g ≠ bm ∧ g ≠ gm) : Calls Try.prog 68 #[.pointer (some ⟨b, 0, none⟩), .pointer (some ⟨bm, 0, none⟩)] w fun e w' => e = .returned (.tuple #[.bool (endD s p c L ws o), .int .i64 (errD s p c L ws o)]) ∧ MemAt 92 w' bm gm ws (aftO (errD s p c L ws o) o) (aftN (errD s p c L ws o) n) ∧ ∃ pv' cv', DrAt w' b p c s (stepD s p c L ws o) pv' cv' ∧ (∀ g, g ∈ ownL pv' → g ∈ ownL pv ∨ w.heap.size ≤ g) ∧ Ch (bm :: gm :: b :: ownL pv) w w' := by
  rcases nextD_in s L with hn | hn
  · have e1 : errD s p c L ws o = 3 := by simp [errD, hn]
    have e2 : stepD s p c L ws o = L := by simp [stepD, e1]
    have e3 : endD s p c L ws o = false := by simp [endD, e1]
    rw [e3, e2, e1]
    exact (dstep_over hr hl hn).mono fun e w' ⟨he, hb⟩ => ⟨he, h.on hb, pv, cv, hr.on hb, fun g hg => .inl hg, ch_of hb _⟩
  · have hz : ¬ nextD s L < 0 := by omega
    have e1 : errD s p c L ws o = errC ws o p c (nextD s L) := by simp [errD, hz]
    by_cases he : errC ws o p c (nextD s L) = 0
    · have e4 : errD s p c L ws o = 0 := by rw [e1]; exact he
      have e2 : stepD s p c L ws o = L ++ [wordC ws p c (nextD s L)] := by simp [stepD, e4]
      have e3 : endD s p c L ws o = decide (nextD s (L ++ [wordC ws p c (nextD s L)]) < 0) := by simp [endD, e4, e2]
      rw [e3, e2, e4]
      exact dstep_ok h hr (hl3 hn.1) hn he h1 h2 h3
    · have e4 : ¬ errD s p c L ws o = 0 := by rw [e1]; exact he
      have e2 : stepD s p c L ws o = L := by simp [stepD, e4]
      have e3 : endD s p c L ws o = false := by simp [endD, e4]
      rw [e3, e2, aftO, aftN, if_neg e4, if_neg e4, e1]
      exact (dstep_no h hr hl hn he).mono fun e w' ⟨he, hm, hc⟩ => ⟨he, hm, pv, cv, hr.keep (hc.block b hr.lt h1 h2) (fun g hg => hc.block g (World.ownsRow.lt hr.row g hg).2 (h3 g (own_mem hg)).1 (h3 g (own_mem hg)).2), fun g hg => .inl hg, hc.ch (by simp) (by simp)⟩
theorem dsteps_any (h : DrAt w b p c s L pv cv) : Calls Try.prog 71 #[.pointer (some ⟨b, 0, none⟩)] w fun e w' => e = .returned (.int .i64 L.length) ∧ w' = w := by
  have h8 : w.cell? ⟨b, 8, none⟩ = some (.slice pv L.length cv) := h.cell 8 _ rfl
  have hb := h.lt
  clear h
  go_enter Try.func71, Try.ntmps71
  go_wp2
  go_ret
  exact ⟨rfl, rfl⟩
/-- is it torn; what it tells -/
def tornD (L : List Int) : Bool := decide (2 < L.length) && decide (L.getD 2 0 ≠ L.getD 0 0)
def valD (s : Int) (L : List Int) : Nat := if 0 ≤ nextD s L then 0 else if L.length = 3 then fixB (L.getD 1 0).toNat else fixB (L.getD (L.length - 1) 0).toNat
set_option maxRecDepth 100000 in
set_option maxHeartbeats 1000000 in
theorem dtorn_any (h : DrAt w b p c s L pv cv) (hl : L.length ≤ 4) : Calls Try.prog 70 #[.pointer (some ⟨b, 0, none⟩)] w fun e w' => e = .returned (.bool (tornD L)) ∧ Below w.heap.size w w' := by
  have h8 : w.cell? ⟨b, 8, none⟩ = some (.slice pv L.length cv) := h.cell 8 _ rfl
  have hb := h.lt
  unfold tornD
  by_cases h2 : 2 < L.length
  · obtain ⟨g, rfl, hg, hw⟩ := h.word (by omega)
    have x0 := hw 0 (by omega)
    have x2 := hw 2 (by omega)
    have h2' : (2 : Int) < (L.length : Int) := by omega
    have h0' : (0 : Int) < (L.length : Int) := by omega
    generalize L.getD 0 0 = x at x0
    generalize L.getD 2 0 = y at x2
    generalize hll : L.length = ll at *
    rw [decide_eq_true h2]
    clear h hw hl h2 hll
    go_enter Try.func70, Try.ntmps70
    go_wp2
    go_quiet (fail)
    go_wp2
    go_ret
    exact ⟨by rw [← show (y != x) = (true && decide (y ≠ x)) by (rw [Bool.eq_iff_iff]; simp)]; rfl, (by repeat (first | exact Below.refl _ _ | refine bl_drew ?_ | refine bl_drewN _ ?_ | refine bl_alloc ?_ _ | refine bl_setCell ?_ (by simp) _ _ | refine bl_setRow ?_ (by simp) _))⟩
  · have h2' : ¬ (2 : Int) < (L.length : Int) := by omega
    rw [decide_eq_false h2]
    have h2'' : decide ((2 : Int) < (L.length : Int)) = false := decide_eq_false h2'
    generalize hll : L.length = ll at *
    clear h hl h2 hll
    go_enter Try.func70, Try.ntmps70
    go_wp2
    go_quiet (fail)
    go_wp2
    go_ret
    exact ⟨by first | rfl | simp, (by repeat (first | exact Below.refl _ _ | refine bl_drew ?_ | refine bl_drewN _ ?_ | refine bl_alloc ?_ _ | refine bl_setCell ?_ (by simp) _ _ | refine bl_setRow ?_ (by simp) _))⟩
set_option maxRecDepth 100000 in
set_option maxHeartbeats 1000000 in
theorem dvalue_any (h : DrAt w b p c s L pv cv) (hl : L.length ≤ 4) (h1 : nextD s L = -1 → 0 < L.length) : Calls Try.prog 69 #[.pointer (some ⟨b, 0, none⟩)] w fun e w' => e = .returned (.float .f64 (valD s L)) ∧ Below w.heap.size w w' := by
  have HN := Lib.hid (dnext_any h hl)
  have H8 : Hid (∀ u, Below w.heap.size w u → u.cell? ⟨b, 8, none⟩ = some (.slice pv L.length cv) ∧ b < u.heap.size) := fun u k => ⟨(h.on k).cell 8 _ rfl, (h.on k).lt⟩
  unfold valD
  by_cases hz : 0 ≤ nextD s L
  · rw [if_pos hz]
    generalize nextD s L = q at *
    clear h hl h1
    go_enter Try.func69, Try.ntmps69
    go_wp2_with (go_at_call 83; refine HN.out.mono ?_; rintro e w1 ⟨rfl, hb⟩; have HB := Lib.hid hb; obtain ⟨c8, cb⟩ := H8.out _ hb; clear hb)
    go_ret
    exact ⟨rfl, HB.out⟩
  · rw [if_neg hz]
    have hlp : 0 < L.length := h1 (by rcases nextD_in s L with q | q <;> omega)
    have HWD : Hid (∀ u, Below w.heap.size w u → ∃ g, pv = some ⟨g, 0, none⟩ ∧ g < u.heap.size ∧ ∀ j, j < L.length → u.cell? ⟨g, j, none⟩ = some (.int .u64 (L.getD j 0))) := fun u k => (h.on k).word hlp
    obtain ⟨g, hpg, _⟩ := HWD.out w (Below.refl _ _)
    subst hpg
    have HWE : Hid (∀ u, Below w.heap.size w u → g < u.heap.size ∧ ∀ j, j < L.length → u.cell? ⟨g, j, none⟩ = some (.int .u64 (L.getD j 0))) := fun u k => by
      obtain ⟨g', e, r⟩ := HWD.out u k
      injection e with e
      injection e with e
      subst e
      exact r
    have hlz : ¬ ((L.length : Int) = 0) := by omega
    generalize hq : nextD s L = q at HN
    have hqn : ¬ 0 ≤ q := by rw [← hq]; exact hz
    by_cases h3 : L.length = 3
    · rw [if_pos h3]
      have HW1 : Hid (∀ u, Below w.heap.size w u → g < u.heap.size ∧ u.cell? ⟨g, 1, none⟩ = some (.int .u64 (L.getD 1 0))) := fun u k => ⟨(HWE.out u k).1, (HWE.out u k).2 1 (by omega)⟩
      rw [h3] at H8
      generalize L.getD 1 0 = x at HW1 ⊢
      clear h hl h1 hz hlp HWD HWE hq h3 hlz
      go_enter Try.func69, Try.ntmps69
      go_wp2_with (first
        | (go_at_call 83; refine HN.out.mono ?_; rintro e w1 ⟨rfl, hb⟩; have HB := Lib.hid hb; obtain ⟨c8, cb⟩ := H8.out _ hb; obtain ⟨c9, c10⟩ := HW1.out _ hb; clear hb)
        | (go_at_call 51; refine (refOf_int _ _).mono ?_; rintro e w2 ⟨rfl, hw⟩; subst w2))
      go_ret
      exact ⟨rfl, HB.out⟩
    · rw [if_neg h3]
      obtain h4 | h4 | h4 : L.length = 1 ∨ L.length = 2 ∨ L.length = 4 := by omega
      · have HW1 : Hid (∀ u, Below w.heap.size w u → g < u.heap.size ∧ u.cell? ⟨g, 0, none⟩ = some (.int .u64 (L.getD 0 0))) := fun u k => ⟨(HWE.out u k).1, (HWE.out u k).2 0 (by omega)⟩
        rw [h4] at H8 ⊢
        simp only [Nat.reduceSub]
        generalize L.getD 0 0 = x at HW1 ⊢
        clear h hl h1 hz hlp HWD HWE hq h3 hlz h4
        go_enter Try.func69, Try.ntmps69
        go_wp2_with (first
          | (go_at_call 83; refine HN.out.mono ?_; rintro e w1 ⟨rfl, hb⟩; have HB := Lib.hid hb; obtain ⟨c8, cb⟩ := H8.out _ hb; obtain ⟨c9, c10⟩ := HW1.out _ hb; clear hb)
          | (go_at_call 51; refine (refOf_int _ _).mono ?_; rintro e w2 ⟨rfl, hw⟩; subst w2))
        go_ret
        exact ⟨rfl, HB.out⟩
      · have HW1 : Hid (∀ u, Below w.heap.size w u → g < u.heap.size ∧ u.cell? ⟨g, 1, none⟩ = some (.int .u64 (L.getD 1 0))) := fun u k => ⟨(HWE.out u k).1, (HWE.out u k).2 1 (by omega)⟩
        rw [h4] at H8 ⊢
        simp only [Nat.reduceSub]
        generalize L.getD 1 0 = x at HW1 ⊢
        clear h hl h1 hz hlp HWD HWE hq h3 hlz h4
        go_enter Try.func69, Try.ntmps69
        go_wp2_with (first
          | (go_at_call 83; refine HN.out.mono ?_; rintro e w1 ⟨rfl, hb⟩; have HB := Lib.hid hb; obtain ⟨c8, cb⟩ := H8.out _ hb; obtain ⟨c9, c10⟩ := HW1.out _ hb; clear hb)
          | (go_at_call 51; refine (refOf_int _ _).mono ?_; rintro e w2 ⟨rfl, hw⟩; subst w2))
        go_ret
        exact ⟨rfl, HB.out⟩
      · have HW1 : Hid (∀ u, Below w.heap.size w u → g < u.heap.size ∧ u.cell? ⟨g, 3, none⟩ = some (.int .u64 (L.getD 3 0))) := fun u k => ⟨(HWE.out u k).1, (HWE.out u k).2 3 (by omega)⟩
        rw [h4] at H8 ⊢
        simp only [Nat.reduceSub]
        generalize L.getD 3 0 = x at HW1 ⊢
        clear h hl h1 hz hlp HWD HWE hq h3 hlz h4
        go_enter Try.func69, Try.ntmps69
        go_wp2_with (first
          | (go_at_call 83; refine HN.out.mono ?_; rintro e w1 ⟨rfl, hb⟩; have HB := Lib.hid hb; obtain ⟨c8, cb⟩ := H8.out _ hb; obtain ⟨c9, c10⟩ := HW1.out _ hb; clear hb)
          | (go_at_call 51; refine (refOf_int _ _).mono ?_; rintro e w2 ⟨rfl, hw⟩; subst w2))
        go_ret
        exact ⟨rfl, HB.out⟩
end
set_option maxRecDepth 100000 in
theorem dread_any (w : World) (p c s : Int) : Calls Try.prog 66 #[planV 0 0 0 0 p 0, .int .i64 c, .int .u64 s] w fun e w' => ∃ q, e = .returned (.pointer (some ⟨q, 0, none⟩)) ∧ w.heap.size ≤ q ∧ DrAt w' q p c s [] none 0 ∧ Below w.heap.size w w' := by
  unfold planV
  go_enter Try.func66, Try.ntmps66
  go_wp2
  go_ret
  exact ⟨_, rfl, by omega, ⟨alloc_at (by simp), World.ownsRow_nil _ _ _ _, fun g hg => by simp [Value.ownBlock] at hg⟩, bl_alloc (bl_alloc (Below.refl _ _) _) _⟩
end Go.Proofs.Ytmmijcmlnhmooaa
