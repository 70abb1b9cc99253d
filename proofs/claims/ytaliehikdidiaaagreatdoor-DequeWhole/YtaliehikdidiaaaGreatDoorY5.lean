import Derived.Test.YtaliehikdidiaaaGreatDoorY4
namespace Go.Proofs.YtaliehikdidiaaaGreatDoor
open Go.ChangeShapes Go.WideShapes Go.ChangeAt Go.RowKit Num Go.Maps
attribute [local go_sem] run_store_float frombits_run bits_run

theorem one_cells (l : Wr) : ∀ u ∈ i64s (cellsOfL l), u.oneCell' = true := fun u hu => by
  unfold i64s at hu
  obtain ⟨x, _, rfl⟩ := List.mem_map.1 hu
  rfl
section
variable {w : World} {b : Nat} {F : List Nat} {m : Int} {l : Wr}
/-- a buffer made about a map and a row -/
theorem buf_about {w1 w2 : World} {c B bm : Nat} {p : Option Addr} (h : Buf w b F m l) (hm : MapAt w1 bm l) (hr : RowAt 3 w1 p c (i64s (cellsOfL l))) (hn : bm ∉ fpR p) (ha : Abv B (fpR p)) (hB : B ≤ bm) (h2 : w2.heap = (w1.alloc (.cells #[.int .i64 m, .map (some bm), .slice p l.length c] 165)).heap) :
    Buf w2 w1.heap.size (w1.heap.size :: bm :: fpR p) m l ∧ Abv B (w1.heap.size :: bm :: fpR p) := by
  have hlt := hm.lt
  refine ⟨⟨bm, p, c, ⟨by rw [h2]; exact heap_alloc_new _ _, hr.keep ⟨by rw [h2]; simp, fun k hk => by rw [h2]; exact Below.heap_alloc _ _ _ (hr.blw k hk)⟩, hm.keep (by rw [h2]; exact Below.heap_alloc _ _ _ hlt), fun q => absurd (hr.blw _ q) (Nat.lt_irrefl _), hn, by omega, h.few.1, h.few.2, h.nod, h.wfs⟩, rfl⟩, fun k hk => ?_⟩
  rcases List.mem_cons.1 hk with rfl | q
  · omega
  · rcases List.mem_cons.1 q with rfl | q
    · exact hB
    · exact ha k q
/-- a row under way: k of them are laid -/
theorem row_step {cur : Array Value} {k n : Nat} {l : Wr} (hs : cur.size = n * 2) (ht : cur.toList.take (k * 2) = (l.take k).flatMap tchC) (hk : k < n) (hn : l.length = n) : ((cur.setIfInBounds (k * 2) (.int .i64 (l.getD k (0, 0)).1)).setIfInBounds (k * 2 + 1) (.float .f64 (l.getD k (0, 0)).2)).toList.take ((k + 1) * 2) = (l.take (k + 1)).flatMap tchC := by
  rw [take_tch l k (by omega), ← ht]
  rw [Array.toList_setIfInBounds, Array.toList_setIfInBounds]
  have hl : cur.toList.length = n * 2 := by simpa using hs
  generalize cur.toList = t at hl
  apply List.ext_getElem?
  intro j
  have e2 : (t.take (k * 2)).length = k * 2 := by simp; omega
  rw [List.getElem?_take]
  by_cases h1 : j < k * 2
  · rw [if_pos (by omega), List.getElem?_set_ne (by omega), List.getElem?_set_ne (by omega), List.getElem?_append_left (by omega), List.getElem?_take, if_pos h1]
  · rw [List.getElem?_append_right (by omega), e2]
    by_cases h2 : j = k * 2
    · subst h2
      rw [if_pos (by omega), List.getElem?_set_ne (by omega), List.getElem?_set_self (by omega)]
      simp
    · by_cases h3 : j = k * 2 + 1
      · subst h3
        rw [if_pos (by omega), List.getElem?_set_self (by simp; omega)]
        simp
      · rw [if_neg (by omega)]
        symm
        rw [List.getElem?_eq_none (by simp; omega)]
theorem tMake (n : Nat) (hn : n ≤ 32) : ∃ cur : Array Value, cur.size = n * 2 ∧ ∀ w : World, (Instr.makeSlice 60 (.int .i64 (n : Int)) (.int .i64 (n : Int))).run Tryz.prog w = .ok (.slice (some ⟨w.heap.size, 0, none⟩) n n) (w.alloc (.cells cur 123)) := by
  obtain ⟨i, hi, hz0, hz1, hz2⟩ := info_parts tInfo
  refine ⟨madeCells (Value.agg #[.int .i64 0, .float .f64 0]).cells (n * 2), size_madeCells _ _, fun w => ?_⟩
  rw [run_make w 60 123 i _ Tryz.underlying60 hi hz0 .i64 .i64 n n (by omega) (Int.le_refl _) (by rw [hz2]; omega) (by omega), hz1, Int.toNat_natCast]
/-- of a row under way: its next two cells -/
theorem row_two {w : World} {g n k : Nat} {cur : Array Value} {T : TypeId} (h : w.heap[g]? = some (.cells cur T (0, 0))) (hs : cur.size = n * 2) (hk : k < n) : ∃ u v, w.cell? ⟨g, k * 2, none⟩ = some u ∧ w.cell? ⟨g, k * 2 + 1, none⟩ = some v ∧ w.frozen? ⟨g, k * 2, none⟩ = false ∧ w.frozen? ⟨g, k * 2 + 1, none⟩ = false := by
  refine ⟨cur[k * 2]'(by omega), cur[k * 2 + 1]'(by omega), ?_, ?_, frozen_of_row w g _ _ _ h, frozen_of_row w g _ _ _ h⟩
  · rw [cell_of_row w g _ _ _ _ h]; simp [show k * 2 < cur.size by omega]
  · rw [cell_of_row w g _ _ _ _ h]; simp [show k * 2 + 1 < cur.size by omega]
set_option maxHeartbeats 1000000 in
set_option maxRecDepth 100000 in
theorem all_any' (h : Buf w b F m l) {n : Nat} (hn : l.length = n) : Calls Tryz.prog 95 #[.pointer (some ⟨b, 0, none⟩)] w fun e w' => e = .returned (.slice (some ⟨w.heap.size, 0, none⟩) n n) ∧ TRow w' (some ⟨w.heap.size, 0, none⟩) n l ∧ Below w.heap.size w w' := by
  have hn32 : n ≤ 32 := by have := h.few; omega
  obtain ⟨cur0, hc0, hmk⟩ := tMake n hn32
  have HB := Lib.hid h
  obtain ⟨bm, p, c, hs, rfl⟩ := h
  have h1 := hs.cell1
  have h2 := hs.cell2
  rw [hn] at h2
  have hb := hs.ltB
  have HC : Hid (∀ wr, Below w.heap.size w wr → ∀ k, k < n → ∃ g, p = some ⟨g, 0, none⟩ ∧ g < wr.heap.size ∧ wr.cell? ⟨g, k, none⟩ = some (.int .i64 (l.getD k (0, 0)).1) ∧ wr.cell? ⟨b, 1, none⟩ = some (.map (some bm)) ∧ b < wr.heap.size ∧ (Instr.lookup 162 (.map (some bm)) (.int .i64 (l.getD k (0, 0)).1) false).run Tryz.prog wr = .ok (.float .f64 (l.getD k (0, 0)).2) wr) := fun wr hbw k hk => by
    have hw := hs.keep (kept_below hbw hs.blw)
    have hkl : k < l.length := by omega
    have e : l.getD k (0, 0) = l[k] := by simp [hkl]
    rw [e]
    have ho := hw.row.own
    rw [i64s_len, cells_len] at ho
    rcases ho.2 with ⟨_, q⟩ | ⟨g, cap, cur, hv, _, hg, _⟩
    · omega
    · cases hv
      refine ⟨g, rfl, lt_of_block hg, ?_, hw.cell1, hw.ltB, ?_⟩
      · rw [ho.cellAt k (by omega)]
        simp [i64s, cellsOfL, hkl]
      · have := hw.map.look1 (c := l[k].1) (hw.wfs _ (List.getElem_mem hkl))
        rw [getC_of hw.nod hkl] at this
        exact this
  have HN : Hid (l.length = n) := hn
  clear hs hn
  have HC0 := Lib.hid hc0
  clear hc0
  go_enter Tryz.func95, Tryz.ntmps95
  go_wp2
  go_loopw [17] (fun vi wr => ∃ (k : Nat) (cur : Array Value), vi = .int .i64 k ∧ k ≤ n ∧ Hid (wr.heap[w.heap.size]? = some (.cells cur 123 (0, 0))) ∧ Hid (cur.size = n * 2) ∧ Hid (cur.toList.take (k * 2) = (l.take k).flatMap tchC) ∧ Hid (Below w.heap.size w wr)) (fun vi _ => n - (intOf vi).toNat)
  case atStart => exact ⟨0, cur0, rfl, Nat.zero_le _, heap_alloc_new _ _, HC0, by show _ = _; simp, below_alloc _ _⟩
  case round =>
    obtain ⟨k, cur, rfl, hk, HG, HS, HT, HBL⟩ := hrel
    by_cases hlt : k < n
    · have hlt' : (k : Int) < (n : Int) := by omega
      obtain ⟨g, hpg, hg, hx, hbm, hbw, hlk⟩ := HC.out _ HBL.out k hlt
      subst hpg
      obtain ⟨u, v, k0, k1, f0, f1⟩ := row_two HG.out HS.out hlt
      have hgg : w.heap.size < wr.heap.size := lt_of_block HG.out
      have HF : Hid (((cur.setIfInBounds (k * 2) (.int .i64 (l.getD k (0, 0)).1)).setIfInBounds (k * 2 + 1) (.float .f64 (l.getD k (0, 0)).2)).toList.take ((k + 1) * 2) = (l.take (k + 1)).flatMap tchC) := row_step HS.out HT.out hlt HN.out
      generalize (l.getD k (0, 0)).1 = x at hx hlk HF
      generalize (l.getD k (0, 0)).2 = y at hlk HF
      have HG2 : Hid (((wr.setCell ⟨w.heap.size, k * 2, none⟩ (.int .i64 x)).setCell ⟨w.heap.size, k * 2 + 1, none⟩ (.float .f64 y)).heap[w.heap.size]? = some (.cells ((cur.setIfInBounds (k * 2) (.int .i64 x)).setIfInBounds (k * 2 + 1) (.float .f64 y)) 123 (0, 0))) := heap_setCell_same _ _ _ _ _ _ (heap_setCell_same _ _ _ _ _ _ HG.out)
      have HB2 : Hid (Below w.heap.size w ((wr.setCell ⟨w.heap.size, k * 2, none⟩ (.int .i64 x)).setCell ⟨w.heap.size, k * 2 + 1, none⟩ (.float .f64 y))) := HBL.out.trans ⟨rfl, rfl, rfl, by simp, fun j hj => by rw [heap_setCell_other _ _ _ _ (by simp; omega), heap_setCell_other _ _ _ _ (by simp; omega)]⟩
      clear HC
      go_wp2
      exact ⟨⟨k + 1, _, by first | rfl | (congr 1), by omega, HG2, by show _ = _; simp; exact HS.out, HF, HB2⟩, by simp [intOf]; omega⟩
    · have hlt' : ¬ (k : Int) < (n : Int) := by omega
      have e : k = n := by omega
      subst e
      have hT := HT.out
      rw [← HN.out, List.take_length, HN.out] at hT
      have HF : Hid (TRow wr (some ⟨w.heap.size, 0, none⟩) k l) := ⟨⟨by rw [tch_len], .inr ⟨w.heap.size, k, cur, rfl, Nat.zero_le _, HG.out, by rw [HN.out]; exact Nat.le_refl _, by unfold maxLen; omega, by rw [HS.out], by rw [HN.out]; exact hT⟩⟩⟩
      clear hT HC hlt
      go_wp2
      go_ret
      exact ⟨rfl, HF.out, HBL.out⟩
theorem all_any (h : Buf w b F m l) : Calls Tryz.prog 95 #[.pointer (some ⟨b, 0, none⟩)] w fun e w' => e = .returned (.slice (some ⟨w.heap.size, 0, none⟩) l.length l.length) ∧ TRow w' (some ⟨w.heap.size, 0, none⟩) l.length l ∧ Below w.heap.size w w' := all_any' h rfl
end
end Go.Proofs.YtaliehikdidiaaaGreatDoor
