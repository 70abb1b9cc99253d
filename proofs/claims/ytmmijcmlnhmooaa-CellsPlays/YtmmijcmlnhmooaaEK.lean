import Derived.Test.YtmmijcmlnhmooaaEC
namespace Go.Proofs.Ytmmijcmlnhmooaa
open Go.ChangeShapes Go.WideShapes Go.ChangeAt Go.RowKit Num

theorem place0 (c j : Nat) : placeI 0 c j = ((3 * c + j : Nat) : Int) := by simp [placeI]
theorem err9 {ws : List Int} (hl : ws.length = 9) {c j : Nat} (hc : c < 3) (hj : j < 3) : errC ws true 0 c j = 0 ∧ errC ws false 0 c j = 31 := by
  have h1 : mayC c = true := mayC_nat (by omega)
  have h2 : hasB ws (placeI 0 c j) = true := by rw [place0]; unfold hasB; exact decide_eq_true ⟨by omega, by omega⟩
  simp [errC, h1, errA, h2]
theorem wrd_nat (k : Nat) : ∃ j : Nat, j < 3 ∧ wrd k = j := ⟨(wrd k).toNat, by have := wrd_in k; omega, by have := wrd_in k; omega⟩
/-- how a read stands behind i steps, so long as it is not over -/
def CostI (c i : Nat) (r : Rd) : Prop := r.p = 0 ∧ r.c = c ∧ r.n = i ∧ (i = 0 ∧ r.k = 0 ∨ i = 1 ∧ (r.k = 1 ∨ r.k = 3) ∨ i = 2 ∧ r.k = 2 ∨ i = 3 ∧ r.k = 3)
theorem CostI.lt {c i : Nat} {r : Rd} (h : CostI c i r) : r.k < 4 ∧ i < 4 := by
  obtain ⟨_, _, _, h⟩ := h
  rcases h with ⟨h1, h2⟩ | ⟨h1, h2 | h2⟩ | ⟨h1, h2⟩ | ⟨h1, h2⟩ <;> omega
theorem CostI.err {c i : Nat} {r : Rd} {ws : List Int} (h : CostI c i r) (hc : c < 3) (hl : ws.length = 9) : errR r ws true = 0 ∧ errR r ws false = 31 := by
  obtain ⟨j, hj, e⟩ := wrd_nat r.k
  have := err9 hl hc hj
  have hk := h.lt.1
  simp only [errR, hk, if_true, h.1, h.2.1, e]
  exact this
theorem up_small (i : Nat) (h : i < 4) : up (i : Int) = ((i + 1 : Nat) : Int) := by
  unfold up
  rw [Go.IntWalk.wrap64_in _ ⟨by omega, by omega⟩]
  omega
theorem CostI.next {c i : Nat} {r : Rd} {ws : List Int} (h : CostI c i r) (hc : c < 3) (hl : ws.length = 9) : endR r ws true = true ∧ i ≠ 0 ∧ ¬ (stepR r ws true).k < 4 ∧ (stepR r ws true).n = ((i + 1 : Nat) : Int) ∨ endR r ws true = false ∧ i ≠ 3 ∧ CostI c (i + 1) (stepR r ws true) := by
  have he := (h.err hc hl).1
  have hn := up_small i h.lt.2
  have hs : stepR r ws true = nxt r (wordC ws r.p r.c (wrd r.k)) := by simp [stepR, he]
  have hd : endR r ws true = decide (4 ≤ (nxt r (wordC ws r.p r.c (wrd r.k))).k) := by simp [endR, he, hs]
  rw [hd, hs]
  generalize wordC ws r.p r.c (wrd r.k) = u
  obtain ⟨p, cc, s, k, v, x, y, m, t⟩ := r
  obtain ⟨h1, h2, h3, h4⟩ := h
  simp only at h1 h2 h3 h4
  subst h1 h2 h3
  rcases h4 with ⟨rfl, rfl⟩ | ⟨rfl, rfl | rfl⟩ | ⟨rfl, rfl⟩ | ⟨rfl, rfl⟩
  · refine .inr ⟨?_, by omega, ?_⟩
    · unfold nxt nx0; simp; split <;> omega
    · unfold nxt nx0 CostI; simp; exact ⟨hn, by omega⟩
  · exact .inr ⟨by simp [nxt, nx0], by omega, by unfold nxt nx0 CostI; simp; exact hn⟩
  · exact .inl ⟨by simp [nxt, nx0], by omega, by simp [nxt, nx0], by simp only [nxt]; exact hn⟩
  · by_cases hu : u = v
    · exact .inl ⟨by simp [nxt, nx0, hu], by omega, by simp [nxt, nx0, hu], by simp only [nxt]; exact hn⟩
    · exact .inr ⟨by simp [nxt, nx0, hu], by omega, by unfold nxt nx0 CostI; simp [hu]; exact hn⟩
  · exact .inl ⟨by simp [nxt, nx0], by omega, by simp [nxt, nx0], by simp only [nxt]; exact hn⟩
theorem poked_len (ws : List Int) (i v : Int) : (poked ws i v).length = ws.length := by unfold poked; split <;> simp
/-- a write of the cell c behind j steps, and what the words are then -/
def wt9 (c : Nat) (b v : Int) (j : Nat) : Wt := ⟨0, c, b, v, b, j⟩
def W9 (c : Nat) (b v : Int) (j : Nat) (ws : List Int) : Prop := ws.length = 9 ∧ (1 ≤ j → wordC ws 0 c 2 = b) ∧ (2 ≤ j → wordC ws 0 c 0 = v) ∧ (3 ≤ j → wordC ws 0 c 1 = b)
theorem word_store {ws : List Int} (hl : ws.length = 9) {c i j : Nat} (hc : c < 3) (hi : i < 3) (hj : j < 3) (v : Int) : wordC (storeC ws 0 c i v) 0 c j = if i = j then v else wordC ws 0 c j := by
  unfold wordC storeC wordAt
  rw [place0, place0]
  simp only [Int.toNat_natCast]
  by_cases e : i = j
  · subst e
    simp [hl, show 3 * c + i < 9 by omega]
  · rw [if_neg e, List.getD_eq_getElem?_getD, List.getD_eq_getElem?_getD, List.getElem?_set_ne (by omega)]
theorem store_len (ws : List Int) (p c j v : Int) : (storeC ws p c j v).length = ws.length := by simp [storeC]
theorem wt9_step {ws : List Int} {c j : Nat} {b v : Int} (hc : c < 3) (hj : j < 3) (h : W9 c b v j ws) : errW (wt9 c b v j) ws true = 0 ∧ endW (wt9 c b v j) ws true = decide (j = 2) ∧ stepW (wt9 c b v j) ws true = wt9 c b v (j + 1) ∧ W9 c b v (j + 1) (laidW (wt9 c b v j) ws true) := by
  obtain ⟨hl, h1, h2, h3⟩ := h
  have e2 := (err9 hl hc (show 2 < 3 by omega)).1
  have e0 := (err9 hl hc (show 0 < 3 by omega)).1
  have e1 := (err9 hl hc (show 1 < 3 by omega)).1
  have : j = 0 ∨ j = 1 ∨ j = 2 := by omega
  rcases this with rfl | rfl | rfl
  · have ee : errW (wt9 c b v 0) ws true = 0 := by simpa [errW, wt9, wordW] using e2
    refine ⟨ee, by rw [endW, decide_eq_true ee]; rfl, by rw [stepW, if_pos ee]; rfl, ?_⟩
    have hw : laidW (wt9 c b v 0) ws true = storeC ws 0 c 2 b := by rw [laidW, if_pos ee]; rfl
    rw [hw]
    exact ⟨by rw [store_len]; exact hl, fun _ => by have := word_store hl hc (show 2 < 3 by omega) (show 2 < 3 by omega) b; simpa using this, fun q => by omega, fun q => by omega⟩
  · have ee : errW (wt9 c b v 1) ws true = 0 := by simpa [errW, wt9, wordW] using e0
    refine ⟨ee, by rw [endW, decide_eq_true ee]; rfl, by rw [stepW, if_pos ee]; rfl, ?_⟩
    have hw : laidW (wt9 c b v 1) ws true = storeC ws 0 c 0 v := by rw [laidW, if_pos ee]; rfl
    rw [hw]
    exact ⟨by rw [store_len]; exact hl, fun _ => by have := word_store hl hc (show 0 < 3 by omega) (show 2 < 3 by omega) v; simp at this; rw [this]; exact h1 (by omega), fun _ => by have := word_store hl hc (show 0 < 3 by omega) (show 0 < 3 by omega) v; simpa using this, fun q => by omega⟩
  · have ee : errW (wt9 c b v 2) ws true = 0 := by simpa [errW, wt9, wordW] using e1
    refine ⟨ee, by rw [endW, decide_eq_true ee]; rfl, by rw [stepW, if_pos ee]; rfl, ?_⟩
    have hw : laidW (wt9 c b v 2) ws true = storeC ws 0 c 1 b := by rw [laidW, if_pos ee]; rfl
    rw [hw]
    exact ⟨by rw [store_len]; exact hl, fun _ => by have := word_store hl hc (show 1 < 3 by omega) (show 2 < 3 by omega) b; simp at this; rw [this]; exact h1 (by omega), fun _ => by have := word_store hl hc (show 1 < 3 by omega) (show 0 < 3 by omega) b; simp at this; rw [this]; exact h2 (by omega), fun _ => by have := word_store hl hc (show 1 < 3 by omega) (show 1 < 3 by omega) b; simpa using this⟩
theorem peek9 {ws : List Int} {c : Nat} {b v : Int} (hc : c < 3) (h : W9 c b v 3 ws) : peekE ws 0 c = 0 ∧ peekW ws 0 c 0 = v ∧ peekW ws 0 c 1 = b ∧ peekW ws 0 c 2 = b := by
  obtain ⟨hl, h1, h2, h3⟩ := h
  have hm : mayC c = true := mayC_nat (by omega)
  have hb : ∀ j : Nat, j < 3 → hasB ws (placeI 0 c j) = true := fun j hj => by rw [place0]; unfold hasB; exact decide_eq_true ⟨by omega, by omega⟩
  have ho : okP ws 0 c = true := by
    have b0 := hb 0 (by omega)
    have b1 := hb 1 (by omega)
    have b2 := hb 2 (by omega)
    simp at b0 b1 b2
    simp [okP, b0, b1, b2]
  have e : peekE ws 0 c = 0 := by simp [peekE, hm, ho]
  exact ⟨e, by simp [peekW, e, h2], by simp [peekW, e, h3], by simp [peekW, e, h1]⟩
theorem cost_cell (k : Int) : (∃ c : Nat, c < 3 ∧ k.tmod 3 = (c : Int)) ∨ ∃ c : Nat, c < 3 ∧ k.tmod 3 = (c : Int) - 3 ∧ k.tmod 3 < 0 := by
  have h1 : -3 < k.tmod 3 := Int.lt_tmod_of_pos k (by decide)
  have h2 : k.tmod 3 < 3 := Int.tmod_lt_of_pos k (by decide)
  by_cases h : k.tmod 3 < 0
  · exact .inr ⟨(k.tmod 3 + 3).toNat, by omega, by omega, h⟩
  · exact .inl ⟨(k.tmod 3).toNat, by omega, by omega⟩
theorem box5 {w : World} {x : Nat} {v0 v1 v2 v3 v4 : Value} {T : TypeId} (h : w.heap[x]? = some (.cells #[v0, v1, v2, v3, v4] T (0, 0))) : w.cell? ⟨x, 0, none⟩ = some v0 ∧ w.cell? ⟨x, 1, none⟩ = some v1 ∧ w.cell? ⟨x, 2, none⟩ = some v2 ∧ w.cell? ⟨x, 3, none⟩ = some v3 ∧ w.cell? ⟨x, 4, none⟩ = some v4 ∧ x < w.heap.size :=
  ⟨by rw [cell_of_row w x 0 _ _ _ h]; rfl, by rw [cell_of_row w x 1 _ _ _ h]; rfl, by rw [cell_of_row w x 2 _ _ _ h]; rfl, by rw [cell_of_row w x 3 _ _ _ h]; rfl, by rw [cell_of_row w x 4 _ _ _ h]; rfl, lt_of_block h⟩
set_option maxRecDepth 100000 in
theorem trip_eq9 (x0 x1 x2 : Int) (w : World) : (Op.equalIn 10000 24 (.agg #[.int .u64 x0, .int .u64 x1, .int .u64 x2]) (.agg #[.int .u64 x0, .int .u64 x1, .int .u64 x2])).run Try.prog w = .ok true w := by
  have u3 := Try.underlying22
  have a3 := Try.isAgg22
  have z3 := Try.sizeOf22
  have hS : Try.prog.underlying 24 = some (.struct (Try.prog.fieldsOf 24)) := by kernel_rfl
  rw [show (10000 : Nat) = 9999 + 1 from rfl, run_equalIn_agg w 9999 24 _ _ hS (by kernel_rfl)]
  simp only [Program.fieldsOf, Try.underlying24]
  go_simp
end Go.Proofs.Ytmmijcmlnhmooaa
