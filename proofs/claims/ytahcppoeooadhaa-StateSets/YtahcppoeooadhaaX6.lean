import Derived.Test.YtahcppoeooadhaaX5
namespace Go.Proofs.Ytahcppoeooadhaa
open Go.ChangeShapes Go.WideShapes Go.ChangeAt Go.RowKit Num
attribute [local go_sem] run_store_float frombits_run bits_run

/-- a number more: behind append, ahead of the store -/
theorem CelAt.more {T : TypeId} {w w3 : World} {b c : Nat} {p : Option Addr} {l : List Nat} {v : Value} {x : Nat} {o : Obj} (h : CelAt T w b p c l) (hown : w3.ownsRow 0 44 1 v (l.length + 1) (fls l ++ [.float .f64 x])) (hg : (w.alloc o).grownBy w3 (Value.slice p l.length c).ownBlock) (hat : v.ownBlock = (Value.slice p l.length c).ownBlock ∨ v.ownBlock = some (w.alloc o).heap.size) (hf : l.length < 256) :
    ∃ p' c', v = .slice p' (l.length + 1) c' ∧ CelAt T (w3.setCell ⟨b, 0, none⟩ (.slice p' (l.length + 1) c')) b p' c' (l ++ [x]) ∧ Turn (b :: fpR p) (b :: fpR p') w (w3.setCell ⟨b, 0, none⟩ (.slice p' (l.length + 1) c')) ∧ w3.cell? ⟨b, 0, none⟩ = some (.slice p l.length c) ∧ w3.frozen? ⟨b, 0, none⟩ = false ∧ b < w3.heap.size := by
  obtain ⟨p', c', rfl, hr⟩ := ownsRow_slice hown
  have hl : (fls l ++ [Value.float .f64 x]).length = l.length + 1 := by simp [fls_len]
  have g : w.grownBy w3 (Value.slice p l.length c).ownBlock := (World.grownBy_alloc w o _).trans hg
  have ho : ∀ k, k ∈ fpR p' → k ∈ fpR p ∨ w.heap.size ≤ k := own_at hat (by simp)
  have hbox : w3.heap[b]? = some (.cells #[.slice p l.length c] T (0, 0)) := (g.block b h.ltB (fun q => h.ne (own_fpR.2 q.symm))).trans h.box
  have hne : b ∉ fpR p' := fun q => (ho b q).elim h.ne (fun z => absurd h.ltB (Nat.not_lt.2 z))
  rw [hl]
  refine ⟨p', c', rfl, ⟨?_, ?_, hne, by simp; omega⟩, ?_, by rw [cell_of_row w3 b 0 _ _ _ hbox]; rfl, frozen_of_row w3 b 0 _ _ hbox, lt_of_block hbox⟩
  · rw [heap_setCell_same w3 b 0 _ T _ hbox, List.length_append]
    rfl
  · rw [fls_snoc]
    exact hr.keep ⟨by simp, fun k hk => heap_setCell_other _ _ _ _ (by rintro rfl; exact hne hk)⟩
  · refine ⟨g.os, g.tape, g.output, by simpa using g.size, fun k hk hn => ?_, fun k hk => ?_⟩
    · rw [List.mem_cons, not_or] at hn
      exact (heap_setCell_other _ _ _ _ (by simpa using hn.1)).trans (g.block k hk (fun q => hn.2 (own_fpR.2 q.symm)))
    · rcases List.mem_cons.1 hk with rfl | q
      · exact .inl (List.mem_cons_self ..)
      · exact (ho k q).imp (List.mem_cons_of_mem _) id
theorem take_map (f : Nat → Nat) (l : List Nat) (k : Nat) (h : k < l.length) : (l.take (k + 1)).map f = (l.take k).map f ++ [f (l.getD k 0)] := by
  rw [List.take_succ_eq_append_getElem h, List.map_append, show l.getD k 0 = l[k] by simp [h]]
  rfl
theorem refNew_none {n : Int} (hn : mayN n = false) (w : World) : Calls Try.prog 11 #[.int .i64 n] w fun e w' => e = .returned (.tuple #[.pointer none, .int .i64 1]) ∧ w' = w := by
  unfold mayN at hn
  simp at hn
  by_cases h1 : n < 1
  · go_enter Try.func11, Try.ntmps11
    go_wp2
    go_ret2
    exact ⟨rfl, rfl⟩
  · have h2 : 256 < n := hn (by omega)
    clear hn
    go_enter Try.func11, Try.ntmps11
    go_wp2
    go_ret2
    exact ⟨rfl, rfl⟩
set_option maxRecDepth 100000 in
theorem refNew_some {n : Nat} (hn : mayN n = true) (w : World) : Calls Try.prog 11 #[.int .i64 n] w fun e w' => ∃ b F, e = .returned (.tuple #[.pointer (some ⟨b, 0, none⟩), .int .i64 0]) ∧ Cel 56 w' b F (List.replicate n 0) ∧ Abv w.heap.size F ∧ Below w.heap.size w w' := by
  have h2 : n ≤ 256 := by unfold mayN at hn; simp at hn; omega
  have h1 : ¬ (n : Int) < 1 := by unfold mayN at hn; simp at hn; omega
  have h3 : ¬ 256 < (n : Int) := by omega
  have hmk := fMake n h2
  have HN := Lib.hid h2
  clear h2 hn
  go_enter Try.func11, Try.ntmps11
  go_wp2
  go_ret2
  have hr : RowAt 44 (w.alloc (.cells (fls (List.replicate n 0)).toArray 44)) (some ⟨w.heap.size, 0, none⟩) n (fls (List.replicate n 0)) := ⟨⟨by simp, .inr ⟨w.heap.size, n, (fls (List.replicate n 0)).toArray, by rw [fls_len, List.length_replicate], Nat.zero_le _, heap_alloc_new _ _, by rw [fls_len, List.length_replicate]; exact Nat.le_refl _, by unfold maxLen; have := HN.out; omega, by simp [fls_len], by simp⟩⟩⟩
  have q := cel_about (T := 56) (w2 := (w.alloc (.cells (fls (List.replicate n 0)).toArray 44)).alloc (.cells #[.slice (some ⟨w.heap.size, 0, none⟩) n n] 56)) (B := w.heap.size) hr (abv_new _) (by simp) (by rw [List.length_replicate]; exact HN.out) (by rw [List.length_replicate])
  first
  | exact ⟨_, _, by simp, q.1.cel, q.2, ((Below.refl _ _).alloc (Nat.le_refl _) _).alloc (by simp) _⟩
  | exact ⟨_, by simp, _, q.1.cel, q.2, ((Below.refl _ _).alloc (Nat.le_refl _) _).alloc (by simp) _⟩
section
variable {w : World} {b : Nat} {F : List Nat} {l : List Nat}
theorem refLen_any (h : Cel 56 w b F l) : Calls Try.prog 28 #[.pointer (some ⟨b, 0, none⟩)] w fun e w' => e = .returned (.int .i64 l.length) ∧ w' = w := by
  obtain ⟨p, c, hs, rfl⟩ := h
  have h0 := hs.cell0
  have hb := hs.ltB
  clear hs
  go_enter Try.func28, Try.ntmps28
  go_wp2
  go_ret
  exact ⟨rfl, rfl⟩
theorem hasN_neg {n : Nat} {i : Int} (h : hasN n i = false) : i < 0 ∨ (¬ i < 0 ∧ (n : Int) ≤ i) := by
  unfold hasN at h
  simp at h
  by_cases q : i < 0
  · exact .inl q
  · exact .inr ⟨q, h (by omega)⟩
theorem refGet_any (h : Cel 56 w b F l) (i : Int) : Calls Try.prog 36 #[.pointer (some ⟨b, 0, none⟩), .int .i64 i] w fun e w' => e = .returned (.tuple #[.float .f64 (getV l i), .int .i64 (cellE l.length i)]) ∧ w' = w := by
  obtain ⟨p, c, hs, rfl⟩ := h
  have h0 := hs.cell0
  have hb := hs.ltB
  unfold getV cellE
  cases hh : hasN l.length i
  · clear hs
    rcases hasN_neg hh with q | ⟨q, q2⟩
    · go_enter Try.func36, Try.ntmps36
      go_wp2
      go_ret2
      exact ⟨rfl, rfl⟩
    · go_enter Try.func36, Try.ntmps36
      go_wp2
      go_ret2
      exact ⟨rfl, rfl⟩
  · obtain ⟨k, rfl, hk⟩ := hasN_pos hh
    obtain ⟨g, rfl, hg, hx, _⟩ := row_num hs.row k hk
    have hk2 : (k : Int) < (l.length : Int) := by omega
    have hk3 : ¬ (l.length : Int) ≤ (k : Int) := by omega
    have hk0 : ¬ (k : Int) < 0 := by omega
    have hv : l.getD (k : Int).toNat 0 = l[k] := by simp [hk]
    rw [hv]
    generalize l[k] = x at *
    clear hv hs
    go_enter Try.func36, Try.ntmps36
    go_wp2
    go_ret2
    exact ⟨rfl, rfl⟩
set_option maxRecDepth 100000 in
theorem refSet_any (h : Cel 56 w b F l) (i : Int) (x : Nat) : Calls Try.prog 37 #[.pointer (some ⟨b, 0, none⟩), .int .i64 i, .float .f64 x] w fun e w' => e = .returned (.int .i64 (cellE l.length i)) ∧ Cel 56 w' b F (setL l i x) ∧ Turn F F w w' := by
  have HC := Lib.hid h
  obtain ⟨p, c, hs, rfl⟩ := h
  have h0 := hs.cell0
  have hb := hs.ltB
  unfold setL cellE
  cases hh : hasN l.length i
  · clear hs
    rcases hasN_neg hh with q | ⟨q, q2⟩
    · go_enter Try.func37, Try.ntmps37
      go_wp2
      go_ret
      exact ⟨rfl, HC.out, Turn.refl _ _⟩
    · go_enter Try.func37, Try.ntmps37
      go_wp2
      go_ret
      exact ⟨rfl, HC.out, Turn.refl _ _⟩
  · obtain ⟨k, rfl, hk⟩ := hasN_pos hh
    obtain ⟨g, rfl, hg, hx, hf⟩ := row_num hs.row k hk
    have hk2 : (k : Int) < (l.length : Int) := by omega
    have hk3 : ¬ (l.length : Int) ≤ (k : Int) := by omega
    have hk0 : ¬ (k : Int) < 0 := by omega
    have HS : Hid (∀ w1, Same w w1 → CelAt 56 (w1.setCell ⟨g, k, none⟩ (.float .f64 (fixB x))) b (some ⟨g, 0, none⟩) c (l.set k (fixB x)) ∧ Turn [b, g] [b, g] w (w1.setCell ⟨g, k, none⟩ (.float .f64 (fixB x)))) := fun w1 k1 => by
      have q := (hs.same k1).lay k (fixB x)
      exact ⟨q.1, (k1.turn _).trans q.2⟩
    generalize l[k] = y at *
    clear hs HC
    go_enter Try.func37, Try.ntmps37
    go_wp2
    go_region_with (go_at_call 31; refine (refFix_any _ _).mono ?_; rintro e w' ⟨rfl, hw⟩; subst w')
    all_goals (try go_wp2)
    all_goals go_ret
    all_goals exact ⟨rfl, (HS.out _ (Same.refl _)).1.cel.same (Same.drew _), (HS.out _ (Same.refl _)).2.trans ((Same.drew _).turn _)⟩
end
end Go.Proofs.Ytahcppoeooadhaa
