import Derived.Test.YtahcppoeooadhaaX3
namespace Go.Proofs.Ytahcppoeooadhaa
open Go.ChangeShapes Go.WideShapes Go.ChangeAt Go.RowKit Num
attribute [local go_sem] run_store_float frombits_run bits_run

theorem sameB_len {l m : List Nat} (h : l.length ≠ m.length) : sameB l m = false := by
  unfold sameB
  rw [beq_eq_false_iff_ne]
  intro e
  exact h (by simpa using congrArg List.length e)
theorem sameB_at {l m : List Nat} {j : Nat} (hj : j < l.length) (hj' : j < m.length) (h : fixB (l.getD j 0) ≠ fixB (m.getD j 0)) : sameB l m = false := by
  unfold sameB
  rw [beq_eq_false_iff_ne]
  intro e
  have := congrArg (fun x => x[j]?) e
  simp [hj, hj'] at this
  exact h (by simpa [hj, hj'] using this)
theorem sameB_of {l m : List Nat} (hl : l.length = m.length) (h : ∀ j, j < l.length → fixB (l.getD j 0) = fixB (m.getD j 0)) : sameB l m = true := by
  unfold sameB
  rw [beq_iff_eq]
  apply List.ext_getElem?
  intro j
  by_cases hj : j < l.length
  · have hj' : j < m.length := by omega
    have := h j hj
    simp [hj, hj'] at this ⊢
    exact this
  · have hj' : ¬ j < m.length := by omega
    simp [List.getElem?_eq_none (Nat.not_lt.1 hj), List.getElem?_eq_none (Nat.not_lt.1 hj')]
theorem row_getD {w : World} {p : Option Addr} {c : Nat} {l : List Nat} (h : RowAt 44 w p c (fls l)) (i : Nat) (hi : i < l.length) : ∃ g, p = some ⟨g, 0, none⟩ ∧ g < w.heap.size ∧ w.cell? ⟨g, i, none⟩ = some (.float .f64 (l.getD i 0)) ∧ w.frozen? ⟨g, i, none⟩ = false := by
  have := row_num h i hi
  rwa [show l[i] = l.getD i 0 by simp [hi]] at this
section
variable {w : World} {pa pb : Option Addr} {ca cb n n' : Nat} {l m : List Nat}
set_option maxRecDepth 100000 in
theorem eqf_ne (h : n ≠ n') (f : Value) (w : World) : Calls Try.prog 32 #[.slice pa n ca, .slice pb n' cb, f] w fun e w' => e = .returned (.bool false) ∧ w' = w := by
  have h' : ((n : Int) != (n' : Int)) = true := by simp; omega
  clear h
  go_enter Try.func32, Try.ntmps32
  go_wp2
  go_ret
  exact ⟨rfl, rfl⟩
set_option maxRecDepth 100000 in
theorem eqf_eq (ha : RowAt 44 w pa ca (fls l)) (hb : RowAt 44 w pb cb (fls m)) (hl : l.length = n) (hm : m.length = n) (hn : n ≤ 256) : Calls Try.prog 32 #[.slice pa n ca, .slice pb n cb, .func (Fn.func 33) #[] #[]] w fun e w' => e = .returned (.bool (sameB l m)) ∧ w' = w := by
  have HA : Hid (∀ i, i < n → ∃ g, pa = some ⟨g, 0, none⟩ ∧ g < w.heap.size ∧ w.cell? ⟨g, i, none⟩ = some (.float .f64 (l.getD i 0))) := fun i hi => by
    obtain ⟨g, h1, h2, h3, _⟩ := row_getD ha i (by omega)
    exact ⟨g, h1, h2, h3⟩
  have HB : Hid (∀ i, i < n → ∃ g, pb = some ⟨g, 0, none⟩ ∧ g < w.heap.size ∧ w.cell? ⟨g, i, none⟩ = some (.float .f64 (m.getD i 0))) := fun i hi => by
    obtain ⟨g, h1, h2, h3, _⟩ := row_getD hb i (by omega)
    exact ⟨g, h1, h2, h3⟩
  have HT : Hid ((∀ j, j < n → fixB (l.getD j 0) = fixB (m.getD j 0)) → sameB l m = true) := fun h => sameB_of (by omega) (fun j hj => h j (by omega))
  have HNE : Hid (∀ j, j < n → fixB (l.getD j 0) ≠ fixB (m.getD j 0) → sameB l m = false) := fun j hj h => sameB_at (by omega) (by omega) h
  clear ha hb hl hm
  go_enter Try.func32, Try.ntmps32
  go_wp2
  go_loopw [17] (fun vi wr => ∃ k : Nat, vi = .int .i64 k ∧ k ≤ n ∧ wr = w ∧ Hid (∀ j, j < k → fixB (l.getD j 0) = fixB (m.getD j 0))) (fun vi _ => n - (intOf vi).toNat)
  case atStart => exact ⟨0, rfl, Nat.zero_le _, rfl, fun j hj => absurd hj (Nat.not_lt_zero j)⟩
  case round =>
    obtain ⟨k, rfl, hk, hw, HK⟩ := hrel
    subst hw
    by_cases hlt : k < n
    · have hlt' : (k : Int) < (n : Int) := by omega
      obtain ⟨ga, hpa, ga1, hca⟩ := HA.out k hlt
      obtain ⟨gb, hpb, gb1, hcb⟩ := HB.out k hlt
      subst hpa hpb
      by_cases he : fixB (l.getD k 0) = fixB (m.getD k 0)
      · have HS := Lib.hid (fun w => same_any (l.getD k 0) (m.getD k 0) w)
        rw [he, beq_self_eq_true] at HS
        have HK1 : Hid (∀ j, j < k + 1 → fixB (l.getD j 0) = fixB (m.getD j 0)) := fun j hj => by
          by_cases q : j = k
          · subst q; exact he
          · exact HK.out j (by omega)
        clear he
        generalize l.getD k 0 = x at hca HS
        generalize m.getD k 0 = y at hcb HS
        go_wp2_with (go_at_call 33; refine (HS.out _).mono ?_; rintro e w' ⟨rfl, hw⟩; subst w')
        exact ⟨⟨k + 1, by first | rfl | (congr 1), by omega, by trivial, HK1⟩, by simp [intOf]; omega⟩
      · have HS := Lib.hid (fun w => same_any (l.getD k 0) (m.getD k 0) w)
        rw [beq_eq_false_iff_ne.2 he] at HS
        have HE := Lib.hid (HNE.out k hlt he)
        clear he
        generalize l.getD k 0 = x at hca HS
        generalize m.getD k 0 = y at hcb HS
        go_wp2_with (go_at_call 33; refine (HS.out _).mono ?_; rintro e w' ⟨rfl, hw⟩; subst w')
        go_ret
        exact ⟨by rw [HE.out]; rfl, rfl⟩
    · have hlt' : ¬ (k : Int) < (n : Int) := by omega
      have HE := Lib.hid (HT.out (fun j hj => HK.out j (by omega)))
      go_wp2
      go_ret
      exact ⟨by rw [HE.out]; rfl, rfl⟩
theorem eqf_any (ha : RowAt 44 w pa ca (fls l)) (hb : RowAt 44 w pb cb (fls m)) (hl : l.length ≤ 256) : Calls Try.prog 32 #[.slice pa l.length ca, .slice pb m.length cb, .func (Fn.func 33) #[] #[]] w fun e w' => e = .returned (.bool (sameB l m)) ∧ w' = w := by
  by_cases h : l.length = m.length
  · rw [← h]
    exact eqf_eq ha hb rfl h.symm hl
  · rw [sameB_len h]
    exact eqf_ne h _ _
end
set_option maxRecDepth 100000 in
theorem sameState_any {w : World} {b d : Nat} {F G : List Nat} {l m : List Nat} (h : Cel 54 w b F l) (k : Cel 54 w d G m) : Calls Try.prog 17 #[.pointer (some ⟨b, 0, none⟩), .pointer (some ⟨d, 0, none⟩)] w fun e w' => e = .returned (.bool (sameB l m)) ∧ Same w w' := by
  obtain ⟨p, c, hs, rfl⟩ := h
  obtain ⟨p', c', ks, rfl⟩ := k
  have h0 := hs.cell0
  have hb := hs.ltB
  have k0 := ks.cell0
  have kb := ks.ltB
  have HQ : Hid (∀ w1, Same w w1 → Calls Try.prog 32 #[.slice p l.length c, .slice p' m.length c', .func (Fn.func 33) #[] #[]] w1 fun e w' => e = .returned (.bool (sameB l m)) ∧ w' = w1) := fun w1 k1 => eqf_any (hs.same k1).row (ks.same k1).row hs.many
  clear hs ks
  go_enter Try.func17, Try.ntmps17
  go_wp2
  go_region_with (go_at_call 32; refine (HQ.out _ (by first | exact Same.refl _ | exact Same.drewN _ _)).mono ?_; rintro e w1 ⟨rfl, hw⟩; subst w1)
  all_goals (try go_wp2)
  all_goals go_ret
  all_goals exact ⟨rfl, Same.drew _⟩
end Go.Proofs.Ytahcppoeooadhaa
