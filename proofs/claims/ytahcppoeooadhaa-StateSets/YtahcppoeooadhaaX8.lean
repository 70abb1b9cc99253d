import Derived.Test.YtahcppoeooadhaaX7
namespace Go.Proofs.Ytahcppoeooadhaa
open Go.ChangeShapes Go.WideShapes Go.ChangeAt Go.RowKit Num
attribute [local go_sem] run_store_float frombits_run bits_run

section
variable {w : World} {pa pb : Option Addr} {ca cb n n' : Nat} {l m : List Nat}
set_option maxRecDepth 100000 in
theorem refList_ne (h : n ≠ n') (w : World) : Calls Try.prog 46 #[.slice pa n ca, .slice pb n' cb] w fun e w' => e = .returned (.bool false) ∧ Same w w' := by
  have h' : ((n : Int) != (n' : Int)) = true := by simp; omega
  clear h
  go_enter Try.func46, Try.ntmps46
  go_wp2
  go_ret
  exact ⟨rfl, Same.refl _⟩
set_option maxRecDepth 100000 in
theorem refList_eq (ha : RowAt 44 w pa ca (fls l)) (hb : RowAt 44 w pb cb (fls m)) (hl : l.length = n) (hm : m.length = n) (hn : n ≤ 256) : Calls Try.prog 46 #[.slice pa n ca, .slice pb n cb] w fun e w' => e = .returned (.bool (sameB l m)) ∧ Same w w' := by
  have HA : Hid (∀ i, i < n → ∃ g, pa = some ⟨g, 0, none⟩ ∧ g < w.heap.size ∧ w.cell? ⟨g, i, none⟩ = some (.float .f64 (l.getD i 0))) := fun i hi => by
    obtain ⟨g, h1, h2, h3, _⟩ := row_getD ha i (by omega)
    exact ⟨g, h1, h2, h3⟩
  have HB : Hid (∀ i, i < n → ∃ g, pb = some ⟨g, 0, none⟩ ∧ g < w.heap.size ∧ w.cell? ⟨g, i, none⟩ = some (.float .f64 (m.getD i 0))) := fun i hi => by
    obtain ⟨g, h1, h2, h3, _⟩ := row_getD hb i (by omega)
    exact ⟨g, h1, h2, h3⟩
  have HT : Hid ((∀ j, j < n → fixB (l.getD j 0) = fixB (m.getD j 0)) → sameB l m = true) := fun h => sameB_of (by omega) (fun j hj => h j (by omega))
  have HNE : Hid (∀ j, j < n → fixB (l.getD j 0) ≠ fixB (m.getD j 0) → sameB l m = false) := fun j hj h => sameB_at (by omega) (by omega) h
  clear ha hb hl hm
  go_enter Try.func46, Try.ntmps46
  go_wp2
  go_loopw [5] (fun vi wr => ∃ (k d : Nat), vi = .int .i64 k ∧ k ≤ n ∧ wr = w.drewN d ∧ Hid (∀ j, j < k → fixB (l.getD j 0) = fixB (m.getD j 0))) (fun vi _ => n - (intOf vi).toNat)
  case atStart => exact ⟨0, 0, rfl, Nat.zero_le _, by rw [World.drewN_zero], fun j hj => absurd hj (Nat.not_lt_zero j)⟩
  case round =>
    obtain ⟨k, d, rfl, hk, rfl, HK⟩ := hrel
    by_cases hlt : k < n
    · have hlt' : (k : Int) < (n : Int) := by omega
      obtain ⟨ga, hpa, ga1, hca⟩ := HA.out k hlt
      obtain ⟨gb, hpb, gb1, hcb⟩ := HB.out k hlt
      subst hpa hpb
      by_cases he : fixB (l.getD k 0) = fixB (m.getD k 0)
      · have HS := Lib.hid (fun w => refSame_any (l.getD k 0) (m.getD k 0) w)
        rw [he, beq_self_eq_true] at HS
        have HK1 : Hid (∀ j, j < k + 1 → fixB (l.getD j 0) = fixB (m.getD j 0)) := fun j hj => by
          by_cases q : j = k
          · subst q; exact he
          · exact HK.out j (by omega)
        clear he
        generalize l.getD k 0 = x at hca HS
        generalize m.getD k 0 = y at hcb HS
        go_wp2
        go_region_with (go_at_call 47; refine (HS.out _).mono ?_; rintro e w' ⟨rfl, hw⟩; subst w')
        all_goals (try go_wp2)
        all_goals exact ⟨⟨k + 1, _, by first | rfl | (congr 1), by omega, rfl, HK1⟩, by simp [intOf]; omega⟩
      · have HS := Lib.hid (fun w => refSame_any (l.getD k 0) (m.getD k 0) w)
        rw [beq_eq_false_iff_ne.2 he] at HS
        have HE := Lib.hid (HNE.out k hlt he)
        clear he
        generalize l.getD k 0 = x at hca HS
        generalize m.getD k 0 = y at hcb HS
        go_wp2
        go_region_with (go_at_call 47; refine (HS.out _).mono ?_; rintro e w' ⟨rfl, hw⟩; subst w')
        all_goals (try go_wp2)
        all_goals go_ret
        all_goals exact ⟨by rw [HE.out]; rfl, by first | exact Same.drewN _ _ | exact (Same.drewN _ _).trans (Same.drew _) | exact (Same.drewN _ _).trans (Same.drewN _ _)⟩
    · have hlt' : ¬ (k : Int) < (n : Int) := by omega
      have HE := Lib.hid (HT.out (fun j hj => HK.out j (by omega)))
      go_wp2
      go_ret
      exact ⟨by rw [HE.out]; rfl, Same.drewN _ _⟩
theorem refList_any (ha : RowAt 44 w pa ca (fls l)) (hb : RowAt 44 w pb cb (fls m)) (hl : l.length ≤ 256) : Calls Try.prog 46 #[.slice pa l.length ca, .slice pb m.length cb] w fun e w' => e = .returned (.bool (sameB l m)) ∧ Same w w' := by
  by_cases h : l.length = m.length
  · rw [← h]
    exact refList_eq ha hb rfl h.symm hl
  · rw [sameB_len h]
    exact refList_ne h _
end
set_option maxRecDepth 100000 in
theorem refSameState_any {w : World} {b d : Nat} {F G : List Nat} {l m : List Nat} (h : Cel 56 w b F l) (k : Cel 56 w d G m) : Calls Try.prog 42 #[.pointer (some ⟨b, 0, none⟩), .pointer (some ⟨d, 0, none⟩)] w fun e w' => e = .returned (.bool (sameB l m)) ∧ Same w w' := by
  obtain ⟨p, c, hs, rfl⟩ := h
  obtain ⟨p', c', ks, rfl⟩ := k
  have h0 := hs.cell0
  have hb := hs.ltB
  have k0 := ks.cell0
  have kb := ks.ltB
  have HQ : Hid (∀ w1, Same w w1 → Calls Try.prog 46 #[.slice p l.length c, .slice p' m.length c'] w1 fun e w' => e = .returned (.bool (sameB l m)) ∧ Same w w') := fun w1 k1 => (refList_any (hs.same k1).row (ks.same k1).row hs.many).mono fun e w' ⟨a, b⟩ => ⟨a, k1.trans b⟩
  clear hs ks
  go_enter Try.func42, Try.ntmps42
  go_wp2
  go_region_with (go_at_call 46; refine (HQ.out _ (by first | exact Same.refl _ | exact Same.drewN _ _)).mono ?_; rintro e w1 ⟨rfl, hw⟩; have HW := Lib.hid hw; clear hw)
  all_goals (try go_wp2)
  all_goals go_ret
  all_goals first
    | exact ⟨rfl, HW.out⟩
    | exact ⟨rfl, HW.out.trans (Same.drew _)⟩
    | exact ⟨rfl, HW.out.trans (Same.drewN _ _)⟩
section
variable {w : World} {b : Nat} {F : List Nat} {l : List Nat} {p : Option Addr} {cap n : Nat} {ts : List (Int × Nat)}
set_option maxHeartbeats 2000000 in
set_option maxRecDepth 100000 in
theorem refApply_any' (h : Cel 56 w b F l) (ht : TchAt w p ts) (hn : ts.length = n) (hp : Sep (fpR p) F) (hm : n ≤ 9223372036854775807) : Calls Try.prog 40 #[.pointer (some ⟨b, 0, none⟩), .slice p n cap] w fun e w' => e = .returned (.int .i64 (applyE l.length ts)) ∧ Cel 56 w' b F (applyL l ts) ∧ Turn F F w w' := by
  have HC := Lib.hid h
  have HT : Hid (∀ w', Turn F F w w' → ∀ k, k < n → ∃ g x y, p = some ⟨g, 0, none⟩ ∧ g < w'.heap.size ∧ w'.cell? ⟨g, k * 2, none⟩ = some (.int .i64 x) ∧ w'.cell? ⟨g, k * 2 + 1, none⟩ = some (.float .f64 y) ∧ ∃ hk : k < ts.length, ts[k] = (x, y)) := fun w' ht' k hk => by
    have hb : Blw w (fpR p) := fun i hi => by
      obtain ⟨g, h1, h2, _⟩ := ht k (by omega)
      rw [h1] at hi
      simp [fpR] at hi
      omega
    obtain ⟨g, h1, h2, h3, h4⟩ := ht.keep (ht'.kept hp hb) k (by omega)
    exact ⟨g, _, _, h1, h2, h3, h4, by omega, rfl⟩
  obtain ⟨pp, cc, hs, rfl⟩ := h
  have h0 := hs.cell0
  have hb := hs.ltB
  clear ht hp hs
  go_enter Try.func40, Try.ntmps40
  go_wp2
  go_loopw [5] (fun vi wr => ∃ (k d : Nat), vi = .int .i64 k ∧ k ≤ n ∧ wr = w.drewN d ∧ Hid (∀ j (hj : j < ts.length), j < k → hasN l.length ts[j].1 = true)) (fun vi _ => n - (intOf vi).toNat)
  case atStart => exact ⟨0, 0, rfl, Nat.zero_le _, by rw [World.drewN_zero], fun j hj q => absurd q (Nat.not_lt_zero j)⟩
  case round =>
    obtain ⟨k, d, rfl, hk, rfl, HK⟩ := hrel
    by_cases hlt : k < n
    · have hlt' : (k : Int) < (n : Int) := by omega
      obtain ⟨g, x, y, hpg, hg, hx, hy, hk', htk⟩ := HT.out w (Turn.refl _ _) k hlt
      subst hpg
      have HTK := Lib.hid htk
      clear htk
      cases hh : hasN l.length x
      · have HN : Hid (allB l.length ts = false) := allB_not k hk' (by rw [HTK.out]; exact hh)
        rcases hasN_neg hh with q | ⟨q, q2⟩
        all_goals
          clear hh
          go_wp2
          go_quiet (fail)
          go_wp2
          go_ret
          unfold applyE applyL
          rw [HN.out]
          exact ⟨rfl, HC.out.same ((Same.drewN _ _).trans (Same.drewN _ _)), ((Same.drewN _ _).trans (Same.drewN _ _)).turn _⟩
      · have HK1 : Hid (∀ j (hj : j < ts.length), j < k + 1 → hasN l.length ts[j].1 = true) := fun j hj q => by
          by_cases e : j = k
          · subst e; rw [HTK.out]; exact hh
          · exact HK.out j hj (by omega)
        obtain ⟨i, rfl, hil⟩ := hasN_pos hh
        have i0 : ¬ (i : Int) < 0 := by omega
        have i1 : ¬ (l.length : Int) ≤ (i : Int) := by omega
        clear hh
        go_wp2
        go_quiet (fail)
        go_wp2
        exact ⟨⟨k + 1, _, by first | rfl | (congr 1), by omega, rfl, HK1⟩, by simp [intOf]; omega⟩
    · have hlt' : ¬ (k : Int) < (n : Int) := by omega
      have HAL : Hid (allB l.length ts = true) := allB_of (fun j hj => HK.out j hj (by omega))
      have HFS : Hid (∀ k (hk : k < ts.length), setL (foldL l (ts.take k)) ts[k].1 ts[k].2 = foldL l (ts.take (k + 1))) := fun k hk => foldL_snoc l ts k hk
      have HFE : Hid (foldL l (ts.take n) = foldL l ts) := by show _ = _; rw [← hn, List.take_length]
      have HCW := Lib.hid (HC.out.same (Same.drewN w d))
      have HTW := Lib.hid ((Same.drewN w d).turn (b :: fpR pp))
      clear HK HC h0 hb
      go_wp2
      go_loopw [6] (fun vi wr => ∃ k : Nat, vi = .int .i64 k ∧ k ≤ n ∧ Hid (Turn (b :: fpR pp) (b :: fpR pp) w wr) ∧ Hid (Cel 56 wr b (b :: fpR pp) (foldL l (ts.take k)))) (fun vi _ => n - (intOf vi).toNat)
      case atStart => exact ⟨0, rfl, Nat.zero_le _, HTW, HCW⟩
      case round =>
        clear HTW HCW
        obtain ⟨k, rfl, hk, HB, HCW⟩ := hrel
        by_cases hlt : k < n
        · have hlt' : (k : Int) < (n : Int) := by omega
          obtain ⟨g, x, y, hpg, hg, hx, hy, hk', htk⟩ := HT.out _ HB.out k hlt
          subst hpg
          have hs := HFS.out k hk'
          rw [htk] at hs
          have HS : Hid (∀ w1, Same wr w1 → Calls Try.prog 37 #[.pointer (some ⟨b, 0, none⟩), .int .i64 x, .float .f64 y] w1 fun e w' => e = .returned (.int .i64 (cellE (foldL l (ts.take k)).length x)) ∧ Cel 56 w' b (b :: fpR pp) (foldL l (ts.take (k + 1))) ∧ Turn (b :: fpR pp) (b :: fpR pp) w w') := fun w1 k1 => (refSet_any (HCW.out.same k1) x y).mono fun e w' ⟨a1, a2, a3⟩ => ⟨a1, hs ▸ a2, HB.out.trans ((k1.turn _).trans a3)⟩
          generalize cellE (foldL l (ts.take k)).length x = ev at HS
          clear htk hs
          go_wp2
          go_region_with (go_at_call 37; refine (HS.out _ (by first | exact Same.refl _ | exact Same.drewN _ _)).mono ?_; rintro e w' ⟨rfl, hc, ht⟩; have HD := Lib.hid (And.intro hc ht); clear hc ht)
          all_goals (try go_wp2)
          all_goals exact ⟨⟨k + 1, by first | rfl | (congr 1), by omega, by first | exact HD.out.2 | exact HD.out.2.trans ((Same.drew _).turn _), by first | exact HD.out.1 | exact HD.out.1.same (Same.drew _)⟩, by simp [intOf]; omega⟩
        · have hlt' : ¬ (k : Int) < (n : Int) := by omega
          have e : k = n := by omega
          subst e
          have h0 := HCW.out
          rw [HFE.out] at h0
          have HF := Lib.hid h0
          clear h0
          go_wp2
          go_ret
          unfold applyE applyL
          rw [HAL.out]
          exact ⟨rfl, HF.out, HB.out⟩
theorem refApply_any (h : Cel 56 w b F l) (ht : TchAt w p ts) (hp : Sep (fpR p) F) (hm : ts.length ≤ 9223372036854775807) : Calls Try.prog 40 #[.pointer (some ⟨b, 0, none⟩), .slice p ts.length cap] w fun e w' => e = .returned (.int .i64 (applyE l.length ts)) ∧ Cel 56 w' b F (applyL l ts) ∧ Turn F F w w' := refApply_any' h ht rfl hp hm
end
end Go.Proofs.Ytahcppoeooadhaa
