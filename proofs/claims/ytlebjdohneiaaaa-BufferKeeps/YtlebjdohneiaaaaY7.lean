import Derived.Test.YtlebjdohneiaaaaY6
namespace Go.Proofs.Ytlebjdohneiaaaa
open Go.ChangeShapes Go.WideShapes Go.ChangeAt Go.RowKit Num Go.Maps
attribute [local go_sem] run_store_float frombits_run bits_run

theorem two_cells (u v : Value) (hu : u.oneCell' = true) (hv : v.oneCell' = true) : ∀ x ∈ [u, v], x.oneCell' = true := fun x hx => by
  simp at hx
  rcases hx with rfl | rfl <;> assumption
section
variable {w : World} {b : Nat} {F : List Nat} {m : Int} {l : Wr}
set_option maxRecDepth 100000 in
theorem refPut_old (h : Ref w b F m l) {d : Int} (hh : hasC l d = true) (x : Nat) : Calls Try.prog 22 #[.pointer (some ⟨b, 0, none⟩), .int .i64 d, .float .f64 x] w fun e w' => ∃ F', e = .returned (.tuple #[.bool false, .int .i64 0]) ∧ Ref w' b F' m (putC l d (fixB x)) ∧ Turn F F' w w' := by
  have HP := Lib.hid (place_any h d rfl)
  obtain ⟨p, c, hs, rfl⟩ := h
  have h0 := hs.cell0
  have hb := hs.ltB
  unfold placeV at HP
  rw [hh] at HP
  have hi : idx l d < l.length := by simpa [hasC] using hh
  obtain ⟨g, rfl, hg, _, hx, hf⟩ := hs.row.at _ hi
  have hf1 := hf (idx l d * 2 + 1)
  have HF := Lib.hid (hs.lay hi (fixB x))
  have hi2 : (idx l d : Int) < (l.length : Int) := by omega
  have hi0 : 0 ≤ (idx l d : Int) := by omega
  generalize l[idx l d].2 = y at hx
  generalize putC l d (fixB x) = l2 at *
  clear hs hf hh
  generalize idx l d = k at *
  go_enter Try.func22, Try.ntmps22
  go_wp2_with (first
    | (go_at_call 30; refine (refFix_any _ _).mono ?_; rintro e w' ⟨rfl, hw⟩; subst w')
    | (go_at_call 31; refine HP.out.mono ?_; rintro e w' ⟨rfl, hw⟩; subst w'; try simp only [if_true]))
  go_ret2
  exact ⟨_, rfl, HF.out.1, HF.out.2⟩
set_option maxRecDepth 100000 in
theorem refPut_full (h : Ref w b F m l) {d : Int} (hh : hasC l d = false) (hf : ¬ (l.length : Int) < m) (x : Nat) : Calls Try.prog 22 #[.pointer (some ⟨b, 0, none⟩), .int .i64 d, .float .f64 x] w fun e w' => e = .returned (.tuple #[.bool false, .int .i64 70]) ∧ Same w w' := by
  have HP := Lib.hid (place_any h d rfl)
  obtain ⟨p, c, hs, rfl⟩ := h
  have h0 := hs.cell0
  have h1 := hs.cell1
  have hb := hs.ltB
  unfold placeV at HP
  rw [hh] at HP
  have hge : m ≤ (l.length : Int) := by omega
  clear hs hf hh
  go_enter Try.func22, Try.ntmps22
  go_wp2_with (first
    | (go_at_call 30; refine (refFix_any _ _).mono ?_; rintro e w' ⟨rfl, hw⟩; subst w')
    | (go_at_call 31; refine HP.out.mono ?_; rintro e w' ⟨rfl, hw⟩; subst w'; try simp only [Bool.false_eq_true, if_false]))
  go_quiet (fail)
  all_goals (try go_wp2)
  all_goals go_ret2
  all_goals exact ⟨rfl, by first | exact Same.refl _ | exact Same.drew _ | exact Same.drewN _ _⟩
set_option maxHeartbeats 1000000 in
set_option maxRecDepth 100000 in
theorem refPut_new (h : Ref w b F m l) {d : Int} (hh : hasC l d = false) (hf : (l.length : Int) < m) (x : Nat) : Calls Try.prog 22 #[.pointer (some ⟨b, 0, none⟩), .int .i64 d, .float .f64 x] w fun e w' => ∃ F', e = .returned (.tuple #[.bool true, .int .i64 0]) ∧ Ref w' b F' m (putC l d (fixB x)) ∧ Turn F F' w w' := by
  have HP := Lib.hid (place_any h d rfl)
  obtain ⟨p, c, hs, rfl⟩ := h
  have h0 := hs.cell0
  have h1 := hs.cell1
  have hb := hs.ltB
  unfold placeV at HP
  rw [hh] at HP
  have hge : ¬ m ≤ (l.length : Int) := by omega
  have HLT : Hid (l.length < 32) := by have := hs.most; show _ < _; omega
  have HD : Hid ((∀ k, RefAt (w.drewN k) b p c m l) ∧ hasC l d = false ∧ (l.length : Int) < m) := ⟨fun k => hs.same (Same.drewN w k), hh, hf⟩
  have HO : Hid (∀ u : World, u.heap = w.heap → u.ownsRow 0 47 2 (.slice p l.length c) l.length (l.flatMap tchC)) := fun u e => owns_heap hs.row.own e
  obtain ⟨i0, hi, hz0, hz1, hz2⟩ := info_parts tInfo
  have HZI := Lib.hid (And.intro hi (And.intro hz0 (And.intro hz1 hz2)))
  clear hi hz0 hz1 hz2 hs hh hf
  go_enter Try.func22, Try.ntmps22
  go_wp2_with (first
    | (go_at_call 30; refine (refFix_any _ _).mono ?_; rintro e w' ⟨rfl, hw⟩; subst w')
    | (go_at_call 31; refine HP.out.mono ?_; rintro e w' ⟨rfl, hw⟩; subst w'; try simp only [Bool.false_eq_true, if_false]))
  go_quiet (fail)
  go_wp2_with (at_builtin; refine wpList_append_own_at _ rfl _ _ 38 rfl 0 47 i0 _ 2 16 Try.underlying38 HZI.out.1 HZI.out.2.1 HZI.out.2.2.1 HZI.out.2.2.2 rfl (by decide) _ l.length (l.flatMap tchC) rfl (World.ownsRow.alloc (HO.out _ rfl) _) ⟨w.heap.size, 0, none⟩ 1 1 [.int .i64 d, .float .f64 (fixB x)] rfl rfl (World.news_of_block (cs := #[.int .i64 d, .float .f64 (fixB x)]) (t := 47) (fr := (0, 0)) (heap_alloc_new _ _)) (two_cells _ _ rfl rfl) (by have := HLT.out; unfold maxLen; omega) (by have := HLT.out; omega) (Nat.zero_le _) ?_; intro v w3 hown hgrow hnil hloc; obtain ⟨p', c', hv, hr4, ht4, k0, kf, kb⟩ := (HD.out.1 _).more hown hgrow hloc HD.out.2.1 HD.out.2.2; subst hv; have HS4 := Lib.hid (And.intro hr4 ht4); clear hown hgrow hnil hloc hr4 ht4)
  go_ret2
  exact ⟨_, rfl, HS4.out.1, ((Same.drewN _ _).turn _).trans HS4.out.2⟩
theorem refPut_any (h : Ref w b F m l) (d : Int) (x : Nat) : Calls Try.prog 22 #[.pointer (some ⟨b, 0, none⟩), .int .i64 d, .float .f64 x] w fun e w' => ∃ F', e = .returned (.tuple #[.bool (putF m l d), .int .i64 (putE m l d)]) ∧ Ref w' b F' m (putL m l d x) ∧ Turn F F' w w' := by
  unfold putF putE putL mayP
  cases hh : hasC l d
  · by_cases hf : (l.length : Int) < m
    · simp only [hf]
      exact refPut_new h hh hf x
    · simp only [hf]
      exact (refPut_full h hh hf x).mono fun e w' ⟨a1, a2⟩ => ⟨_, a1, h.same a2, a2.turn _⟩
  · exact refPut_old h hh x
set_option maxHeartbeats 1000000 in
set_option maxRecDepth 100000 in
theorem refAll_any' (h : Ref w b F m l) {n : Nat} (hn : l.length = n) : Calls Try.prog 14 #[.pointer (some ⟨b, 0, none⟩)] w fun e w' => ∃ p c, e = .returned (.slice p n c) ∧ TRow w' p c l ∧ Abv w.heap.size (fpR p) ∧ Below w.heap.size w w' := by
  have hn32 : n ≤ 32 := by have := h.few; omega
  obtain ⟨p, c, hs, rfl⟩ := h
  have HX : Hid (∀ wr, Below w.heap.size w wr → wr.cell? ⟨b, 0, none⟩ = some (.slice p n c) ∧ b < wr.heap.size ∧ ∀ k, k < n → ∃ g, p = some ⟨g, 0, none⟩ ∧ g < wr.heap.size ∧ wr.cell? ⟨g, k * 2, none⟩ = some (.int .i64 (l.getD k (0, 0)).1) ∧ wr.cell? ⟨g, k * 2 + 1, none⟩ = some (.float .f64 (l.getD k (0, 0)).2)) := fun wr hb => by
    have hw := hs.keep (kept_below hb hs.blw)
    refine ⟨by rw [← hn]; exact hw.cell0, hw.ltB, fun k hk => ?_⟩
    obtain ⟨g, r1, r2, r3, r4, _⟩ := hw.row.at k (by omega)
    rw [show l.getD k (0, 0) = l[k]'(by omega) by simp [show k < l.length by omega]]
    exact ⟨g, r1, r2, r3, r4⟩
  have HT : Hid (∀ k, k < n → (l.take (k + 1)).flatMap tchC = (l.take k).flatMap tchC ++ [.int .i64 (l.getD k (0, 0)).1, .float .f64 (l.getD k (0, 0)).2]) := fun k hk => take_tch l k (by omega)
  have HE : Hid (l.take n = l ∧ l.length = n) := ⟨by rw [← hn, List.take_length], hn⟩
  obtain ⟨i0, hi, hz0, hz1, hz2⟩ := info_parts tInfo
  have HZI := Lib.hid (And.intro hi (And.intro hz0 (And.intro hz1 hz2)))
  clear hi hz0 hz1 hz2 hn hs
  go_enter Try.func14, Try.ntmps14
  go_wp2
  go_loopw [3, 4] (fun v vi wr => ∃ k : Nat, vi = .int .i64 k ∧ k ≤ n ∧ Hid (wr.ownsRow w.heap.size 47 2 v k ((l.take k).flatMap tchC)) ∧ Hid (Below w.heap.size w wr)) (fun _ vi _ => n - (intOf vi).toNat)
  case atStart => exact ⟨0, rfl, Nat.zero_le _, ⟨by simp, .inl ⟨rfl, rfl⟩⟩, Below.refl _ _⟩
  case round =>
    obtain ⟨k, rfl, hk, HO, HB⟩ := hrel
    obtain ⟨h0, hb, hX⟩ := HX.out _ HB.out
    by_cases hlt : k < n
    · have hlt' : (k : Int) < (n : Int) := by omega
      obtain ⟨g, hpg, hg, hx, hy⟩ := hX k hlt
      subst hpg
      have HTK := Lib.hid (HT.out k hlt)
      generalize (l.getD k (0, 0)).1 = x at hx HTK
      generalize (l.getD k (0, 0)).2 = y at hy HTK
      have HS : Hid (w.heap.size ≤ wr.heap.size) := HB.out.size
      clear HX HT hX
      go_wp2_with (at_builtin; refine wpList_append_own_at _ rfl _ _ 38 rfl w.heap.size 47 i0 _ 2 16 Try.underlying38 HZI.out.1 HZI.out.2.1 HZI.out.2.2.1 HZI.out.2.2.2 rfl (by decide) _ k ((l.take k).flatMap tchC) rfl (World.ownsRow.alloc HO.out _) ⟨wr.heap.size, 0, none⟩ 1 1 [.int .i64 x, .float .f64 y] rfl rfl (World.news_of_block (cs := #[.int .i64 x, .float .f64 y]) (t := 47) (fr := (0, 0)) (heap_alloc_new _ _)) (two_cells _ _ rfl rfl) (by unfold maxLen; omega) (by omega) (by have := HS.out; simp; omega) ?_; intro v3 w3 hown hgrow hnil hloc; have HN3 := Lib.hid (And.intro hown hgrow); clear hown hgrow hnil hloc)
      exact ⟨⟨k + 1, by first | rfl | (congr 1), by omega, by rw [HTK.out]; exact HN3.out.1, (HB.out.alloc HB.out.size _).grown HN3.out.2 (HB.out.alloc HB.out.size _).size (fun j hj => (World.ownsRow.lt HO.out j hj).1)⟩, by simp [intOf]; omega⟩
    · have hlt' : ¬ (k : Int) < (n : Int) := by omega
      have e : k = n := by omega
      subst e
      have ho := HO.out
      rw [HE.out.1] at ho
      obtain ⟨q, c2, hv, ha⟩ := owns_slice2 ho
      subst hv
      have HF : Hid (TRow wr q c2 l ∧ Abv w.heap.size (fpR q)) := ⟨⟨by rw [HE.out.2]; exact owns_zero ho⟩, ha⟩
      clear ho HO hlt ha HX HT hX
      go_wp2
      go_ret
      exact ⟨q, c2, rfl, HF.out.1, HF.out.2, HB.out⟩
theorem refAll_any (h : Ref w b F m l) : Calls Try.prog 14 #[.pointer (some ⟨b, 0, none⟩)] w fun e w' => ∃ p c, e = .returned (.slice p l.length c) ∧ TRow w' p c l ∧ Abv w.heap.size (fpR p) ∧ Below w.heap.size w w' := refAll_any' h rfl
end
end Go.Proofs.Ytlebjdohneiaaaa
