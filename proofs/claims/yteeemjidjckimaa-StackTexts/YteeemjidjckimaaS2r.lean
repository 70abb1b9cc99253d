import Derived.Test.YteeemjidjckimaaS2i
namespace Go.Proofs.Yteeemjidjckimaa
open Go.ChangeShapes Go.WideShapes Go.ChangeAt Go.RowKit

theorem rNew_any (r : Int) (w : World) : Calls Try.prog 13 #[.int .i64 r] w fun e w' => ∃ b, e = .returned (.pointer (some ⟨b, 0, none⟩)) ∧ b = w.heap.size ∧ Stk 59 3 w' b [b] [] (roomV r) ∧ Below w.heap.size w w' := by
  have H0 := Lib.hid (fun r0 => stk_new w 59 3 r0)
  have HB := Lib.hid (fun o => (Below.refl w.heap.size w).alloc (Nat.le_refl _) o)
  have HR := Lib.hid (roomV_ok r)
  by_cases h1 : r < 0
  · have e : roomV r = 0 := by simp [roomV, h1]
    rw [e] at HR ⊢
    have h1' : ¬ 0 ≤ r := by omega
    clear e
    go_enter Try.func13, Try.ntmps13
    go_wp2
    go_ret
    exact ⟨_, rfl, rfl, H0.out _ HR.out.1 HR.out.2, HB.out _⟩
  · by_cases h2 : 65536 < r
    · have e : roomV r = 65536 := by simp [roomV, h1, h2]
      rw [e] at HR ⊢
      clear e
      go_enter Try.func13, Try.ntmps13
      go_wp2
      go_ret
      exact ⟨_, rfl, rfl, H0.out _ HR.out.1 HR.out.2, HB.out _⟩
    · have e : roomV r = r := by simp [roomV, h1, h2]
      rw [e] at HR ⊢
      clear e
      go_enter Try.func13, Try.ntmps13
      go_wp2
      go_ret
      exact ⟨_, rfl, rfl, H0.out _ HR.out.1 HR.out.2, HB.out _⟩
section
variable {w : World} {b : Nat} {F : List Nat} {l : List Int} {r : Int}
theorem rLen_any (h : Stk 59 3 w b F (i64s l) r) : Calls Try.prog 19 #[.pointer (some ⟨b, 0, none⟩)] w fun e w' => e = .returned (.int .i64 l.length) ∧ w' = w := by
  obtain ⟨p, c, hs, rfl⟩ := h
  have h0 := hs.cell0
  rw [i64s_len] at h0
  have hb := hs.ltB
  clear hs
  go_enter Try.func19, Try.ntmps19
  go_wp2
  go_ret
  exact ⟨rfl, rfl⟩
theorem rRoom_any (h : Stk 59 3 w b F (i64s l) r) : Calls Try.prog 20 #[.pointer (some ⟨b, 0, none⟩)] w fun e w' => e = .returned (.int .i64 r) ∧ w' = w := by
  obtain ⟨p, c, hs, rfl⟩ := h
  have h0 := hs.cell1
  have hb := hs.ltB
  clear hs
  go_enter Try.func20, Try.ntmps20
  go_wp2
  go_ret
  exact ⟨rfl, rfl⟩
theorem rClear_any (h : Stk 59 3 w b F (i64s l) r) : Calls Try.prog 37 #[.pointer (some ⟨b, 0, none⟩)] w fun e w' => ∃ F', e = .returned (.tuple #[]) ∧ Stk 59 3 w' b F' (i64s []) r ∧ Turn F F' w w' := by
  obtain ⟨p, c, hs, rfl⟩ := h
  have h0 := hs.cell0
  have hb := hs.ltB
  have hf := hs.free 0
  have HE := Lib.hid (hs.emptied (by have := hs.fits; omega))
  clear hs
  go_enter Try.func37, Try.ntmps37
  go_wp2
  go_end0
  exact ⟨_, rfl, HE.out.1, HE.out.2⟩
set_option maxRecDepth 100000 in
set_option maxHeartbeats 1000000 in
theorem rPush_any (h : Stk 59 3 w b F (i64s l) r) (x : Int) : Calls Try.prog 33 #[.pointer (some ⟨b, 0, none⟩), Value.int .i64 x] w fun e w' => ∃ F', e = .returned (.int .i64 (pushE l r)) ∧ Stk 59 3 w' b F' (i64s (pushL l r x)) r ∧ Turn F F' w w' := by
  have HS := Lib.hid h
  obtain ⟨p, c, hs, rfl⟩ := h
  have h0 := hs.cell0
  have h1 := hs.cell1
  have hb := hs.ltB
  have hf := hs.free 0
  have hm := hs.most
  rw [i64s_len] at h0
  by_cases hlt : (l.length : Int) < r
  · have e1 : pushE l r = 0 := by simp [pushE, hlt]
    have e2 : pushL l r x = l ++ [x] := by simp [pushL, hlt]
    rw [e1, e2, i64s_snoc]
    clear e1 e2
    obtain ⟨i0, hi, hz0, hz1, hz2⟩ := info_parts iInfo
    have HZI := Lib.hid (And.intro hi (And.intro hz0 (And.intro hz1 hz2)))
    have HA : Hid (∀ k, StAt 59 3 (w.drewN k) b p c (i64s l) r) := fun k => hs.keep ((Same.drewN w k).kept _)
    have HO : Hid (∀ k, (w.drewN k).ownsRow 0 3 1 (.slice p l.length c) l.length (i64s l)) := fun k => by
      have := (HA.out k).row.own
      rw [i64s_len] at this
      exact this
    have HMORE : Hid (∀ k o w3 v, w3.ownsRow 0 3 1 v (l.length + 1) (i64s l ++ [Value.int .i64 x]) → ((w.drewN k).alloc o).grownBy w3 (Value.slice p l.length c).ownBlock → (v.ownBlock = (Value.slice p l.length c).ownBlock ∨ v.ownBlock = some ((w.drewN k).alloc o).heap.size) → ∃ p' c', v = .slice p' (l.length + 1) c' ∧ Stk 59 3 (w3.setCell ⟨b, 0, none⟩ (.slice p' (l.length + 1) c')) b (b :: fpR p') (i64s l ++ [Value.int .i64 x]) r ∧ Turn (b :: fpR p) (b :: fpR p') w (w3.setCell ⟨b, 0, none⟩ (.slice p' (l.length + 1) c')) ∧ w3.cell? ⟨b, 0, none⟩ = some (.slice p l.length c) ∧ w3.frozen? ⟨b, 0, none⟩ = false ∧ b < w3.heap.size) := by
      intro k o w3 v ho hg hat
      have hne : some b ≠ (Value.slice p l.length c).ownBlock := fun q => hs.ne (own_fpR.2 q.symm)
      have hbk := hg.block b (by simp; have := hs.ltB; omega) hne
      have e := (hs.alloc_box k o)
      have hm3 := (HA.out k).more (w3 := w3) (v := v) (o := o) (x := Value.int .i64 x) (by rw [i64s_len]; exact ho) (by rw [i64s_len]; exact hg) (by rw [i64s_len]; exact hat) (by rw [i64s_len]; exact hlt)
      rw [i64s_len] at hm3
      obtain ⟨p', c', q1, q2, q3⟩ := hm3
      rw [e, i64s_len] at hbk
      refine ⟨p', c', q1, q2, ((Same.drewN w k).turn _).trans q3, ?_, frozen_of_row w3 b 0 _ _ hbk, lt_of_block hbk⟩
      rw [cell_of_row w3 b 0 _ _ _ hbk]
      rfl
    have HLT := Lib.hid (And.intro hlt hm)
    clear hi hz0 hz1 hz2 hs hm
    go_enter Try.func33, Try.ntmps33
    go_wp2
    go_quiet (fail)
    go_wp2_with (at_builtin; refine wpList_append_own_at _ rfl _ _ 36 rfl 0 3 i0 (.int .i64 0) 1 8 Try.underlying36 HZI.out.1 HZI.out.2.1 HZI.out.2.2.1 HZI.out.2.2.2 rfl (by decide) _ l.length (i64s l) rfl (World.ownsRow.alloc (HO.out _) _) ⟨w.heap.size, 0, none⟩ 1 1 [Value.int .i64 x] rfl rfl (cell_one_new _ _ _) (fun u hu => by simp at hu; subst hu; rfl) (by have := HLT.out; unfold maxLen; omega) (by have := HLT.out; omega) (Nat.zero_le _) ?_; intro v3 w3 hown3 hgrow3 hnil3 hat3; obtain ⟨p', c', hv3, q1, q2, q3, q4, q5⟩ := HMORE.out _ _ _ _ hown3 hgrow3 hat3; subst hv3; have HQ := Lib.hid (And.intro q1 q2); clear hown3 hgrow3 hnil3 hat3 q1 q2 HMORE)
    go_ret
    exact ⟨_, rfl, HQ.out.1, HQ.out.2⟩
  · have e1 : pushE l r = 40 := by simp [pushE, hlt]
    have e2 : pushL l r x = l := by simp [pushL, hlt]
    rw [e1, e2]
    clear e1 e2 hs hm
    go_enter Try.func33, Try.ntmps33
    go_wp2
    go_quiet (fail)
    go_wp2
    go_ret
    exact ⟨_, rfl, HS.out.same (Same.drewN _ _), (Same.drewN _ _).turn _⟩
theorem rPick_none (h : Stk 59 3 w b F (i64s l) r) (i : Int) (hi : inB l.length i = false) : Calls Try.prog 35 #[.pointer (some ⟨b, 0, none⟩), .int .i64 i] w fun e w' => e = .returned (.tuple #[Value.int .i64 0, .int .i64 41]) ∧ w' = w := by
  obtain ⟨p, c, hs, rfl⟩ := h
  have h0 := hs.cell0
  have hb := hs.ltB
  rw [i64s_len] at h0
  have hi := of_decide_eq_false hi
  clear hs
  by_cases h1 : i < 0
  · clear hi
    go_enter Try.func35, Try.ntmps35
    go_wp2
    go_ret2
    exact ⟨rfl, rfl⟩
  · have h2 : (l.length : Int) ≤ i := by omega
    clear hi
    go_enter Try.func35, Try.ntmps35
    go_wp2
    go_ret2
    exact ⟨rfl, rfl⟩
set_option maxRecDepth 100000 in
theorem rPick_some (h : Stk 59 3 w b F (i64s l) r) (k j : Nat) (hk : j + 1 + k = l.length) (x : Int) (hx : l[j]? = some x) : Calls Try.prog 35 #[.pointer (some ⟨b, 0, none⟩), .int .i64 k] w fun e w' => e = .returned (.tuple #[Value.int .i64 x, .int .i64 0]) ∧ Same w w' := by
  obtain ⟨p, c, hs, rfl⟩ := h
  have h0 := hs.cell0
  have hb := hs.ltB
  obtain ⟨g, rfl, hg, _, _, _, _, hc⟩ := hs.some_at (by rw [i64s_len]; omega)
  have hj : w.cell? ⟨g, j, none⟩ = some (Value.int .i64 x) := by
    rw [hc j (by rw [i64s_len]; omega), i64s_at l j _ (by omega)]
    rw [List.getElem?_eq_getElem (by omega)] at hx
    rw [Option.some.inj hx]
  have hm := hs.most
  have hfi := hs.fits
  rw [i64s_len] at h0 hfi
  have hn : l.length ≤ 65536 := by omega
  clear hs hc hx hfi hm
  obtain ⟨n, hnn⟩ : ∃ n, n = l.length := ⟨_, rfl⟩
  rw [← hnn] at h0 hk hn
  clear hnn
  subst hk
  have k1 : (k : Int) < ((j + 1 + k : Nat) : Int) := by omega
  have e1 : ((j + 1 + k : Nat) : Int) - 1 - (k : Int) = (j : Int) := by omega
  have k2 : (j : Int) < ((j + 1 + k : Nat) : Int) := by omega
  go_enter Try.func35, Try.ntmps35
  go_wp2
  go_quiet (fail)
  go_wp2
  go_ret2
  exact ⟨rfl, Same.drewN _ _⟩
theorem rPick_any (h : Stk 59 3 w b F (i64s l) r) (i : Int) : Calls Try.prog 35 #[.pointer (some ⟨b, 0, none⟩), .int .i64 i] w fun e w' => e = .returned (.tuple #[Value.int .i64 (pickV 0 l i), .int .i64 (pickE l i)]) ∧ Same w w' := by
  unfold pickV pickE
  cases hi : inB l.length i
  · exact (rPick_none h i hi).mono fun e w' ⟨he, hw⟩ => ⟨he, hw ▸ Same.refl _⟩
  · have hh := of_decide_eq_true hi
    obtain ⟨k, rfl⟩ : ∃ k : Nat, i = k := ⟨i.toNat, by omega⟩
    have hj : l.length - 1 - k < l.length := by omega
    refine (rPick_some h k (l.length - 1 - k) (by omega) l[l.length - 1 - k] (by simp)).mono fun e w' ⟨he, hw⟩ => ⟨?_, hw⟩
    rw [he]
    simp [List.getD, hj]
theorem rPop_none (h : Stk 59 3 w b F (i64s []) r) : Calls Try.prog 34 #[.pointer (some ⟨b, 0, none⟩)] w fun e w' => e = .returned (.tuple #[Value.int .i64 0, .int .i64 41]) ∧ w' = w := by
  have HS := Lib.hid h
  clear h
  go_enter Try.func34, Try.ntmps34
  go_wp2_with (go_at_call 35; refine (rPick_none HS.out _ (by decide)).mono ?_; rintro e w1 ⟨rfl, hw⟩; subst w1)
  go_ret2
  exact ⟨rfl, rfl⟩
set_option maxRecDepth 100000 in
set_option maxHeartbeats 1000000 in
theorem rPop_some {m : List Int} {x : Int} (h : Stk 59 3 w b F (i64s (m ++ [x])) r) : Calls Try.prog 34 #[.pointer (some ⟨b, 0, none⟩)] w fun e w' => ∃ F', e = .returned (.tuple #[Value.int .i64 x, .int .i64 0]) ∧ Stk 59 3 w' b F' (i64s m) r ∧ Turn F F' w w' := by
  have HS := Lib.hid h
  obtain ⟨p, c, hs, rfl⟩ := h
  obtain ⟨g, rfl, hg, hc, hmx, _, hff, _⟩ := hs.some_at (by rw [i64s_len]; simp)
  have hb := hs.ltB
  have hn : m.length + 1 ≤ 65536 := by
    have h1 := hs.fits
    have h2 := hs.most
    rw [i64s_len] at h1
    simp at h1
    omega
  have hc' : m.length + 1 ≤ c := by rw [i64s_len] at hc; simpa using hc
  have hmx' : c ≤ 9223372036854775807 := hmx
  have HA : Hid (∀ w1, Same w w1 → StAt 59 3 w1 b (some ⟨g, 0, none⟩) c (i64s m ++ [Value.int .i64 x]) r) := fun w1 k => by
    have := hs.keep (k.kept _)
    rw [i64s_snoc] at this
    exact this
  have HP := Lib.hid (rPick_some HS.out 0 m.length (by simp) x (by simp))
  clear hs hc hmx
  have HALL : Hid (∀ w1, Same w w1 → w1.cell? ⟨b, 0, none⟩ = some (.slice (some ⟨g, 0, none⟩) (m.length + 1) c) ∧ w1.frozen? ⟨b, 0, none⟩ = false ∧ b < w1.heap.size ∧ ∀ w2, Same w1 w2 → Stk 59 3 (w2.setCell ⟨b, 0, none⟩ (.slice (some ⟨g, 0, none⟩) m.length c)) b [b, g] (i64s m) r ∧ Turn [b, g] [b, g] w (w2.setCell ⟨b, 0, none⟩ (.slice (some ⟨g, 0, none⟩) m.length c))) := by
    intro w1 k
    have a := HA.out w1 k
    have hl : (i64s m ++ [Value.int .i64 x]).length = m.length + 1 := by simp [i64s_len]
    have q0 := a.cell0
    rw [hl] at q0
    refine ⟨q0, a.free 0, a.ltB, fun w2 hi => ?_⟩
    have k2 := k.trans hi
    have q := (HA.out _ k2).less0
    rw [i64s_len] at q
    exact ⟨q.1, (k2.turn _).trans q.2⟩
  clear HS
  have e1 : ((m.length + 1 : Nat) : Int) - 1 = (m.length : Int) := by omega
  have k1 : (m.length : Int) ≤ ((m.length + 1 : Nat) : Int) := by omega
  have k2 : (m.length : Int) ≤ (c : Int) := by omega
  go_enter Try.func34, Try.ntmps34
  go_wp2_with (go_at_call 35; refine HP.out.mono ?_; rintro e w1 ⟨rfl, hw⟩; obtain ⟨q0, q1, q2, q3⟩ := HALL.out w1 hw; have HQ := Lib.hid q3; clear q3 hw HALL HP)
  go_region
  all_goals (try go_wp2)
  all_goals go_ret2
  all_goals exact ⟨_, rfl, (HQ.out w1 (Same.refl _)).1.same (Same.drew _), (HQ.out w1 (Same.refl _)).2.trans ((Same.drew _).turn _)⟩
theorem take_i64 (l : List Int) (k : Nat) (h : k < l.length) : i64s (l.take (k + 1)) = i64s (l.take k) ++ [.int .i64 l[k]] := by
  unfold i64s
  rw [List.take_succ_eq_append_getElem h, List.map_append]
  rfl
set_option maxHeartbeats 2000000 in
set_option maxRecDepth 100000 in
theorem rAll_any (h : Stk 59 3 w b F (i64s l) r) : Calls Try.prog 17 #[.pointer (some ⟨b, 0, none⟩)] w fun e w' => ∃ p c, e = .returned (.slice p l.length c) ∧ RowAt 3 w' p c (i64s l) ∧ Abv w.heap.size (fpR p) ∧ Below w.heap.size w w' := by
  obtain ⟨pp, cc, hs, rfl⟩ := h
  have HM := Lib.hid hs
  have hb := hs.ltB
  have hn : l.length ≤ 65536 := by
    have h1 := hs.fits
    have h2 := hs.most
    rw [i64s_len] at h1
    omega
  clear hs
  obtain ⟨n, hnn⟩ : ∃ n, n = l.length := ⟨_, rfl⟩
  rw [← hnn] at hn ⊢
  have HNN := Lib.hid hnn
  clear hnn
  obtain ⟨i0, hi, hz0, hz1, hz2⟩ := info_parts iInfo
  have HZI := Lib.hid (And.intro hi (And.intro hz0 (And.intro hz1 hz2)))
  clear hi hz0 hz1 hz2
  go_enter Try.func17, Try.ntmps17
  go_wp2
  go_loopw [3, 4] (fun v vi wr => ∃ k : Nat, vi = .int .i64 k ∧ k ≤ n ∧ Hid (wr.ownsRow w.heap.size 3 1 v k (i64s (l.take k))) ∧ Hid (Below w.heap.size w wr)) (fun _ vi _ => n - (intOf vi).toNat)
  case atStart => exact ⟨0, rfl, Nat.zero_le _, World.ownsRow_nil _ _ _ _, Below.refl _ _⟩
  case round =>
    obtain ⟨k, rfl, hk, HO, HB⟩ := hrel
    have q0 : wr.cell? ⟨b, 0, none⟩ = some (.slice pp n cc) := by
      rw [HB.out.cell (p := ⟨b, 0, none⟩) hb, HM.out.cell0, i64s_len, ← HNN.out]
    by_cases hlt : k < n
    · have hlt' : (k : Int) < (n : Int) := by omega
      have hkw : k < l.length := by rw [← HNN.out]; exact hlt
      obtain ⟨g, hpp, hg, _, _, _, _, hc⟩ := HM.out.some_at (by rw [i64s_len]; omega)
      subst hpp
      have q1 : wr.cell? ⟨g, k, none⟩ = some (.int .i64 l[k]) := by
        rw [HB.out.cell (p := ⟨g, k, none⟩) hg, hc k (by rw [i64s_len]; exact hkw), i64s_at l k _ hkw]
      have hgw : g < wr.heap.size := Nat.lt_of_lt_of_le hg HB.out.size
      have HT := Lib.hid (take_i64 l k hkw)
      obtain ⟨x, hx⟩ : ∃ x, x = l[k] := ⟨_, rfl⟩
      rw [← hx] at q1 HT
      clear hx hc hg
      have HS : Hid (w.heap.size ≤ wr.heap.size) := HB.out.size
      go_wp2_with (at_builtin; refine wpList_append_own _ rfl _ _ 36 rfl w.heap.size 3 i0 (.int .i64 0) 1 8 Try.underlying36 HZI.out.1 HZI.out.2.1 HZI.out.2.2.1 HZI.out.2.2.2 rfl (by decide) _ k _ rfl (World.ownsRow.alloc HO.out _) ⟨wr.heap.size, 0, none⟩ 1 1 [.int .i64 x] rfl rfl (cell_one_new _ _ _) (fun u hu => by simp at hu; subst hu; rfl) (by unfold maxLen; omega) (by omega) (by have := HS.out; simp; omega) ?_; intro v3 w3 hown3 hgrow3 hnil3; replace hown3 := Lib.hid hown3; replace hgrow3 := Lib.hid hgrow3; clear hnil3)
      have HF : Hid (w3.ownsRow w.heap.size 3 1 v3 (k + 1) (i64s (l.take (k + 1)))) := by
        show w3.ownsRow _ _ _ _ _ _
        rw [HT.out]
        exact hown3.out
      have HG : Hid (Below w.heap.size w w3) := (HB.out.alloc HB.out.size _).grown hgrow3.out (Nat.le_trans HS.out (by simp)) (fun j hj => (World.ownsRow.lt HO.out j hj).1)
      exact ⟨⟨k + 1, by first | rfl | (congr 1), by omega, HF, HG⟩, by simp [intOf]; omega⟩
    · have hlt' : ¬ (k : Int) < (n : Int) := by omega
      have e : k = n := by omega
      subst e
      have h0 := HO.out
      rw [HNN.out, List.take_length, ← HNN.out] at h0
      obtain ⟨p, c, hv, hr, ha⟩ := ownsRow_based h0
      rw [i64s_len, ← HNN.out] at hv
      subst hv
      have HF := Lib.hid (And.intro hr ha)
      clear h0 HO hlt hr ha
      go_wp2
      go_ret
      exact ⟨p, c, rfl, HF.out.1, HF.out.2, HB.out⟩
theorem rPop_any (h : Stk 59 3 w b F (i64s l) r) : Calls Try.prog 34 #[.pointer (some ⟨b, 0, none⟩)] w fun e w' => ∃ F', e = .returned (.tuple #[Value.int .i64 (pickV 0 l 0), .int .i64 (pickE l 0)]) ∧ Stk 59 3 w' b F' (i64s l.dropLast) r ∧ Turn F F' w w' := by
  rcases List.eq_nil_or_concat l with rfl | ⟨m, x, rfl⟩
  · exact (rPop_none h).mono fun e w' ⟨he, hw⟩ => ⟨_, he, hw ▸ h, hw ▸ Turn.refl _ _⟩
  · rw [List.concat_eq_append] at h ⊢
    refine (rPop_some h).mono fun e w' ⟨F', he, h1, h2⟩ => ⟨F', ?_, by rw [List.dropLast_concat]; exact h1, h2⟩
    have hin : inB (m ++ [x]).length 0 = true := by simp [inB]
    have e1 : pickV 0 (m ++ [x]) 0 = x := by
      unfold pickV
      rw [hin]
      simp [List.getD]
    have e2 : pickE (m ++ [x]) 0 = 0 := by
      unfold pickE
      rw [hin]
      rfl
    rw [he, e1, e2]
end
end Go.Proofs.Yteeemjidjckimaa
