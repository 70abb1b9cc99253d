import Derived.Test.YtaliehikdidiaaaGreatDoorS1
namespace Go.Proofs.YtaliehikdidiaaaGreatDoor
open Go.ChangeShapes Go.WideShapes Go.ChangeAt Go.RowKit

theorem iInfo : (Tryz.prog.info? 3).map (fun i => (i.zero, i.size, i.bytes)) = some (some (.int .i64 0), 1, 8) := by kernel_rfl
theorem iNew_any (r : Int) (w : World) : Calls Tryz.prog 88 #[.int .i64 r] w fun e w' => ∃ b, e = .returned (.pointer (some ⟨b, 0, none⟩)) ∧ b = w.heap.size ∧ Stk 169 3 w' b [b] [] (roomV r) ∧ Below w.heap.size w w' := by
  have H0 := Lib.hid (fun r0 => stk_new w 169 3 r0)
  have HB := Lib.hid (fun o => (Below.refl w.heap.size w).alloc (Nat.le_refl _) o)
  have HR := Lib.hid (roomV_ok r)
  by_cases h1 : r < 0
  · have e : roomV r = 0 := by simp [roomV, h1]
    rw [e] at HR ⊢
    have h1' : ¬ 0 ≤ r := by omega
    clear e
    go_enter Tryz.func88, Tryz.ntmps88
    go_wp2
    go_ret
    exact ⟨_, rfl, rfl, H0.out _ HR.out.1 HR.out.2, HB.out _⟩
  · by_cases h2 : 65536 < r
    · have e : roomV r = 65536 := by simp [roomV, h1, h2]
      rw [e] at HR ⊢
      clear e
      go_enter Tryz.func88, Tryz.ntmps88
      go_wp2
      go_ret
      exact ⟨_, rfl, rfl, H0.out _ HR.out.1 HR.out.2, HB.out _⟩
    · have e : roomV r = r := by simp [roomV, h1, h2]
      rw [e] at HR ⊢
      clear e
      go_enter Tryz.func88, Tryz.ntmps88
      go_wp2
      go_ret
      exact ⟨_, rfl, rfl, H0.out _ HR.out.1 HR.out.2, HB.out _⟩
section
variable {w : World} {b : Nat} {F : List Nat} {l : List Int} {r : Int}
theorem iLen_any (h : Stk 169 3 w b F (i64s l) r) : Calls Tryz.prog 154 #[.pointer (some ⟨b, 0, none⟩)] w fun e w' => e = .returned (.int .i64 l.length) ∧ w' = w := by
  obtain ⟨p, c, hs, rfl⟩ := h
  have h0 := hs.cell0
  rw [i64s_len] at h0
  have hb := hs.ltB
  clear hs
  go_enter Tryz.func154, Tryz.ntmps154
  go_wp2
  go_ret
  exact ⟨rfl, rfl⟩
theorem iRoom_any (h : Stk 169 3 w b F (i64s l) r) : Calls Tryz.prog 155 #[.pointer (some ⟨b, 0, none⟩)] w fun e w' => e = .returned (.int .i64 r) ∧ w' = w := by
  obtain ⟨p, c, hs, rfl⟩ := h
  have h0 := hs.cell1
  have hb := hs.ltB
  clear hs
  go_enter Tryz.func155, Tryz.ntmps155
  go_wp2
  go_ret
  exact ⟨rfl, rfl⟩
set_option maxRecDepth 100000 in
set_option maxHeartbeats 1000000 in
theorem iPush_any (h : Stk 169 3 w b F (i64s l) r) (x : Int) : Calls Tryz.prog 163 #[.pointer (some ⟨b, 0, none⟩), Value.int .i64 x] w fun e w' => ∃ F', e = .returned (.int .i64 (pushE l r)) ∧ Stk 169 3 w' b F' (i64s (pushL l r x)) r ∧ Turn F F' w w' := by
  have HS := Lib.hid h
  obtain ⟨p, c, hs, rfl⟩ := h
  have h0 := hs.cell0
  have h1 := hs.cell1
  have hb := hs.ltB
  have hf := hs.free 0
  have hm := hs.most
  rw [i64s_len] at h0
  by_cases hlt : (l.length : Int) < r
  · have e1 : pushE l r = 0 := by simp [pushE, hlt]
    have e2 : pushL l r x = l ++ [x] := by simp [pushL, hlt]
    rw [e1, e2, i64s_snoc]
    clear e1 e2
    obtain ⟨i0, hi, hz0, hz1, hz2⟩ := info_parts iInfo
    have HZI := Lib.hid (And.intro hi (And.intro hz0 (And.intro hz1 hz2)))
    have HA : Hid (∀ k, StAt 169 3 (w.drewN k) b p c (i64s l) r) := fun k => hs.keep ((Same.drewN w k).kept _)
    have HO : Hid (∀ k, (w.drewN k).ownsRow 0 3 1 (.slice p l.length c) l.length (i64s l)) := fun k => by
      have := (HA.out k).row.own
      rw [i64s_len] at this
      exact this
    have HMORE : Hid (∀ k o w3 v, w3.ownsRow 0 3 1 v (l.length + 1) (i64s l ++ [Value.int .i64 x]) → ((w.drewN k).alloc o).grownBy w3 (Value.slice p l.length c).ownBlock → (v.ownBlock = (Value.slice p l.length c).ownBlock ∨ v.ownBlock = some ((w.drewN k).alloc o).heap.size) → ∃ p' c', v = .slice p' (l.length + 1) c' ∧ Stk 169 3 (w3.setCell ⟨b, 0, none⟩ (.slice p' (l.length + 1) c')) b (b :: fpR p') (i64s l ++ [Value.int .i64 x]) r ∧ Turn (b :: fpR p) (b :: fpR p') w (w3.setCell ⟨b, 0, none⟩ (.slice p' (l.length + 1) c')) ∧ w3.cell? ⟨b, 0, none⟩ = some (.slice p l.length c) ∧ w3.frozen? ⟨b, 0, none⟩ = false ∧ b < w3.heap.size) := by
      intro k o w3 v ho hg hat
      have hne : some b ≠ (Value.slice p l.length c).ownBlock := fun q => hs.ne (own_fpR.2 q.symm)
      have hbk := hg.block b (by simp; have := hs.ltB; omega) hne
      have e := (hs.alloc_box k o)
      have hm3 := (HA.out k).more (w3 := w3) (v := v) (o := o) (x := Value.int .i64 x) (by rw [i64s_len]; exact ho) (by rw [i64s_len]; exact hg) (by rw [i64s_len]; exact hat) (by rw [i64s_len]; exact hlt)
      rw [i64s_len] at hm3
      obtain ⟨p', c', q1, q2, q3⟩ := hm3
      rw [e, i64s_len] at hbk
      refine ⟨p', c', q1, q2, ((Same.drewN w k).turn _).trans q3, ?_, frozen_of_row w3 b 0 _ _ hbk, lt_of_block hbk⟩
      rw [cell_of_row w3 b 0 _ _ _ hbk]
      rfl
    have HLT := Lib.hid (And.intro hlt hm)
    clear hi hz0 hz1 hz2 hs hm
    go_enter Tryz.func163, Tryz.ntmps163
    go_wp2
    go_quiet (fail)
    go_wp2_with (at_builtin; refine wpList_append_own_at _ rfl _ _ 163 rfl 0 3 i0 (.int .i64 0) 1 8 Tryz.underlying163 HZI.out.1 HZI.out.2.1 HZI.out.2.2.1 HZI.out.2.2.2 rfl (by decide) _ l.length (i64s l) rfl (World.ownsRow.alloc (HO.out _) _) ⟨w.heap.size, 0, none⟩ 1 1 [Value.int .i64 x] rfl rfl (cell_one_new _ _ _) (fun u hu => by simp at hu; subst hu; rfl) (by have := HLT.out; unfold maxLen; omega) (by have := HLT.out; omega) (Nat.zero_le _) ?_; intro v3 w3 hown3 hgrow3 hnil3 hat3; obtain ⟨p', c', hv3, q1, q2, q3, q4, q5⟩ := HMORE.out _ _ _ _ hown3 hgrow3 hat3; subst hv3; have HQ := Lib.hid (And.intro q1 q2); clear hown3 hgrow3 hnil3 hat3 q1 q2 HMORE)
    go_ret
    exact ⟨_, rfl, HQ.out.1, HQ.out.2⟩
  · have e1 : pushE l r = 40 := by simp [pushE, hlt]
    have e2 : pushL l r x = l := by simp [pushL, hlt]
    rw [e1, e2]
    clear e1 e2 hs hm
    go_enter Tryz.func163, Tryz.ntmps163
    go_wp2
    go_quiet (fail)
    go_wp2
    go_ret
    exact ⟨_, rfl, HS.out.same (Same.drewN _ _), (Same.drewN _ _).turn _⟩
theorem iPick_none (h : Stk 169 3 w b F (i64s l) r) (i : Int) (hi : inB l.length i = false) : Calls Tryz.prog 172 #[.pointer (some ⟨b, 0, none⟩), .int .i64 i] w fun e w' => e = .returned (.tuple #[Value.int .i64 0, .int .i64 41]) ∧ w' = w := by
  obtain ⟨p, c, hs, rfl⟩ := h
  have h0 := hs.cell0
  have hb := hs.ltB
  rw [i64s_len] at h0
  have hi := of_decide_eq_false hi
  clear hs
  by_cases h1 : i < 0
  · clear hi
    go_enter Tryz.func172, Tryz.ntmps172
    go_wp2
    go_ret2
    exact ⟨rfl, rfl⟩
  · have h2 : (l.length : Int) ≤ i := by omega
    clear hi
    go_enter Tryz.func172, Tryz.ntmps172
    go_wp2
    go_ret2
    exact ⟨rfl, rfl⟩
set_option maxRecDepth 100000 in
theorem iPick_drew (h : Stk 169 3 w b F (i64s l) r) (k j : Nat) (hk : j + 1 + k = l.length) (x : Int) (hx : l[j]? = some x) : Calls Tryz.prog 172 #[.pointer (some ⟨b, 0, none⟩), .int .i64 k] w fun e w' => e = .returned (.tuple #[Value.int .i64 x, .int .i64 0]) ∧ ∃ q, w' = w.drewN q := by
  obtain ⟨p, c, hs, rfl⟩ := h
  have h0 := hs.cell0
  have hb := hs.ltB
  obtain ⟨g, rfl, hg, _, _, _, _, hc⟩ := hs.some_at (by rw [i64s_len]; omega)
  have hj : w.cell? ⟨g, j, none⟩ = some (Value.int .i64 x) := by
    rw [hc j (by rw [i64s_len]; omega), i64s_at l j _ (by omega)]
    rw [List.getElem?_eq_getElem (by omega)] at hx
    rw [Option.some.inj hx]
  have hm := hs.most
  have hfi := hs.fits
  rw [i64s_len] at h0 hfi
  have hn : l.length ≤ 65536 := by omega
  clear hs hc hx hfi hm
  obtain ⟨n, hnn⟩ : ∃ n, n = l.length := ⟨_, rfl⟩
  rw [← hnn] at h0 hk hn
  clear hnn
  subst hk
  have k1 : (k : Int) < ((j + 1 + k : Nat) : Int) := by omega
  have e1 : ((j + 1 + k : Nat) : Int) - 1 - (k : Int) = (j : Int) := by omega
  have k2 : (j : Int) < ((j + 1 + k : Nat) : Int) := by omega
  go_enter Tryz.func172, Tryz.ntmps172
  go_wp2
  go_quiet (fail)
  go_wp2
  go_ret2
  exact ⟨rfl, _, rfl⟩
theorem iPick_some (h : Stk 169 3 w b F (i64s l) r) (k j : Nat) (hk : j + 1 + k = l.length) (x : Int) (hx : l[j]? = some x) : Calls Tryz.prog 172 #[.pointer (some ⟨b, 0, none⟩), .int .i64 k] w fun e w' => e = .returned (.tuple #[Value.int .i64 x, .int .i64 0]) ∧ Same w w' :=
  (iPick_drew h k j hk x hx).mono fun _ _ ⟨he, _, hq⟩ => ⟨he, hq ▸ Same.drewN _ _⟩
theorem iPick_any (h : Stk 169 3 w b F (i64s l) r) (i : Int) : Calls Tryz.prog 172 #[.pointer (some ⟨b, 0, none⟩), .int .i64 i] w fun e w' => e = .returned (.tuple #[Value.int .i64 (pickV 0 l i), .int .i64 (pickE l i)]) ∧ Same w w' := by
  unfold pickV pickE
  cases hi : inB l.length i
  · exact (iPick_none h i hi).mono fun e w' ⟨he, hw⟩ => ⟨he, hw ▸ Same.refl _⟩
  · have hh := of_decide_eq_true hi
    obtain ⟨k, rfl⟩ : ∃ k : Nat, i = k := ⟨i.toNat, by omega⟩
    have hj : l.length - 1 - k < l.length := by omega
    refine (iPick_some h k (l.length - 1 - k) (by omega) l[l.length - 1 - k] (by simp)).mono fun e w' ⟨he, hw⟩ => ⟨?_, hw⟩
    rw [he]
    simp [List.getD, hj]
theorem iPop_none (h : Stk 169 3 w b F (i64s []) r) : Calls Tryz.prog 161 #[.pointer (some ⟨b, 0, none⟩)] w fun e w' => e = .returned (.tuple #[Value.int .i64 0, .int .i64 41]) ∧ w' = w := by
  have HS := Lib.hid h
  clear h
  go_enter Tryz.func161, Tryz.ntmps161
  go_wp2_with (go_at_call 172; refine (iPick_none HS.out _ (by decide)).mono ?_; rintro e w1 ⟨rfl, hw⟩; subst w1)
  go_ret2
  exact ⟨rfl, rfl⟩
theorem iZero : ∀ w, (zeroValue 3).run Tryz.prog w = .ok (.int .i64 0) w := by
  intro w
  obtain ⟨i0, hi, hz0, _, _⟩ := info_parts iInfo
  simp [zeroValue, typeInfo, hi, hz0]
theorem iWipe {w : World} {b g c : Nat} {m : List Int} {x : Int} {r : Int} (h : StAt 169 3 w b (some ⟨g, 0, none⟩) c (i64s m ++ [Value.int .i64 x]) r) : ∀ ty, (Builtin.clear_ #[163] ty #[.slice (some ⟨g, m.length, none⟩) 1 (c - m.length)]).run Tryz.prog w = .ok (.tuple #[]) (w.setCell ⟨g, m.length, none⟩ (.int .i64 0)) := by
  intro ty
  obtain ⟨g', hg', _, hn, _, hc, hf, _⟩ := h.some_at (by simp)
  cases hg'
  have hl : (i64s m ++ [Value.int .i64 x]).length = m.length + 1 := by simp [i64s_len]
  exact Lib.run_clear_slice w 163 3 ty (.int .i64 0) Tryz.underlying163 iZero rfl rfl g m.length 1 (c - m.length) (by decide) (fun j hj => hc _ (by omega)) (fun j _ => hf _)
set_option maxRecDepth 100000 in
set_option maxHeartbeats 1000000 in
theorem iPop_some {m : List Int} {x : Int} (h : Stk 169 3 w b F (i64s (m ++ [x])) r) : Calls Tryz.prog 161 #[.pointer (some ⟨b, 0, none⟩)] w fun e w' => ∃ F', e = .returned (.tuple #[Value.int .i64 x, .int .i64 0]) ∧ Stk 169 3 w' b F' (i64s m) r ∧ Turn F F' w w' := by
  have HS := Lib.hid h
  obtain ⟨p, c, hs, rfl⟩ := h
  obtain ⟨g, rfl, hg, hc, hmx, _, hff, _⟩ := hs.some_at (by rw [i64s_len]; simp)
  have hb := hs.ltB
  have hn : m.length + 1 ≤ 65536 := by
    have h1 := hs.fits
    have h2 := hs.most
    rw [i64s_len] at h1
    simp at h1
    omega
  have hc' : m.length + 1 ≤ c := by rw [i64s_len] at hc; simpa using hc
  have hmx' : c ≤ 9223372036854775807 := hmx
  have HA : Hid (∀ w1, Same w w1 → StAt 169 3 w1 b (some ⟨g, 0, none⟩) c (i64s m ++ [Value.int .i64 x]) r) := fun w1 k => by
    have := hs.keep (k.kept _)
    rw [i64s_snoc] at this
    exact this
  have HP := Lib.hid (iPick_some HS.out 0 m.length (by simp) x (by simp))
  clear hs hc hmx
  have HALL : Hid (∀ w1, Same w w1 → w1.cell? ⟨b, 0, none⟩ = some (.slice (some ⟨g, 0, none⟩) (m.length + 1) c) ∧ (w1.setCell ⟨g, m.length, none⟩ (.int .i64 0)).cell? ⟨b, 0, none⟩ = some (.slice (some ⟨g, 0, none⟩) (m.length + 1) c) ∧ (w1.setCell ⟨g, m.length, none⟩ (.int .i64 0)).frozen? ⟨b, 0, none⟩ = false ∧ b < w1.heap.size ∧ (∀ ty, (Builtin.clear_ #[163] ty #[.slice (some ⟨g, m.length, none⟩) 1 (c - m.length)]).run Tryz.prog w1 = .ok (.tuple #[]) (w1.setCell ⟨g, m.length, none⟩ (.int .i64 0))) ∧ Stk 169 3 ((w1.setCell ⟨g, m.length, none⟩ (.int .i64 0)).setCell ⟨b, 0, none⟩ (.slice (some ⟨g, 0, none⟩) m.length c)) b [b, g] (i64s m) r ∧ Turn [b, g] [b, g] w ((w1.setCell ⟨g, m.length, none⟩ (.int .i64 0)).setCell ⟨b, 0, none⟩ (.slice (some ⟨g, 0, none⟩) m.length c))) := by
    intro w1 k
    have a := HA.out w1 k
    have hl : (i64s m ++ [Value.int .i64 x]).length = m.length + 1 := by simp [i64s_len]
    have q := a.less (.int .i64 0)
    have q0 := a.cell0
    have hne : b ≠ g := fun z => a.ne (by simp [fpR, z])
    have hbx : (w1.setCell ⟨g, m.length, none⟩ (.int .i64 0)).heap[b]? = w1.heap[b]? := heap_setCell_other _ _ _ _ hne
    rw [i64s_len] at q
    rw [hl] at q0
    exact ⟨q0, (World.cell?_of_block (a := ⟨b, 0, none⟩) hbx).trans q0, (World.frozen?_of_block (a := ⟨b, 0, none⟩) hbx).trans (a.free 0), a.ltB, iWipe a, q.1, (k.turn _).trans q.2⟩
  clear HS
  have e1 : ((m.length + 1 : Nat) : Int) - 1 = (m.length : Int) := by omega
  have e2 : m.length + 1 - m.length = 1 := by omega
  have k1 : (m.length : Int) ≤ ((m.length + 1 : Nat) : Int) := by omega
  have k2 : (m.length : Int) ≤ (c : Int) := by omega
  go_enter Tryz.func161, Tryz.ntmps161
  go_wp2_with (go_at_call 172; refine HP.out.mono ?_; rintro e w1 ⟨rfl, hw⟩; obtain ⟨q0, q1, q2, q3, q4, q5, q6⟩ := HALL.out w1 hw; have HQ := Lib.hid (And.intro q5 q6); clear q5 q6 hw HALL HP)
  go_ret2
  exact ⟨_, rfl, HQ.out.1, HQ.out.2⟩
theorem iMake (n : Nat) (hn : n ≤ 65536) (w : World) : (Instr.makeSlice 163 (.int .i64 (n : Int)) (.int .i64 (n : Int))).run Tryz.prog w = .ok (.slice (some ⟨w.heap.size, 0, none⟩) n n) (w.alloc (.cells (i64s (List.replicate n 0)).toArray 3)) := by
  obtain ⟨i, hi, hz0, hz1, hz2⟩ := info_parts iInfo
  rw [run_make w 163 3 i (.int .i64 0) Tryz.underlying163 hi hz0 .i64 .i64 n n (by omega) (Int.le_refl _) (by rw [hz2]; omega) (by omega)]
  have e : (madeCells (.int .i64 0 : Value).cells (((n : Int)).toNat * i.size)) = (i64s (List.replicate n 0)).toArray := by
    rw [hz1, Nat.mul_one, Int.toNat_natCast]
    apply Array.toList_inj.1
    rw [show (.int .i64 0 : Value).cells = #[.int .i64 0] from rfl, toList_madeCells_one]
    simp [i64s]
  rw [e, Int.toNat_natCast]
theorem iCopy {w : World} {p : Option Addr} {c : Nat} {l : List Int} (h : RowAt 3 w p c (i64s l)) : ∃ W2, (∀ ty, (Builtin.copy_ #[163, 163] ty #[.slice (some ⟨w.heap.size, 0, none⟩) l.length l.length, .slice p l.length c]).run Tryz.prog (w.alloc (.cells (i64s (List.replicate l.length 0)).toArray 3)) = .ok (goInt l.length) W2) ∧ RowAt 3 W2 (some ⟨w.heap.size, 0, none⟩) l.length (i64s l) ∧ Below w.heap.size w W2 := by
  have ho := h.own
  rw [i64s_len] at ho
  rcases ho.2 with ⟨hv, h0⟩ | ⟨g, cap, cur, hv, _, hg, hc, hm, hs, ht⟩
  · have hl : l = [] := List.eq_nil_of_length_eq_zero h0
    subst hl
    cases hv
    refine ⟨w.alloc (.cells (i64s (List.replicate 0 0)).toArray 3), fun ty => ?_, ⟨?_⟩, (Below.refl _ _).alloc (Nat.le_refl _) _⟩
    · obtain ⟨i, hi, hz0, hz1, hz2⟩ := info_parts iInfo
      simp [Builtin.copy_, run_underlying Tryz.underlying163, Builtin.lenOf, Builtin.firstCells, sizeOf, typeInfo, hi, storeCells]
    · exact World.ownsRow_lit w _ 0 (Nat.zero_le _) (by unfold maxLen; omega) (by simp [i64s])
  · cases hv
    have hr := fun ty => run_copy_row (P := Tryz.prog) (w.alloc (.cells (i64s (List.replicate l.length 0)).toArray 3)) 163 163 ty 3 w.heap.size 0 l.length l.length ⟨g, 0, none⟩ l.length c (i64s (List.replicate l.length 0)).toArray 3 (i64s l) Tryz.underlying163 (by kernel_rfl) (heap_alloc_new _ _) (by rw [i64s_len]; exact (Nat.min_self _).symm) (fun j v hj => by
      rw [World.ownsRow.cells (ho.alloc _) (g := g) rfl j v hj]) (by simp [i64s_len]) (fun v hv => by
      unfold i64s at hv
      obtain ⟨x, _, rfl⟩ := List.mem_map.1 hv
      rfl)
    have e : (List.take 0 (i64s (List.replicate l.length 0)).toArray.toList ++ i64s l ++ List.drop (0 + (i64s l).length) (i64s (List.replicate l.length 0)).toArray.toList) = i64s l := by
      rw [List.drop_of_length_le (by simp [i64s_len])]
      simp
    refine ⟨(w.alloc (.cells (i64s (List.replicate l.length 0)).toArray 3)).setRow w.heap.size (i64s l).toArray, fun ty => (hr ty).trans (by rw [e, i64s_len]), ⟨?_⟩, ((Below.refl _ _).alloc (Nat.le_refl _) _).trans ⟨rfl, rfl, rfl, by simp, fun k hk => setRow_other _ _ _ _ (Nat.ne_of_lt hk)⟩⟩
    refine ⟨by simp, .inr ⟨w.heap.size, l.length, (i64s l).toArray, by rw [i64s_len], Nat.zero_le _, setRow_heap _ _ _ _ _ _ (heap_alloc_new _ _), by rw [i64s_len]; exact Nat.le_refl _, by omega, by simp [i64s_len], by simp⟩⟩
theorem iPop_any (h : Stk 169 3 w b F (i64s l) r) : Calls Tryz.prog 161 #[.pointer (some ⟨b, 0, none⟩)] w fun e w' => ∃ F', e = .returned (.tuple #[Value.int .i64 (pickV 0 l 0), .int .i64 (pickE l 0)]) ∧ Stk 169 3 w' b F' (i64s l.dropLast) r ∧ Turn F F' w w' := by
  rcases List.eq_nil_or_concat l with rfl | ⟨m, x, rfl⟩
  · exact (iPop_none h).mono fun e w' ⟨he, hw⟩ => ⟨_, he, hw ▸ h, hw ▸ Turn.refl _ _⟩
  · rw [List.concat_eq_append] at h ⊢
    refine (iPop_some h).mono fun e w' ⟨F', he, h1, h2⟩ => ⟨F', ?_, by rw [List.dropLast_concat]; exact h1, h2⟩
    have hin : inB (m ++ [x]).length 0 = true := by simp [inB]
    have e1 : pickV 0 (m ++ [x]) 0 = x := by
      unfold pickV
      rw [hin]
      simp [List.getD]
    have e2 : pickE (m ++ [x]) 0 = 0 := by
      unfold pickE
      rw [hin]
      rfl
    rw [he, e1, e2]
end
end Go.Proofs.YtaliehikdidiaaaGreatDoor
