import Derived.Test.YtffgnfbfifooeabDoorT18
namespace Go.Proofs.YtffgnfbfifooeabDoor
open Go.ChangeShapes Go.WideShapes Go.ChangeAt Go.RowKit Num

theorem at_index (s : ByteArray) (i : Nat) (h : i < s.size) (W : World) : (Instr.index 9 (.string s) (.int .i64 (i : Int))).run Tryd.prog W = .ok (.int .u8 ((s.data.toList.getD i 0).toNat : Int)) W := by
  rw [run_index_string W 9 s .i64 i Tryd.underlying9, dif_pos ⟨by omega, by omega⟩, Lib.getD_at s _ (by omega)]
  rfl
theorem pushW_cons {acc : List (List UInt8)} {pc : List UInt8} (h : pc ≠ []) : pushW acc pc = addL acc pc := by
  unfold pushW addL
  rw [if_neg h]
theorem pushW_nil {acc : List (List UInt8)} {pc : List UInt8} (h : pc = []) : pushW acc pc = acc := by
  unfold pushW
  rw [if_pos h]

/-! the document's pieces -/
set_option maxHeartbeats 2000000 in
set_option maxRecDepth 100000 in
theorem refSplit_any (s : ByteArray) (w : World) (hs : s.size ≤ 1024) : Calls Tryd.prog 18 #[.string s] w fun e w' => ∃ v, e = .returned (.tuple #[v, .int .i64 0]) ∧ Lst w.heap.size w' v (wordsOf s.data.toList) ∧ Below w.heap.size w w' := by
  have h' : ¬ (1024 : Int) < (s.size : Int) := by omega
  have HLN := Lib.hid (size_list s)
  obtain ⟨i0, hi, hz0, hz1, hz2⟩ := info_parts strInfo
  obtain ⟨R, hR⟩ : ∃ R, R = wordsOf s.data.toList := ⟨_, rfl⟩
  rw [← hR]
  have HR := Lib.hid hR
  clear hR
  go_enter Tryd.func18, Tryd.ntmps18
  go_wp2
  go_loopw [4, 5, 6] (fun vw vs vi wr => ∃ (v : Value) (pos start : Nat) (acc : List (List UInt8)), v = vw ∧ vs = .int .i64 start ∧ vi = .int .i64 pos ∧ start ≤ pos ∧ pos ≤ s.size + 1 ∧ Hid (Lst w.heap.size wr v acc) ∧ Hid (Below w.heap.size w wr) ∧ Hid (acc.length ≤ pos ∧ ((pos ≤ s.size ∧ R = cutA isSep pushW (s.data.toList.drop pos) acc (piece s.data.toList start pos)) ∨ (s.size < pos ∧ R = acc)))) (fun _ _ vi _ => s.size + 1 - (intOf vi).toNat)
  case atStart => exact ⟨_, 0, 0, [], rfl, rfl, rfl, Nat.le_refl _, Nat.zero_le _, Lst.nil _ _, Below.refl _ _, Nat.le_refl _, .inl ⟨Nat.zero_le _, HR.out⟩⟩
  case round =>
    obtain ⟨v, pos, start, acc, rfl, rfl, rfl, hsp, hps, HL, HB, HA⟩ := hrel
    by_cases hp : pos ≤ s.size
    · have hple : (pos : Int) ≤ (s.size : Int) := by omega
      have hacc : acc.length ≤ 1024 := by have := HA.out.1; omega
      have hsl := piece_slice s hsp hp
      have HPL : Hid ((piece s.data.toList start pos).length = pos - start) := piece_length _ _ _ (by rw [← HLN.out]; exact hp)
      have HA1 : Hid (acc.length ≤ pos ∧ R = cutA isSep pushW (s.data.toList.drop pos) acc (piece s.data.toList start pos)) := by
        rcases HA.out with ⟨h1, ⟨_, h2⟩ | ⟨h2, _⟩⟩
        · exact ⟨h1, h2⟩
        · omega
      clear HA
      have HFIN : Hid ((R = pushW acc (piece s.data.toList start pos) ∧ pos = s.size ∨ R = cutA isSep pushW (s.data.toList.drop (pos + 1)) (pushW acc (piece s.data.toList start pos)) (piece s.data.toList (pos + 1) (pos + 1)) ∧ pos < s.size) → ∀ v' W2, Lst w.heap.size W2 v' (pushW acc (piece s.data.toList start pos)) → wr.grownBy W2 v.ownBlock → (∃ (v : Value) (p st : Nat) (acc : List (List UInt8)), v = v' ∧ Value.int .i64 ((pos : Int) + 1) = .int .i64 (st : Int) ∧ Value.int .i64 ((pos : Int) + 1) = .int .i64 (p : Int) ∧ st ≤ p ∧ p ≤ s.size + 1 ∧ Hid (Lst w.heap.size W2 v acc) ∧ Hid (Below w.heap.size w W2) ∧ Hid (acc.length ≤ p ∧ ((p ≤ s.size ∧ R = cutA isSep pushW (s.data.toList.drop p) acc (piece s.data.toList st p)) ∨ (s.size < p ∧ R = acc)))) ∧ s.size + 1 - (intOf (.int .i64 ((pos : Int) + 1))).toNat < s.size + 1 - (intOf (.int .i64 (pos : Int))).toNat) := by
        intro hq v' W2 hL2 hg2
        refine ⟨⟨v', pos + 1, pos + 1, _, rfl, by first | rfl | (congr 1), by first | rfl | (congr 1), Nat.le_refl _, by omega, hL2, HL.out.below HB.out (Nat.le_refl _) HB.out.size hg2, by have := HA1.out.1; have := pushW_length acc (piece s.data.toList start pos); omega, ?_⟩, by simp [intOf]; omega⟩
        rcases hq with ⟨q1, q2⟩ | ⟨q1, q2⟩
        · exact .inr ⟨by omega, q1⟩
        · exact .inl ⟨by omega, q1⟩
      by_cases hpe : pos = s.size
      · have hq : ((pos : Int) == (s.size : Int)) = true := by rw [hpe]; simp
        have HF1 : Hid (R = pushW acc (piece s.data.toList start pos) ∧ pos = s.size) := ⟨HA1.out.2.trans (cut_end _ _ _ _ (by rw [← HLN.out]; omega)), hpe⟩
        have HF := Lib.hid (HFIN.out (.inl HF1.out))
        clear HFIN HF1 HA1 hpe
        generalize piece s.data.toList start pos = pc at *
        by_cases hst : (start : Int) < (pos : Int)
        · have HPC : Hid (pushW acc pc = addL acc pc) := pushW_cons (fun q => by have := HPL.out; rw [q] at this; simp at this; omega)
          go_wp2_with (at_builtin; refine wpList_append_own _ rfl _ _ 24 rfl w.heap.size 9 i0 (.string ByteArray.empty) 1 16 Tryd.underlying24 hi hz0 hz1 hz2 rfl (by decide) _ _ _ rfl (World.ownsRow.alloc HL.out _) ⟨wr.heap.size, 0, none⟩ 1 1 [.string ⟨pc.toArray⟩] rfl rfl (cell_one_new _ _ _) (fun x hx => by simp at hx; subst hx; rfl) (by unfold maxLen; omega) (by omega) (by have := HB.out.size; simp; omega) ?_; intro v' w3 hown' hgrow3 hnil3)
          exact HF.out _ _ (by rw [HPC.out]; exact Lst.add hown') (grown_trans2 (World.grownBy_alloc _ _ _) hgrow3)
        · have HPC : Hid (pushW acc pc = acc) := pushW_nil (List.eq_nil_of_length_eq_zero (by rw [HPL.out]; omega))
          go_wp2
          exact HF.out _ _ (by rw [HPC.out]; exact HL.out) ⟨rfl, rfl, rfl, Nat.le_refl _, fun _ _ _ => rfl⟩
      · have hlt : pos < s.size := by omega
        have hq : ((pos : Int) == (s.size : Int)) = false := by rw [beq_eq_false_iff_ne]; omega
        have hix := at_index s pos hlt
        obtain ⟨c, hc⟩ : ∃ c, c = s.data.toList.getD pos 0 := ⟨_, rfl⟩
        rw [← hc] at hix
        have hc256 : c.toNat < 256 := c.toNat_lt
        by_cases hsep : c.toNat = 32 ∨ c.toNat = 9
        · have HF1 : Hid (R = cutA isSep pushW (s.data.toList.drop (pos + 1)) (pushW acc (piece s.data.toList start pos)) (piece s.data.toList (pos + 1) (pos + 1)) ∧ pos < s.size) := ⟨HA1.out.2.trans (cut_sep _ _ _ _ (by rw [← HLN.out]; exact hlt) (by rw [← hc]; exact decide_eq_true hsep)), hlt⟩
          have HF := Lib.hid (HFIN.out (.inr HF1.out))
          clear HFIN HF1 HA1 hpe hc
          generalize piece s.data.toList start pos = pc at *
          by_cases hst : (start : Int) < (pos : Int)
          · have HPC : Hid (pushW acc pc = addL acc pc) := pushW_cons (fun q => by have := HPL.out; rw [q] at this; simp at this; omega)
            rcases hsep with hz | hz
            · have hq2 : ((c.toNat : Int) == 32) = true := by rw [hz]; rfl
              clear hz
              go_wp2_with (at_builtin; refine wpList_append_own _ rfl _ _ 24 rfl w.heap.size 9 i0 (.string ByteArray.empty) 1 16 Tryd.underlying24 hi hz0 hz1 hz2 rfl (by decide) _ _ _ rfl (World.ownsRow.alloc HL.out _) ⟨wr.heap.size, 0, none⟩ 1 1 [.string ⟨pc.toArray⟩] rfl rfl (cell_one_new _ _ _) (fun x hx => by simp at hx; subst hx; rfl) (by unfold maxLen; omega) (by omega) (by have := HB.out.size; simp; omega) ?_; intro v' w3 hown' hgrow3 hnil3)
              exact HF.out _ _ (by rw [HPC.out]; exact Lst.add hown') (grown_trans2 (World.grownBy_alloc _ _ _) hgrow3)
            · have hq2 : ((c.toNat : Int) == 32) = false := by rw [hz]; rfl
              have hq3 : ((c.toNat : Int) == 9) = true := by rw [hz]; rfl
              clear hz
              go_wp2_with (at_builtin; refine wpList_append_own _ rfl _ _ 24 rfl w.heap.size 9 i0 (.string ByteArray.empty) 1 16 Tryd.underlying24 hi hz0 hz1 hz2 rfl (by decide) _ _ _ rfl (World.ownsRow.alloc HL.out _) ⟨wr.heap.size, 0, none⟩ 1 1 [.string ⟨pc.toArray⟩] rfl rfl (cell_one_new _ _ _) (fun x hx => by simp at hx; subst hx; rfl) (by unfold maxLen; omega) (by omega) (by have := HB.out.size; simp; omega) ?_; intro v' w3 hown' hgrow3 hnil3)
              exact HF.out _ _ (by rw [HPC.out]; exact Lst.add hown') (grown_trans2 (World.grownBy_alloc _ _ _) hgrow3)
          · have HPC : Hid (pushW acc pc = acc) := pushW_nil (List.eq_nil_of_length_eq_zero (by rw [HPL.out]; omega))
            rcases hsep with hz | hz
            · have hq2 : ((c.toNat : Int) == 32) = true := by rw [hz]; rfl
              clear hz
              go_wp2
              exact HF.out _ _ (by rw [HPC.out]; exact HL.out) ⟨rfl, rfl, rfl, Nat.le_refl _, fun _ _ _ => rfl⟩
            · have hq2 : ((c.toNat : Int) == 32) = false := by rw [hz]; rfl
              have hq3 : ((c.toNat : Int) == 9) = true := by rw [hz]; rfl
              clear hz
              go_wp2
              exact HF.out _ _ (by rw [HPC.out]; exact HL.out) ⟨rfl, rfl, rfl, Nat.le_refl _, fun _ _ _ => rfl⟩
        · have hq2 : ((c.toNat : Int) == 32) = false := by rw [beq_eq_false_iff_ne]; omega
          have hq3 : ((c.toNat : Int) == 9) = false := by rw [beq_eq_false_iff_ne]; omega
          have HA2 : Hid (R = cutA isSep pushW (s.data.toList.drop (pos + 1)) acc (piece s.data.toList start (pos + 1))) := HA1.out.2.trans (cut_wide _ _ _ _ hsp (by rw [← HLN.out]; omega) (fun q hq => by rw [show pos + q = pos by omega, ← hc]; exact decide_eq_false hsep))
          clear HFIN hsep hc
          go_wp2
          exact ⟨⟨v, pos + 1, start, acc, rfl, rfl, by first | rfl | (congr 1), by omega, by omega, HL, HB, by have := HA1.out.1; omega, .inl ⟨by omega, HA2.out⟩⟩, by simp [intOf]; omega⟩
    · have HRF : Hid (R = acc) := by
        rcases HA.out with ⟨_, ⟨h2, _⟩ | ⟨_, h2⟩⟩
        · omega
        · exact h2
      clear HA
      go_wp2
      go_ret2
      refine ⟨v, rfl, ?_, HB.out⟩
      rw [HRF.out]
      exact HL.out
theorem refSplit_long (s : ByteArray) (w : World) (h : 1024 < s.size) : Calls Tryd.prog 18 #[.string s] w fun e w' => e = .returned (.tuple #[.slice none 0 0, .int .i64 2]) ∧ w' = w := by
  have h' : (1024 : Int) < (s.size : Int) := by omega
  clear h
  go_enter Tryd.func18, Tryd.ntmps18
  go_wp2
  go_ret2
  exact ⟨rfl, rfl⟩
set_option maxHeartbeats 2000000 in
set_option maxRecDepth 100000 in
theorem refLines_any (s : ByteArray) (w : World) (hs : s.size ≤ 8796093022206) : Calls Tryd.prog 10 #[.string s] w fun e w' => ∃ v, e = .returned v ∧ Lst w.heap.size w' v (linesOf s.data.toList) ∧ Below w.heap.size w w' := by
  have HLN := Lib.hid (size_list s)
  obtain ⟨i0, hi, hz0, hz1, hz2⟩ := info_parts strInfo
  obtain ⟨R, hR⟩ : ∃ R, R = linesOf s.data.toList := ⟨_, rfl⟩
  rw [← hR]
  have HR := Lib.hid hR
  clear hR
  go_enter Tryd.func10, Tryd.ntmps10
  go_wp2
  go_loopw [3, 4, 5] (fun vw vs vi wr => ∃ (v : Value) (pos start : Nat) (acc : List (List UInt8)), v = vw ∧ vs = .int .i64 start ∧ vi = .int .i64 pos ∧ start ≤ pos ∧ pos ≤ s.size ∧ Hid (Lst w.heap.size wr v acc) ∧ Hid (Below w.heap.size w wr) ∧ Hid (acc.length ≤ pos ∧ R = cutA isEnd addL (s.data.toList.drop pos) acc (piece s.data.toList start pos))) (fun _ _ vi _ => s.size - (intOf vi).toNat)
  case atStart => exact ⟨_, 0, 0, [], rfl, rfl, rfl, Nat.le_refl _, Nat.zero_le _, Lst.nil _ _, Below.refl _ _, Nat.le_refl _, HR.out⟩
  case round =>
    obtain ⟨v, pos, start, acc, rfl, rfl, rfl, hsp, hps, HL, HB, HA⟩ := hrel
    have hacc : acc.length ≤ 8796093022206 := by have := HA.out.1; omega
    by_cases hp : (pos : Int) < (s.size : Int)
    · have hlt : pos < s.size := by omega
      have hsl := piece_slice s hsp hps
      have hix := at_index s pos hlt
      obtain ⟨c, hc⟩ : ∃ c, c = s.data.toList.getD pos 0 := ⟨_, rfl⟩
      rw [← hc] at hix
      have hc256 : c.toNat < 256 := c.toNat_lt
      by_cases hsep : c.toNat = 10
      · have HST : Hid (acc.length ≤ pos ∧ R = cutA isEnd addL (s.data.toList.drop (pos + 1)) (addL acc (piece s.data.toList start pos)) (piece s.data.toList (pos + 1) (pos + 1))) :=
          ⟨HA.out.1, HA.out.2.trans (cut_sep _ _ _ _ (by rw [← HLN.out]; exact hlt) (by rw [← hc]; exact decide_eq_true hsep))⟩
        have hq : ((c.toNat : Int) == 10) = true := by rw [hsep]; rfl
        have hacc2 : acc.length < 8796093022206 := by have := HA.out.1; omega
        clear HA hsep hc
        generalize piece s.data.toList start pos = pc at *
        go_wp2_with (at_builtin; refine wpList_append_own _ rfl _ _ 24 rfl w.heap.size 9 i0 (.string ByteArray.empty) 1 16 Tryd.underlying24 hi hz0 hz1 hz2 rfl (by decide) _ _ _ rfl (World.ownsRow.alloc HL.out _) ⟨wr.heap.size, 0, none⟩ 1 1 [.string ⟨pc.toArray⟩] rfl rfl (cell_one_new _ _ _) (fun x hx => by simp at hx; subst hx; rfl) (by unfold maxLen; omega) (by omega) (by have := HB.out.size; simp; omega) ?_; intro v' w3 hown' hgrow3 hnil3)
        refine ⟨⟨v', pos + 1, pos + 1, addL acc pc, rfl, by first | rfl | (congr 1), by first | rfl | (congr 1), Nat.le_refl _, by omega, Lst.add hown', HL.out.below HB.out (Nat.le_refl _) HB.out.size (grown_trans2 (World.grownBy_alloc _ _ _) hgrow3), by have := HST.out.1; unfold addL; simp; omega, HST.out.2⟩, by simp [intOf]; omega⟩
      · have hq : ((c.toNat : Int) == 10) = false := by rw [beq_eq_false_iff_ne]; omega
        have HA2 : Hid (R = cutA isEnd addL (s.data.toList.drop (pos + 1)) acc (piece s.data.toList start (pos + 1))) := HA.out.2.trans (cut_wide _ _ _ _ hsp (by rw [← HLN.out]; omega) (fun q hq => by rw [show pos + q = pos by omega, ← hc]; exact decide_eq_false hsep))
        clear hsep hc
        go_wp2
        exact ⟨⟨v, pos + 1, start, acc, rfl, rfl, by first | rfl | (congr 1), by omega, by omega, HL, HB, by have := HA.out.1; omega, HA2.out⟩, by simp [intOf]; omega⟩
    · have hsl := piece_from s (i := start) (by omega)
      have hpe : pos = s.size := by omega
      have HRF : Hid (R = pushW acc (piece s.data.toList start s.size)) := by
        have := HA.out.2
        rw [hpe, cut_end _ _ _ _ (by rw [← HLN.out]; exact Nat.le_refl _)] at this
        exact this
      have HPL : Hid ((piece s.data.toList start s.size).length = s.size - start) := piece_length _ _ _ (by rw [← HLN.out]; exact Nat.le_refl _)
      clear HA
      generalize piece s.data.toList start s.size = pc at *
      by_cases hst : (start : Int) < (s.size : Int)
      · go_wp2_with (at_builtin; refine wpList_append_own _ rfl _ _ 24 rfl w.heap.size 9 i0 (.string ByteArray.empty) 1 16 Tryd.underlying24 hi hz0 hz1 hz2 rfl (by decide) _ _ _ rfl (World.ownsRow.alloc HL.out _) ⟨wr.heap.size, 0, none⟩ 1 1 [.string ⟨pc.toArray⟩] rfl rfl (cell_one_new _ _ _) (fun x hx => by simp at hx; subst hx; rfl) (by unfold maxLen; omega) (by omega) (by have := HB.out.size; simp; omega) ?_; intro v' w3 hown' hgrow3 hnil3)
        go_ret
        refine ⟨v', rfl, ?_, HL.out.below HB.out (Nat.le_refl _) HB.out.size (grown_trans2 (World.grownBy_alloc _ _ _) hgrow3)⟩
        rw [HRF.out, pushW_cons (fun q => by have := HPL.out; rw [q] at this; simp at this; omega)]
        exact Lst.add hown'
      · go_wp2
        go_ret
        refine ⟨v, rfl, ?_, HB.out⟩
        rw [HRF.out, pushW_nil (List.eq_nil_of_length_eq_zero (by rw [HPL.out]; omega))]
        exact HL.out
end Go.Proofs.YtffgnfbfifooeabDoor
