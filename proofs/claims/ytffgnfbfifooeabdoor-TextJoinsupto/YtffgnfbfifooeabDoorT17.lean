import Derived.Test.YtffgnfbfifooeabDoorT16
namespace Go.Proofs.YtffgnfbfifooeabDoor
open Go.ChangeShapes Go.WideShapes Go.ChangeAt Go.RowKit Num

theorem piece_length (l : List UInt8) (i j : Nat) (h : j ≤ l.length) : (piece l i j).length = j - i := by
  unfold piece
  rw [List.length_take, List.length_drop]
  omega
theorem Lst.add {B : Nat} {w : World} {v : Value} {acc : List (List UInt8)} {pc : List UInt8} (h : w.ownsRow B 9 1 v (acc.length + 1) (List.map strV acc ++ [Value.string ⟨pc.toArray⟩])) : Lst B w v (addL acc pc) := by
  unfold Lst addL
  rw [List.map_append, List.length_append]
  exact h

set_option maxHeartbeats 2000000 in
set_option maxRecDepth 100000 in
theorem lines_any (s : ByteArray) (w : World) (hs : s.size ≤ 8796093022206) : Calls Tryd.prog 9 #[.string s] w fun e w' => ∃ v, e = .returned v ∧ Lst w.heap.size w' v (linesOf s.data.toList) ∧ Below w.heap.size w w' := by
  have HLN := Lib.hid (size_list s)
  have HSS := Lib.hid hs
  obtain ⟨i0, hi, hz0, hz1, hz2⟩ := info_parts strInfo
  obtain ⟨R, hR⟩ : ∃ R, R = linesOf s.data.toList := ⟨_, rfl⟩
  rw [← hR]
  have HR := Lib.hid hR
  clear hR
  go_enter Tryd.func9, Tryd.ntmps9
  go_wp2
  go_loopw [3, 4] (fun vw vs wr => ∃ (v : Value) (pos start : Nat) (acc : List (List UInt8)), v = vw ∧ vs = .int .i64 start ∧ start ≤ pos ∧ pos ≤ s.size ∧ wr.heap[w.heap.size]? = some (.stringIter s pos) ∧ Hid (Lst (w.heap.size + 1) wr v acc) ∧ Hid (Below w.heap.size w wr) ∧ Hid (acc.length ≤ pos ∧ R = cutA isEnd addL (s.data.toList.drop pos) acc (piece s.data.toList start pos))) (fun _ _ wr => s.size - wr.iterPos w.heap.size)
  case atStart => exact ⟨_, 0, 0, [], rfl, rfl, Nat.le_refl _, Nat.zero_le _, World.iter_heap w s 0, Lst.nil _ _, Below.alloc (Below.refl _ _) (Nat.le_refl _) _, Nat.le_refl _, HR.out⟩
  case round =>
    obtain ⟨v, pos, start, acc, rfl, rfl, hsp, hps, hk, HL, HB, HA⟩ := hrel
    by_cases hp : pos < s.size
    · obtain ⟨r, wd, hdec, hw1, hw2, hcase⟩ := next_rune s pos hp
      have hnext : ∀ ty, (Instr.next (.pointer (some ⟨w.heap.size, 0, none⟩)) true ty).run Tryd.prog wr = .ok (.tuple #[.bool true, .int .i64 pos, .int .i32 r]) (wr.iterAt w.heap.size s (pos + wd)) := fun ty => by
        have := Lib.run_next_any_at (P := Tryd.prog) wr w.heap.size s pos ty hk hp
        rw [hdec] at this
        exact this
      have hk1 := Lib.iterAt_heap wr w.heap.size s pos (pos + wd) hk
      have HB1 : Hid (Below w.heap.size w (wr.iterAt w.heap.size s (pos + wd))) := Lib.below_iterAt HB.out (Nat.le_refl _) s (pos + wd)
      have HL1 : Hid (Lst (w.heap.size + 1) (wr.iterAt w.heap.size s (pos + wd)) v acc) := HL.out.iterAt s (pos + wd)
      have HSZ : Hid (w.heap.size + 1 ≤ (wr.iterAt w.heap.size s (pos + wd)).heap.size) := by
        show w.heap.size + 1 ≤ _
        rw [Lib.iterAt_size]
        exact (Array.getElem?_eq_some_iff.1 hk).1
      have hmu : wr.iterPos w.heap.size = pos := by simp [World.iterPos, hk]
      generalize wr.iterAt w.heap.size s (pos + wd) = W1 at hnext hk1 HB1 HL1 HSZ
      have HMU := Lib.hid hmu
      have HK1 := Lib.hid hk1
      clear hmu hk1 hk hdec HB HL
      have hsl := piece_slice s hsp hps
      by_cases hsep : r = 10
      · have hwd : wd = 1 ∧ isEnd (s.data.toList.getD pos 0) = true := by
          rcases hcase with ⟨h1, h2, h3⟩ | ⟨h1, _⟩
          · exact ⟨h3, decide_eq_true (by omega)⟩
          · omega
        have HST : Hid (acc.length ≤ pos ∧ R = cutA isEnd addL (s.data.toList.drop (pos + 1)) (addL acc (piece s.data.toList start pos)) (piece s.data.toList (pos + 1) (pos + 1))) := by
          refine ⟨HA.out.1, HA.out.2.trans (cut_sep _ _ _ _ (by rw [← HLN.out]; exact hp) hwd.2)⟩
        have hwd1 := hwd.1
        subst hwd1
        have hacc : acc.length < 8796093022206 := by have := HA.out.1; have := HSS.out; omega
        clear hcase hwd HA
        generalize piece s.data.toList start pos = pc at *
        have HFIN : Hid (∀ v' W2, Lst (w.heap.size + 1) W2 v' (addL acc pc) → W1.grownBy W2 v.ownBlock → (∃ (v : Value) (p st : Nat) (acc : List (List UInt8)), v = v' ∧ Value.int .i64 ((pos : Int) + 1) = .int .i64 (st : Int) ∧ st ≤ p ∧ p ≤ s.size ∧ W2.heap[w.heap.size]? = some (.stringIter s p) ∧ Hid (Lst (w.heap.size + 1) W2 v acc) ∧ Hid (Below w.heap.size w W2) ∧ Hid (acc.length ≤ p ∧ R = cutA isEnd addL (s.data.toList.drop p) acc (piece s.data.toList st p))) ∧ s.size - W2.iterPos w.heap.size < s.size - wr.iterPos w.heap.size) := by
          intro v' W2 hL2 hg2
          have hk2 := HL1.out.keep HK1.out hg2
          refine ⟨⟨v', pos + 1, pos + 1, addL acc pc, rfl, by first | rfl | (congr 1), Nat.le_refl _, hw2, hk2, hL2, HL1.out.below HB1.out (by omega) (by have := HSZ.out; omega) hg2, by have := HST.out.1; unfold addL; simp; omega, HST.out.2⟩, ?_⟩
          have hmu2 : W2.iterPos w.heap.size = pos + 1 := by simp [World.iterPos, hk2]
          rw [HMU.out, hmu2]
          omega
        have hq : ((r : Int) == 10) = true := by rw [hsep]; rfl
        clear hsep
        go_wp2_with (first
          | (go_at_call 20; refine (own_any _ _).mono ?_; rintro e w1 ⟨rfl, hw⟩)
          | (at_builtin; refine wpList_append_own _ rfl _ _ 24 rfl (w.heap.size + 1) 9 i0 (.string ByteArray.empty) 1 16 Tryd.underlying24 hi hz0 hz1 hz2 rfl (by decide) _ _ _ rfl (World.ownsRow.alloc (HL1.out.on hw) _) ⟨w1.heap.size, 0, none⟩ 1 1 [.string ⟨pc.toArray⟩] rfl rfl (cell_one_new _ _ _) (fun x hx => by simp at hx; subst hx; rfl) (by unfold maxLen; omega) (by omega) (by have := hw.size; have := HSZ.out; simp; omega) ?_; intro v' w3 hown' hgrow3 hnil3))
        exact HFIN.out _ _ (Lst.add hown') (grown_trans2 (grown_trans2 (grown_of_below hw _) (World.grownBy_alloc _ _ _)) hgrow3)
      · have hq : ((r : Int) == 10) = false := by rw [beq_eq_false_iff_ne]; omega
        have HA1 : Hid (acc.length ≤ pos + wd ∧ R = cutA isEnd addL (s.data.toList.drop (pos + wd)) acc (piece s.data.toList start (pos + wd))) := by
          refine ⟨by have := HA.out.1; omega, HA.out.2.trans (cut_wide _ _ _ _ hsp (by rw [← HLN.out]; exact hw2) (fun q hq => ?_))⟩
          unfold isEnd
          rw [decide_eq_false_iff_not]
          rcases hcase with ⟨h1, h2, h3⟩ | ⟨_, h2⟩
          · rw [show pos + q = pos by omega]; omega
          · have := h2 q hq
            omega
        clear hcase hsep HA
        go_wp2
        refine ⟨⟨v, pos + wd, start, acc, rfl, rfl, by omega, hw2, HK1.out, HL1, HB1, HA1⟩, ?_⟩
        have hmu2 : W1.iterPos w.heap.size = pos + wd := by have := HK1.out; simp [World.iterPos, this]
        rw [HMU.out, hmu2]
        omega
    · have hnext : ∀ ty, (Instr.next (.pointer (some ⟨w.heap.size, 0, none⟩)) true ty).run Tryd.prog wr = .ok (.tuple #[.bool false]) wr := fun ty => Lib.run_next_end_at (P := Tryd.prog) wr w.heap.size s pos ty hk hp
      have hsl := piece_from s (i := start) (by omega)
      have hpe : pos = s.size := by omega
      have HRF : Hid (R = pushW acc (piece s.data.toList start s.size)) := by
        have := HA.out.2
        rw [hpe, cut_end _ _ _ _ (by rw [← HLN.out]; exact Nat.le_refl _)] at this
        exact this
      have HSZ : Hid (w.heap.size + 1 ≤ wr.heap.size) := (Array.getElem?_eq_some_iff.1 hk).1
      have hacc : acc.length < 8796093022207 := by have := HA.out.1; have := HSS.out; omega
      have HPL : Hid ((piece s.data.toList start s.size).length = s.size - start) := piece_length _ _ _ (by rw [← HLN.out]; exact Nat.le_refl _)
      clear HA hk hpe
      generalize piece s.data.toList start s.size = pc at *
      by_cases hst : (start : Int) < (s.size : Int)
      · go_wp2_with (first
          | (go_at_call 20; refine (own_any _ _).mono ?_; rintro e w1 ⟨rfl, hw⟩)
          | (at_builtin; refine wpList_append_own _ rfl _ _ 24 rfl (w.heap.size + 1) 9 i0 (.string ByteArray.empty) 1 16 Tryd.underlying24 hi hz0 hz1 hz2 rfl (by decide) _ _ _ rfl (World.ownsRow.alloc (HL.out.on hw) _) ⟨w1.heap.size, 0, none⟩ 1 1 [.string ⟨pc.toArray⟩] rfl rfl (cell_one_new _ _ _) (fun x hx => by simp at hx; subst hx; rfl) (by unfold maxLen; omega) (by omega) (by have := hw.size; have := HSZ.out; simp; omega) ?_; intro v' w3 hown' hgrow3 hnil3))
        go_ret
        refine ⟨v', rfl, ?_, HL.out.below HB.out (by omega) (by have := HSZ.out; omega) (grown_trans2 (grown_trans2 (grown_of_below hw _) (World.grownBy_alloc _ _ _)) hgrow3)⟩
        rw [HRF.out]
        unfold pushW
        rw [if_neg (fun q => by have := HPL.out; rw [q] at this; simp at this; omega)]
        exact (Lst.add hown').mono (by omega)
      · go_wp2
        go_ret
        refine ⟨v, rfl, ?_, HB.out⟩
        rw [HRF.out]
        unfold pushW
        rw [if_pos (List.eq_nil_of_length_eq_zero (by rw [HPL.out]; omega))]
        exact HL.out.mono (by omega)

end Go.Proofs.YtffgnfbfifooeabDoor
