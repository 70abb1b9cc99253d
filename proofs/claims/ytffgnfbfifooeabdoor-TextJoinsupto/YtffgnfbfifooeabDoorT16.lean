import Derived.Test.YtffgnfbfifooeabDoorT15
namespace Go.Proofs.YtffgnfbfifooeabDoor
open Go.ChangeShapes Go.WideShapes Go.ChangeAt Go.RowKit Num

/-! a text in pieces -/
def cutA (p : UInt8 → Bool) (f : List (List UInt8) → List UInt8 → List (List UInt8)) : List UInt8 → List (List UInt8) → List UInt8 → List (List UInt8)
  | [], acc, cur => pushW acc cur
  | c :: r, acc, cur => if p c then cutA p f r (f acc cur) [] else cutA p f r acc (cur ++ [c])
def isSep (c : UInt8) : Bool := decide (c.toNat = 32 ∨ c.toNat = 9)
def isEnd (c : UInt8) : Bool := decide (c.toNat = 10)
def addL (acc : List (List UInt8)) (cur : List UInt8) : List (List UInt8) := acc ++ [cur]
def wordsOf (l : List UInt8) : List (List UInt8) := cutA isSep pushW l [] []
def linesOf (l : List UInt8) : List (List UInt8) := cutA isEnd addL l [] []
def piece (l : List UInt8) (i j : Nat) : List UInt8 := (l.drop i).take (j - i)
theorem pushW_length (acc : List (List UInt8)) (cur : List UInt8) : (pushW acc cur).length ≤ acc.length + 1 := by
  unfold pushW
  split
  · omega
  · simp
theorem cutA_skip (p : UInt8 → Bool) (f : List (List UInt8) → List UInt8 → List (List UInt8)) (r : List UInt8) (acc : List (List UInt8)) : ∀ (bs cur : List UInt8), (∀ c ∈ bs, p c = false) → cutA p f (bs ++ r) acc cur = cutA p f r acc (cur ++ bs)
  | [], cur, _ => by simp
  | c :: bs, cur, h => by
    show (if p c then _ else cutA p f (bs ++ r) acc (cur ++ [c])) = _
    rw [h c (by simp), if_neg Bool.false_ne_true, cutA_skip p f r acc bs (cur ++ [c]) (fun d hd => h d (by simp [hd])), List.append_assoc]
    rfl
theorem piece_on (l : List UInt8) {i j k : Nat} (h : i ≤ j) : piece l i (j + k) = piece l i j ++ (l.drop j).take k := by
  unfold piece
  rw [show j + k - i = (j - i) + k by omega, List.take_add, List.drop_drop, show i + (j - i) = j by omega]
theorem cut_wide (p : UInt8 → Bool) (f : List (List UInt8) → List UInt8 → List (List UInt8)) (l : List UInt8) (acc : List (List UInt8)) {i j k : Nat} (h : i ≤ j) (hk : j + k ≤ l.length) (hp : ∀ q, q < k → p (l.getD (j + q) 0) = false) :
    cutA p f (l.drop j) acc (piece l i j) = cutA p f (l.drop (j + k)) acc (piece l i (j + k)) := by
  have e : l.drop j = (l.drop j).take k ++ l.drop (j + k) := by
    rw [← List.drop_drop, List.take_append_drop]
  rw [piece_on l h]
  conv => lhs; rw [e]
  rw [cutA_skip]
  intro c hc
  obtain ⟨q, hq, rfl⟩ := List.mem_iff_getElem.1 hc
  have hq' : q < k := by rw [List.length_take] at hq; omega
  have := hp q hq'
  rw [List.getD, List.getElem?_eq_getElem (by omega)] at this
  simpa using this
theorem cut_sep (p : UInt8 → Bool) (f : List (List UInt8) → List UInt8 → List (List UInt8)) (l : List UInt8) (acc : List (List UInt8)) {i j : Nat} (hk : j < l.length) (hp : p (l.getD j 0) = true) :
    cutA p f (l.drop j) acc (piece l i j) = cutA p f (l.drop (j + 1)) (f acc (piece l i j)) (piece l (j + 1) (j + 1)) := by
  have e : l.drop j = l.getD j 0 :: l.drop (j + 1) := by
    rw [List.drop_eq_getElem_cons hk, List.getD, List.getElem?_eq_getElem hk]
    rfl
  rw [e]
  show (if p (l.getD j 0) then cutA p f (l.drop (j + 1)) (f acc (piece l i j)) [] else _) = _
  rw [hp, if_pos rfl]
  congr 1
  unfold piece
  simp
theorem cut_end (p : UInt8 → Bool) (f : List (List UInt8) → List UInt8 → List (List UInt8)) (l : List UInt8) (acc : List (List UInt8)) {i j : Nat} (hk : l.length ≤ j) :
    cutA p f (l.drop j) acc (piece l i j) = pushW acc (piece l i j) := by
  rw [List.drop_eq_nil_of_le hk]
  rfl
theorem piece_slice (s : ByteArray) {i j : Nat} (h : i ≤ j) (hj : j ≤ s.size) (W : World) : (Instr.slice 9 (.string s) (some (.int .i64 (i : Int))) (some (.int .i64 (j : Int))) none).run Tryd.prog W = .ok (.string ⟨(piece s.data.toList i j).toArray⟩) W := by
  rw [run_slice_string W 9 s .i64 .i64 i j Tryd.underlying9 (by omega) (by omega) (by omega)]
  congr 2
  apply bytes_eq
  have := ByteArray.extract_mk s.data.toList i j
  rw [mk_list] at this
  rw [show ((i : Int)).toNat = i by omega, show ((j : Int)).toNat = j by omega, this]
  rfl
theorem piece_from (s : ByteArray) {i : Nat} (h : i ≤ s.size) (W : World) : (Instr.slice 9 (.string s) (some (.int .i64 (i : Int))) none none).run Tryd.prog W = .ok (.string ⟨(piece s.data.toList i s.size).toArray⟩) W := by
  rw [run_slice_string_from_if W 9 s .i64 i Tryd.underlying9, if_pos ⟨by omega, by omega⟩]
  congr 2
  apply bytes_eq
  have := ByteArray.extract_mk s.data.toList i s.size
  rw [mk_list] at this
  rw [show ((i : Int)).toNat = i by omega, this]
  rfl

/-! lists beside an iterator -/
theorem Lst.ne {K : Nat} {W : World} {v : Value} {ls : List (List UInt8)} (h : Lst (K + 1) W v ls) : some K ≠ v.ownBlock := by
  intro q
  have := (World.ownsRow.lt h K q.symm).1
  omega
theorem Lst.iterAt {K : Nat} {W : World} {v : Value} {ls : List (List UInt8)} (h : Lst (K + 1) W v ls) (s : ByteArray) (p : Nat) : Lst (K + 1) (W.iterAt K s p) v ls :=
  World.ownsRow.kept h (row := some K) ⟨rfl, rfl, rfl, by rw [Lib.iterAt_size]; exact Nat.le_refl _, fun k _ hr => Lib.iterAt_other W K k s p (fun e => hr (by rw [e]))⟩ (.inr (fun q => h.ne q.symm))
theorem Lst.keep {K : Nat} {W W2 : World} {v : Value} {ls : List (List UInt8)} {o : Obj} (h : Lst (K + 1) W v ls) (hk : W.heap[K]? = some o) (hg : W.grownBy W2 v.ownBlock) : W2.heap[K]? = some o := by
  rw [hg.block K (Array.getElem?_eq_some_iff.1 hk).1 h.ne]
  exact hk
theorem Lst.below {B B0 : Nat} {w W W2 : World} {v : Value} {ls : List (List UInt8)} (h : Lst B W v ls) (hb : Below B0 w W) (hB : B0 ≤ B) (hW : B0 ≤ W.heap.size) (hg : W.grownBy W2 v.ownBlock) : Below B0 w W2 :=
  hb.grown hg hW (fun k hk => Nat.le_trans hB (World.ownsRow.lt h k hk).1)
theorem Lst.mono {B B' : Nat} {w : World} {v : Value} {ls : List (List UInt8)} (h : Lst B w v ls) (hB : B' ≤ B) : Lst B' w v ls := by
  refine ⟨h.1, ?_⟩
  rcases h.2 with q | ⟨g, cap, cur, e, hb, rest⟩
  · exact .inl q
  · exact .inr ⟨g, cap, cur, e, Nat.le_trans hB hb, rest⟩
theorem Lst.nil (B : Nat) (w : World) : Lst B w (.slice none 0 0) [] := World.ownsRow_nil _ _ _ _

set_option maxHeartbeats 1000000 in
set_option maxRecDepth 100000 in
theorem split_any (s : ByteArray) (w : World) (h : s.size ≤ 1024) : Calls Tryd.prog 17 #[.string s] w fun e w' => ∃ v, e = .returned (.tuple #[v, .int .i64 0]) ∧ Lst w.heap.size w' v (wordsOf s.data.toList) ∧ Below w.heap.size w w' := by
  have h' : ¬ (1024 : Int) < (s.size : Int) := by omega
  have HLN := Lib.hid (size_list s)
  obtain ⟨R, hR⟩ : ∃ R, R = wordsOf s.data.toList := ⟨_, rfl⟩
  rw [← hR]
  have HR := Lib.hid hR
  clear hR
  go_enter Tryd.func17, Tryd.ntmps17
  go_wp2
  go_loopw [4, 5] (fun vw vs wr => ∃ (v : Value) (pos start : Nat) (acc : List (List UInt8)), v = vw ∧ vs = .int .i64 start ∧ start ≤ pos ∧ pos ≤ s.size ∧ wr.heap[w.heap.size]? = some (.stringIter s pos) ∧ Hid (Lst (w.heap.size + 1) wr v acc) ∧ Hid (Below w.heap.size w wr) ∧ Hid (acc.length ≤ pos ∧ R = cutA isSep pushW (s.data.toList.drop pos) acc (piece s.data.toList start pos))) (fun _ _ wr => s.size - wr.iterPos w.heap.size)
  case atStart => exact ⟨_, 0, 0, [], rfl, rfl, Nat.le_refl _, Nat.zero_le _, World.iter_heap w s 0, Lst.nil _ _, Below.alloc (Below.refl _ _) (Nat.le_refl _) _, Nat.le_refl _, HR.out⟩
  case round =>
    obtain ⟨v, pos, start, acc, rfl, rfl, hsp, hps, hk, HL, HB, HA⟩ := hrel
    by_cases hp : pos < s.size
    · obtain ⟨r, wd, hdec, hw1, hw2, hcase⟩ := next_rune s pos hp
      have hnext : ∀ ty, (Instr.next (.pointer (some ⟨w.heap.size, 0, none⟩)) true ty).run Tryd.prog wr = .ok (.tuple #[.bool true, .int .i64 pos, .int .i32 r]) (wr.iterAt w.heap.size s (pos + wd)) := fun ty => by
        have := Lib.run_next_any_at (P := Tryd.prog) wr w.heap.size s pos ty hk hp
        rw [hdec] at this
        exact this
      have hk1 := Lib.iterAt_heap wr w.heap.size s pos (pos + wd) hk
      have HB1 : Hid (Below w.heap.size w (wr.iterAt w.heap.size s (pos + wd))) := Lib.below_iterAt HB.out (Nat.le_refl _) s (pos + wd)
      have HL1 : Hid (Lst (w.heap.size + 1) (wr.iterAt w.heap.size s (pos + wd)) v acc) := HL.out.iterAt s (pos + wd)
      have HSZ : Hid (w.heap.size + 1 ≤ (wr.iterAt w.heap.size s (pos + wd)).heap.size) := by
        show w.heap.size + 1 ≤ _
        rw [Lib.iterAt_size]
        exact (Array.getElem?_eq_some_iff.1 hk).1
      have hmu : wr.iterPos w.heap.size = pos := by simp [World.iterPos, hk]
      generalize wr.iterAt w.heap.size s (pos + wd) = W1 at hnext hk1 HB1 HL1 HSZ
      have HMU := Lib.hid hmu
      have HK1 := Lib.hid hk1
      clear hmu hk1 hk hdec HB HL
      have hsl := piece_slice s hsp hps
      by_cases hsep : r = 32 ∨ r = 9
      · have hwd : wd = 1 ∧ isSep (s.data.toList.getD pos 0) = true := by
          rcases hcase with ⟨h1, h2, h3⟩ | ⟨h1, _⟩
          · exact ⟨h3, decide_eq_true (by omega)⟩
          · omega
        have HST : Hid (acc.length ≤ pos ∧ R = cutA isSep pushW (s.data.toList.drop (pos + 1)) (pushW acc (piece s.data.toList start pos)) (piece s.data.toList (pos + 1) (pos + 1))) := by
          refine ⟨HA.out.1, HA.out.2.trans (cut_sep _ _ _ _ (by rw [← HLN.out]; exact hp) hwd.2)⟩
        have hwd1 := hwd.1
        subst hwd1
        have HC := Lib.hid (addWord_any (w.heap.size + 1) v acc ⟨(piece s.data.toList start pos).toArray⟩ W1 HSZ.out HL1.out (by have := HA.out.1; omega))
        clear hcase hwd HA
        generalize piece s.data.toList start pos = pc at *
        have HFIN : Hid (∀ v' W2, Lst (w.heap.size + 1) W2 v' (pushW acc pc) → W1.grownBy W2 v.ownBlock → (∃ (v : Value) (p st : Nat) (acc : List (List UInt8)), v = v' ∧ Value.int .i64 ((pos : Int) + 1) = .int .i64 (st : Int) ∧ st ≤ p ∧ p ≤ s.size ∧ W2.heap[w.heap.size]? = some (.stringIter s p) ∧ Hid (Lst (w.heap.size + 1) W2 v acc) ∧ Hid (Below w.heap.size w W2) ∧ Hid (acc.length ≤ p ∧ R = cutA isSep pushW (s.data.toList.drop p) acc (piece s.data.toList st p))) ∧ s.size - W2.iterPos w.heap.size < s.size - wr.iterPos w.heap.size) := by
          intro v' W2 hL2 hg2
          have hk2 := HL1.out.keep HK1.out hg2
          refine ⟨⟨v', pos + 1, pos + 1, pushW acc pc, rfl, by first | rfl | (congr 1), Nat.le_refl _, hw2, hk2, hL2, HL1.out.below HB1.out (by omega) (by have := HSZ.out; omega) hg2, by have := HST.out.1; have := pushW_length acc pc; omega, HST.out.2⟩, ?_⟩
          have hmu2 : W2.iterPos w.heap.size = pos + 1 := by simp [World.iterPos, hk2]
          rw [HMU.out, hmu2]
          omega
        rcases hsep with hs | hs
        · have hq : ((r : Int) == 32) = true := by rw [hs]; rfl
          clear hs
          go_wp2_with (go_at_call 31; refine HC.out.mono ?_; rintro e W2 ⟨v', rfl, hL2, hg2⟩)
          exact HFIN.out _ _ hL2 hg2
        · have hq : ((r : Int) == 32) = false := by rw [hs]; rfl
          have hq2 : ((r : Int) == 9) = true := by rw [hs]; rfl
          clear hs
          go_wp2_with (go_at_call 31; refine HC.out.mono ?_; rintro e W2 ⟨v', rfl, hL2, hg2⟩)
          exact HFIN.out _ _ hL2 hg2
      · have hq : ((r : Int) == 32) = false := by rw [beq_eq_false_iff_ne]; omega
        have hq2 : ((r : Int) == 9) = false := by rw [beq_eq_false_iff_ne]; omega
        have HA1 : Hid (acc.length ≤ pos + wd ∧ R = cutA isSep pushW (s.data.toList.drop (pos + wd)) acc (piece s.data.toList start (pos + wd))) := by
          refine ⟨by have := HA.out.1; omega, HA.out.2.trans (cut_wide _ _ _ _ hsp (by rw [← HLN.out]; exact hw2) (fun q hq => ?_))⟩
          unfold isSep
          rw [decide_eq_false_iff_not]
          rcases hcase with ⟨h1, h2, h3⟩ | ⟨_, h2⟩
          · rw [show pos + q = pos by omega]; omega
          · have := h2 q hq
            omega
        clear hcase hsep HA
        go_wp2
        refine ⟨⟨v, pos + wd, start, acc, rfl, rfl, by omega, hw2, HK1.out, HL1, HB1, HA1⟩, ?_⟩
        have hmu2 : W1.iterPos w.heap.size = pos + wd := by have := HK1.out; simp [World.iterPos, this]
        rw [HMU.out, hmu2]
        omega
    · have hnext : ∀ ty, (Instr.next (.pointer (some ⟨w.heap.size, 0, none⟩)) true ty).run Tryd.prog wr = .ok (.tuple #[.bool false]) wr := fun ty => Lib.run_next_end_at (P := Tryd.prog) wr w.heap.size s pos ty hk hp
      have hsl := piece_from s (i := start) (by omega)
      have hpe : pos = s.size := by omega
      have HRF : Hid (R = pushW acc (piece s.data.toList start s.size)) := by
        have := HA.out.2
        rw [hpe, cut_end _ _ _ _ (by rw [← HLN.out]; exact Nat.le_refl _)] at this
        exact this
      have HSZ : Hid (w.heap.size + 1 ≤ wr.heap.size) := (Array.getElem?_eq_some_iff.1 hk).1
      have HC := Lib.hid (addWord_any (w.heap.size + 1) v acc ⟨(piece s.data.toList start s.size).toArray⟩ wr HSZ.out HL.out (by have := HA.out.1; omega))
      clear HA hk hpe
      generalize piece s.data.toList start s.size = pc at *
      go_wp2_with (go_at_call 31; refine HC.out.mono ?_; rintro e W2 ⟨v', rfl, hL2, hg2⟩)
      go_ret2
      refine ⟨v', rfl, ?_, HL.out.below HB.out (by omega) (by have := HSZ.out; omega) hg2⟩
      rw [HRF.out]
      exact hL2.mono (by omega)
theorem split_long (s : ByteArray) (w : World) (h : 1024 < s.size) : Calls Tryd.prog 17 #[.string s] w fun e w' => e = .returned (.tuple #[.slice none 0 0, .int .i64 2]) ∧ w' = w := by
  have h' : (1024 : Int) < (s.size : Int) := by omega
  clear h
  go_enter Tryd.func17, Tryd.ntmps17
  go_wp2
  go_ret2
  exact ⟨rfl, rfl⟩
end Go.Proofs.YtffgnfbfifooeabDoor
