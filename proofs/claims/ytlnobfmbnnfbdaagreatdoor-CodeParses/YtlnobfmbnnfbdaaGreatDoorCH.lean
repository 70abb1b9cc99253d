/- the document's cut, at, number -/
import Derived.Test.YtlnobfmbnnfbdaaGreatDoorCW
namespace Go.Proofs.YtlnobfmbnnfbdaaGreatDoor
open Go.ChangeShapes Go.WideShapes Go.ChangeAt Go.RowKit Num

theorem mk_of_list (s : ByteArray) : (⟨s.data.toList.toArray⟩ : ByteArray) = s := bytes_eq rfl
theorem sl_idx (s : ByteArray) (i : Nat) (h : i < s.size) (W : World) : (Instr.index 9 (.string s) (.int .i64 (i : Int))).run Tryz.prog W = .ok (.int .u8 ((s.data.toList.getD i 0).toNat : Int)) W := by
  rw [run_index_string W 9 s .i64 i Tryz.underlying9, dif_pos ⟨by omega, by omega⟩, Lib.getD_at s _ (by omega)]
  rfl
theorem extract_list (s : ByteArray) (i j : Nat) : s.extract i j = ⟨((s.data.toList.drop i).take (j - i)).toArray⟩ := by
  apply bytes_eq
  have := ByteArray.extract_mk s.data.toList i j
  rw [mk_of_list] at this
  rw [this]
theorem sl_part (s : ByteArray) {i j : Nat} (h : i ≤ j) (hj : j ≤ s.size) (W : World) : (Instr.slice 9 (.string s) (some (.int .i64 (i : Int))) (some (.int .i64 (j : Int))) none).run Tryz.prog W = .ok (.string ⟨((s.data.toList.drop i).take (j - i)).toArray⟩) W := by
  rw [run_slice_string W 9 s .i64 .i64 i j Tryz.underlying9 (by omega) (by omega) (by omega), show ((i : Int)).toNat = i by omega, show ((j : Int)).toNat = j by omega, extract_list]
theorem sl_to (s : ByteArray) {j : Nat} (hj : j ≤ s.size) (W : World) : (Instr.slice 9 (.string s) none (some (.int .i64 (j : Int))) none).run Tryz.prog W = .ok (.string ⟨(s.data.toList.take j).toArray⟩) W := by
  rw [run_slice_string_to_if W 9 s .i64 j Tryz.underlying9, if_pos ⟨by omega, by omega⟩, show ((j : Int)).toNat = j by omega, extract_list]
  simp
theorem sl_from (s : ByteArray) {i : Nat} (hi : i ≤ s.size) (z : Int) (hz : z = i) (W : World) : (Instr.slice 9 (.string s) (some (.int .i64 z)) none none).run Tryz.prog W = .ok (.string ⟨(s.data.toList.drop i).toArray⟩) W := by
  subst hz
  rw [run_slice_string_from_if W 9 s .i64 i Tryz.underlying9, if_pos ⟨by omega, by omega⟩, show ((i : Int)).toNat = i by omega, extract_list, List.take_of_length_le (by rw [List.length_drop, ← size_list]; omega)]
theorem split_at (l : List UInt8) {i : Nat} (hi : i < l.length) {c : UInt8} (hc : l.getD i 0 = c) : l = l.take i ++ c :: l.drop (i + 1) := by
  have : l[i] = c := by rw [← hc]; simp [List.getD_eq_getElem?_getD, hi]
  conv => lhs; rw [← List.take_append_drop i l, List.drop_eq_getElem_cons hi, this]
theorem take_succ_not {l : List UInt8} {i : Nat} (hi : i < l.length) {c : UInt8} (h : c ∉ l.take i) (hc : l.getD i 0 ≠ c) : c ∉ l.take (i + 1) := by
  rw [List.take_succ_eq_append_getElem hi, List.mem_append, List.mem_singleton, not_or]
  refine ⟨h, fun q => hc ?_⟩
  simp [List.getD_eq_getElem?_getD, hi, ← q]
set_option maxHeartbeats 2000000 in
set_option maxRecDepth 100000 in
theorem refCut_any (s : ByteArray) (w : World) (hsz : s.size ≤ 65536) : Calls Tryz.prog 51 #[.string s] w fun e w' => e = .returned (.tuple #[.string ⟨(cutB 32 s.data.toList).1.toArray⟩, .string ⟨(cutB 32 s.data.toList).2.1.toArray⟩, .bool (cutB 32 s.data.toList).2.2]) ∧ Below w.heap.size w w' := by
  have HL := Lib.hid (size_list s)
  obtain ⟨R, hR⟩ : ∃ R, R = cutB 32 s.data.toList := ⟨_, rfl⟩
  rw [← hR]
  have HR := Lib.hid hR
  clear hR
  go_enter Tryz.func51, Tryz.ntmps51
  go_wp2
  go_loop [5] (fun vi => ∃ i : Nat, vi = .int .i64 i ∧ i ≤ s.size ∧ Hid (32 ∉ s.data.toList.take i)) (fun vi => s.size - (intOf vi).toNat)
  case atStart => exact ⟨0, rfl, Nat.zero_le _, by show 32 ∉ List.take 0 _; simp⟩
  case round =>
    obtain ⟨i, rfl, hi, HN⟩ := hrel
    by_cases hlt : i < s.size
    · have hlt' : (i : Int) < (s.size : Int) := by omega
      have hix := sl_idx s i hlt
      have hs1 := sl_to s (j := i) (by omega)
      have hs2 := sl_from s (i := i + 1) (by omega) ((i : Int) + 1) (by omega)
      obtain ⟨c, hc⟩ : ∃ c, c = s.data.toList.getD i 0 := ⟨_, rfl⟩
      rw [← hc] at hix
      have hc256 : c.toNat < 256 := c.toNat_lt
      by_cases h32 : c = 32
      · have HV : Hid (R = (s.data.toList.take i, s.data.toList.drop (i + 1), true)) := by
          show R = _
          rw [HR.out]
          conv => lhs; rw [split_at s.data.toList (i := i) (by rw [← HL.out]; exact hlt) hc.symm, h32]
          exact cutB_mk 32 _ _ HN.out
        have hq : ((c.toNat : Int) == 32) = true := by rw [h32]; rfl
        clear hc h32 HN
        generalize s.data.toList.take i = A at *
        generalize s.data.toList.drop (i + 1) = B at *
        go_wp2
        go_quiet (fail)
        go_wp2
        go_ret3
        rw [HV.out]
        exact ⟨rfl, by repeat (first | exact Below.refl _ _ | apply bl_alloc | apply bl_drewN | apply bl_drew)⟩
      · have HN2 : Hid (32 ∉ s.data.toList.take (i + 1)) := take_succ_not (by rw [← HL.out]; exact hlt) HN.out (by rw [← hc]; exact h32)
        have hq : ((c.toNat : Int) == 32) = false := by
          rw [beq_eq_false_iff_ne]
          intro q
          exact h32 (UInt8.toNat_inj.1 (by show c.toNat = 32; omega))
        clear hc h32 HN hs1 hs2
        go_wp2
        exact ⟨⟨i + 1, by first | rfl | (congr 1), by omega, HN2⟩, by simp [intOf]; omega⟩
    · have HV : Hid (R = (s.data.toList, [], false)) := by
        show R = _
        rw [HR.out]
        have := HN.out
        rw [List.take_of_length_le (by rw [← HL.out]; omega)] at this
        exact cutB_mk0 32 _ this
      clear HN
      go_wp2
      go_ret3
      rw [HV.out]
      exact ⟨by simp, Below.refl _ _⟩
/-- a list of texts, by its cells -/
def TextsAt (w : World) (b : Nat) (T : List (List UInt8)) : Prop := ∀ k, k < T.length → w.cell? ⟨b, k, none⟩ = some (.string ⟨(T.getD k []).toArray⟩)
set_option maxHeartbeats 2000000 in
set_option maxRecDepth 100000 in
theorem refAt_any {w : World} {b : Nat} {T : List (List UInt8)} (hT : TextsAt w b T) (h0 : T.getD 0 [] = [] ∧ ∀ k, k < T.length → 1 ≤ k → T.getD k [] ≠ []) (_hb : b < w.heap.size) (hl : T.length ≤ 100) (wd : List UInt8) :
    Calls Tryz.prog 52 #[.slice (some ⟨b, 0, none⟩) T.length T.length, .string ⟨wd.toArray⟩] w fun e w' => e = .returned (.int .i64 (atN T wd)) ∧ w' = w := by
  have HT := Lib.hid hT
  have H0 := Lib.hid h0
  clear hT h0
  go_enter Tryz.func52, Tryz.ntmps52
  go_wp2
  go_loop [5] (fun vi => ∃ i : Nat, vi = .int .i64 i ∧ 1 ≤ i ∧ Hid (∀ j, 1 ≤ j → j < i → j < T.length → T.getD j [] ≠ wd)) (fun vi => T.length - (intOf vi).toNat)
  case atStart => exact ⟨1, rfl, Nat.le_refl _, fun j h1 h2 => absurd h2 (by omega)⟩
  case round =>
    obtain ⟨i, rfl, hi, HN⟩ := hrel
    by_cases hlt : i < T.length
    · have hlt' : (i : Int) < (T.length : Int) := by omega
      have hcell := HT.out i hlt
      by_cases he : T.getD i [] = wd
      · have HV : Hid (atN T wd = i) := atN_hit H0.out.1 H0.out.2 hlt hi he (fun j h1 h2 => HN.out j h1 h2 (by omega))
        rw [he] at hcell
        clear HN he
        go_wp2
        go_ret
        rw [HV.out]
        exact ⟨rfl, rfl⟩
      · have HN2 : Hid (∀ j, 1 ≤ j → j < i + 1 → j < T.length → T.getD j [] ≠ wd) := fun j h1 h2 h3 => by
          rcases Nat.lt_succ_iff_lt_or_eq.1 h2 with q | rfl
          · exact HN.out j h1 q h3
          · exact he
        generalize T.getD i [] = u at *
        have he2 : (u == wd) = false := by rw [beq_eq_false_iff_ne]; exact he
        clear HN
        go_wp2
        exact ⟨⟨i + 1, by first | rfl | (congr 1), by omega, HN2⟩, by simp [intOf]; omega⟩
    · have hlt' : ¬ (i : Int) < (T.length : Int) := by omega
      have HV : Hid (atN T wd = 0) := atN_miss (fun j h1 h2 => HN.out j h1 (by omega) h2)
      clear HN
      go_wp2
      go_ret
      rw [HV.out]
      exact ⟨rfl, rfl⟩
end Go.Proofs.YtlnobfmbnnfbdaaGreatDoor
