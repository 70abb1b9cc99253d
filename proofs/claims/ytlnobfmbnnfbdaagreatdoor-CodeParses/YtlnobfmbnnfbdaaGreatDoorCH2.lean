import Derived.Test.YtlnobfmbnnfbdaaGreatDoorCW
namespace Go.Proofs.YtlnobfmbnnfbdaaGreatDoor
open Go.ChangeShapes Go.WideShapes Go.ChangeAt Go.RowKit Num

theorem mk_of_list (s : ByteArray) : (⟨s.data.toList.toArray⟩ : ByteArray) = s := bytes_eq rfl
theorem sl_idx (s : ByteArray) (i : Nat) (h : i < s.size) (W : World) : (Instr.index 9 (.string s) (.int .i64 (i : Int))).run Tryz.prog W = .ok (.int .u8 ((s.data.toList.getD i 0).toNat : Int)) W := by
  rw [run_index_string W 9 s .i64 i Tryz.underlying9, dif_pos ⟨by omega, by omega⟩, Lib.getD_at s _ (by omega)]
  rfl
theorem extract_list (s : ByteArray) (i j : Nat) : s.extract i j = ⟨((s.data.toList.drop i).take (j - i)).toArray⟩ := by
  apply bytes_eq
  have := ByteArray.extract_mk s.data.toList i j
  rw [mk_of_list] at this
  rw [this]
theorem sl_part (s : ByteArray) {i j : Nat} (h : i ≤ j) (hj : j ≤ s.size) (W : World) : (Instr.slice 9 (.string s) (some (.int .i64 (i : Int))) (some (.int .i64 (j : Int))) none).run Tryz.prog W = .ok (.string ⟨((s.data.toList.drop i).take (j - i)).toArray⟩) W := by
  rw [run_slice_string W 9 s .i64 .i64 i j Tryz.underlying9 (by omega) (by omega) (by omega), show ((i : Int)).toNat = i by omega, show ((j : Int)).toNat = j by omega, extract_list]
theorem sl_to (s : ByteArray) {j : Nat} (hj : j ≤ s.size) (W : World) : (Instr.slice 9 (.string s) none (some (.int .i64 (j : Int))) none).run Tryz.prog W = .ok (.string ⟨(s.data.toList.take j).toArray⟩) W := by
  rw [run_slice_string_to_if W 9 s .i64 j Tryz.underlying9, if_pos ⟨by omega, by omega⟩, show ((j : Int)).toNat = j by omega, extract_list]
  simp
theorem sl_from (s : ByteArray) {i : Nat} (hi : i ≤ s.size) (z : Int) (hz : z = i) (W : World) : (Instr.slice 9 (.string s) (some (.int .i64 z)) none none).run Tryz.prog W = .ok (.string ⟨(s.data.toList.drop i).toArray⟩) W := by
  subst hz
  rw [run_slice_string_from_if W 9 s .i64 i Tryz.underlying9, if_pos ⟨by omega, by omega⟩, show ((i : Int)).toNat = i by omega, extract_list, List.take_of_length_le (by rw [List.length_drop, ← size_list]; omega)]
theorem split_at (l : List UInt8) {i : Nat} (hi : i < l.length) {c : UInt8} (hc : l.getD i 0 = c) : l = l.take i ++ c :: l.drop (i + 1) := by
  have : l[i] = c := by rw [← hc]; simp [List.getD_eq_getElem?_getD, hi]
  conv => lhs; rw [← List.take_append_drop i l, List.drop_eq_getElem_cons hi, this]
theorem take_succ_not {l : List UInt8} {i : Nat} (hi : i < l.length) {c : UInt8} (h : c ∉ l.take i) (hc : l.getD i 0 ≠ c) : c ∉ l.take (i + 1) := by
  rw [List.take_succ_eq_append_getElem hi, List.mem_append, List.mem_singleton, not_or]
  refine ⟨h, fun q => hc ?_⟩
  simp [List.getD_eq_getElem?_getD, hi, ← q]
set_option maxHeartbeats 2000000 in
set_option maxRecDepth 100000 in
theorem refCut_any (s : ByteArray) (w : World) (hsz : s.size ≤ 65536) : Calls Tryz.prog 51 #[.string s] w fun e w' => e = .returned (.tuple #[.string ⟨(cutB 32 s.data.toList).1.toArray⟩, .string ⟨(cutB 32 s.data.toList).2.1.toArray⟩, .bool (cutB 32 s.data.toList).2.2]) ∧ Below w.heap.size w w' := by
  have HL := Lib.hid (size_list s)
  obtain ⟨R, hR⟩ : ∃ R, R = cutB 32 s.data.toList := ⟨_, rfl⟩
  rw [← hR]
  have HR := Lib.hid hR
  clear hR
  go_enter Tryz.func51, Tryz.ntmps51
  go_wp2
  go_loop [5] (fun vi => ∃ i : Nat, vi = .int .i64 i ∧ i ≤ s.size ∧ Hid (32 ∉ s.data.toList.take i)) (fun vi => s.size - (intOf vi).toNat)
  case atStart => exact ⟨0, rfl, Nat.zero_le _, by show 32 ∉ List.take 0 _; simp⟩
  case round =>
    obtain ⟨i, rfl, hi, HN⟩ := hrel
    by_cases hlt : i < s.size
    · have hlt' : (i : Int) < (s.size : Int) := by omega
      have hix := sl_idx s i hlt
      have hs1 := sl_to s (j := i) (by omega)
      have hs2 := sl_from s (i := i + 1) (by omega) ((i : Int) + 1) (by omega)
      obtain ⟨c, hc⟩ : ∃ c, c = s.data.toList.getD i 0 := ⟨_, rfl⟩
      rw [← hc] at hix
      have hc256 : c.toNat < 256 := c.toNat_lt
      by_cases h32 : c = 32
      · have HV : Hid (R = (s.data.toList.take i, s.data.toList.drop (i + 1), true)) := by
          show R = _
          rw [HR.out]
          conv => lhs; rw [split_at s.data.toList (i := i) (by rw [← HL.out]; exact hlt) hc.symm, h32]
          exact cutB_mk 32 _ _ HN.out
        have hq : ((c.toNat : Int) == 32) = true := by rw [h32]; rfl
        clear hc h32 HN
        generalize s.data.toList.take i = A at *
        generalize s.data.toList.drop (i + 1) = B at *
        go_wp2
        go_quiet (fail)
        go_wp2
        go_ret3
        rw [HV.out]
        exact ⟨rfl, by repeat (first | exact Below.refl _ _ | apply bl_alloc | apply bl_drewN | apply bl_drew)⟩
      · have HN2 : Hid (32 ∉ s.data.toList.take (i + 1)) := take_succ_not (by rw [← HL.out]; exact hlt) HN.out (by rw [← hc]; exact h32)
        have hq : ((c.toNat : Int) == 32) = false := by
          rw [beq_eq_false_iff_ne]
          intro q
          exact h32 (UInt8.toNat_inj.1 (by show c.toNat = 32; omega))
        clear hc h32 HN hs1 hs2
        go_wp2
        exact ⟨⟨i + 1, by first | rfl | (congr 1), by omega, HN2⟩, by simp [intOf]; omega⟩
    · have HV : Hid (R = (s.data.toList, [], false)) := by
        show R = _
        rw [HR.out]
        have := HN.out
        rw [List.take_of_length_le (by rw [← HL.out]; omega)] at this
        exact cutB_mk0 32 _ this
      clear HN
      go_wp2
      go_ret3
      rw [HV.out]
      exact ⟨by simp, Below.refl _ _⟩
/-- a list of texts, by its cells -/
def TextsAt (w : World) (b : Nat) (T : List (List UInt8)) : Prop := ∀ k, k < T.length → w.cell? ⟨b, k, none⟩ = some (.string ⟨(T.getD k []).toArray⟩)
set_option maxHeartbeats 2000000 in
set_option maxRecDepth 100000 in
theorem refAt_any {w : World} {b : Nat} {T : List (List UInt8)} (hT : TextsAt w b T) (h0 : T.getD 0 [] = [] ∧ ∀ k, k < T.length → 1 ≤ k → T.getD k [] ≠ []) (_hb : b < w.heap.size) (hl : T.length ≤ 100) (wd : List UInt8) :
    Calls Tryz.prog 52 #[.slice (some ⟨b, 0, none⟩) T.length T.length, .string ⟨wd.toArray⟩] w fun e w' => e = .returned (.int .i64 (atN T wd)) ∧ w' = w := by
  have HT := Lib.hid hT
  have H0 := Lib.hid h0
  clear hT h0
  go_enter Tryz.func52, Tryz.ntmps52
  go_wp2
  go_loop [5] (fun vi => ∃ i : Nat, vi = .int .i64 i ∧ 1 ≤ i ∧ Hid (∀ j, 1 ≤ j → j < i → j < T.length → T.getD j [] ≠ wd)) (fun vi => T.length - (intOf vi).toNat)
  case atStart => exact ⟨1, rfl, Nat.le_refl _, fun j h1 h2 => absurd h2 (by omega)⟩
  case round =>
    obtain ⟨i, rfl, hi, HN⟩ := hrel
    by_cases hlt : i < T.length
    · have hlt' : (i : Int) < (T.length : Int) := by omega
      have hcell := HT.out i hlt
      by_cases he : T.getD i [] = wd
      · have HV : Hid (atN T wd = i) := atN_hit H0.out.1 H0.out.2 hlt hi he (fun j h1 h2 => HN.out j h1 h2 (by omega))
        rw [he] at hcell
        clear HN he
        go_wp2
        go_ret
        rw [HV.out]
        exact ⟨rfl, rfl⟩
      · have HN2 : Hid (∀ j, 1 ≤ j → j < i + 1 → j < T.length → T.getD j [] ≠ wd) := fun j h1 h2 h3 => by
          rcases Nat.lt_succ_iff_lt_or_eq.1 h2 with q | rfl
          · exact HN.out j h1 q h3
          · exact he
        generalize T.getD i [] = u at *
        have he2 : (u == wd) = false := by rw [beq_eq_false_iff_ne]; exact he
        clear HN
        go_wp2
        exact ⟨⟨i + 1, by first | rfl | (congr 1), by omega, HN2⟩, by simp [intOf]; omega⟩
    · have hlt' : ¬ (i : Int) < (T.length : Int) := by omega
      have HV : Hid (atN T wd = 0) := atN_miss (fun j h1 h2 => HN.out j h1 (by omega) h2)
      clear HN
      go_wp2
      go_ret
      rw [HV.out]
      exact ⟨rfl, rfl⟩
end Go.Proofs.YtlnobfmbnnfbdaaGreatDoor
namespace Go.Proofs.YtlnobfmbnnfbdaaGreatDoor
open Go.ChangeShapes Go.WideShapes Go.ChangeAt Go.RowKit Num

/-- what reading a number comes to -/
def NumR (l : List UInt8) (most : Nat) (v : Int) (ok : Bool) : Prop := (ok = true → (wholeR l).2 = 0 ∧ (wholeR l).1 ≤ most ∧ v = (wholeR l).1) ∧ (ok = false → ¬ ((wholeR l).2 = 0 ∧ (wholeR l).1 ≤ most))
def NumE (l : List UInt8) (most : Nat) (e : Ending) : Prop := ∃ (v : Int) (ok : Bool), e = .returned (.tuple #[.int .i64 v, .bool ok]) ∧ NumR l most v ok
theorem numR_bad {l : List UInt8} {most : Nat} (v : Int) (h : ¬ ((wholeR l).2 = 0 ∧ (wholeR l).1 ≤ most)) : NumR l most v false := ⟨fun q => (by cases q), fun _ => h⟩
theorem numR_got {l : List UInt8} {most n : Nat} (h1 : 1 ≤ l.length) (h4 : l.length ≤ 4) (hr : readL 10 0 l = some n) (hc : ¬ (1 < l.length ∧ l.head? = some 48)) : NumR l most (n : Int) (decide (n ≤ most)) := by
  have e := num_ok h1 h4 hr
  rw [if_neg hc] at e
  unfold NumR
  rw [e]
  by_cases hm : n ≤ most
  · rw [decide_eq_true hm]
    exact ⟨fun _ => ⟨rfl, Int.ofNat_le.2 hm, rfl⟩, fun q => by cases q⟩
  · rw [decide_eq_false hm]
    exact ⟨fun q => (by cases q), fun _ q => hm (Int.ofNat_le.1 q.2)⟩
theorem numR_lead {l : List UInt8} {most n : Nat} (h1 : 1 ≤ l.length) (h4 : l.length ≤ 4) (hr : readL 10 0 l = some n) (hc : 1 < l.length ∧ l.head? = some 48) (v : Int) : NumR l most v false := by
  have e := num_ok h1 h4 hr
  rw [if_pos hc] at e
  refine numR_bad v ?_
  rw [e]
  intro q
  cases q.1
theorem dig_dv {c : UInt8} (h1 : 48 ≤ c.toNat) (h2 : c.toNat ≤ 57) : dvN c = c.toNat - 48 ∧ dvN c < 10 := by
  unfold dvN
  rw [if_pos ⟨h1, h2⟩]
  omega
theorem nodig_dv {c : UInt8} (h : c.toNat < 48 ∨ 57 < c.toNat) : ¬ dvN c < 10 := by
  unfold dvN
  rw [if_neg (by omega)]
  split <;> omega
set_option maxHeartbeats 4000000 in
set_option maxRecDepth 100000 in
theorem refNumber_any (s : ByteArray) (most : Nat) (hm : most ≤ 1023) (w : World) (hsz : s.size ≤ 65536) : Calls Tryz.prog 54 #[.string s, .int .i64 most] w fun e w' => NumE s.data.toList most e ∧ w' = w := by
  have HL := Lib.hid (size_list s)
  have HM := Lib.hid hm
  clear hm
  go_enter Tryz.func54, Tryz.ntmps54
  go_wp2
  go_loop [6, 7] (fun vn vi => ∃ (a i : Nat), vn = .int .i64 a ∧ vi = .int .i64 i ∧ i ≤ s.size ∧ i ≤ 5 ∧ a < 100000 ∧ Hid (a < 10 ^ i ∧ readL 10 0 s.data.toList = readL 10 a (s.data.toList.drop i))) (fun _ vi => s.size - (intOf vi).toNat)
  case atStart => exact ⟨0, 0, rfl, rfl, Nat.zero_le _, by omega, by omega, by decide, rfl⟩
  case round =>
    obtain ⟨a, i, rfl, rfl, hi, hi5, ha, HR⟩ := hrel
    by_cases hlt : i < s.size
    · have hlt' : (i : Int) < (s.size : Int) := by omega
      by_cases h5 : i < 5
      · have h5' : (i : Int) < 5 := by omega
        have hix := sl_idx s i hlt
        have hdrop := List.drop_eq_getElem_cons (l := s.data.toList) (i := i) (by rw [← HL.out]; omega)
        obtain ⟨c, hc⟩ : ∃ c, c = s.data.toList.getD i 0 := ⟨_, rfl⟩
        have hcc : s.data.toList[i]'(by rw [← HL.out]; omega) = c := by
          rw [hc]
          have : i < s.data.toList.length := by rw [← HL.out]; omega
          simp [List.getD_eq_getElem?_getD, List.getElem?_eq_getElem this]
        rw [hcc] at hdrop
        rw [← hc] at hix
        have hc256 : c.toNat < 256 := c.toNat_lt
        have HST : Hid (a < 10 ^ i ∧ readL 10 0 s.data.toList = if dvN c < 10 then readL 10 (a * 10 + dvN c) (s.data.toList.drop (i + 1)) else none) := by
          refine ⟨HR.out.1, ?_⟩
          rw [HR.out.2, hdrop]
          rfl
        clear HR hdrop hcc hc
        by_cases hd : c.toNat < 48 ∨ 57 < c.toNat
        · have HV : Hid (NumR s.data.toList most 0 false) := by
            have h := HST.out.2
            rw [if_neg (nodig_dv hd)] at h
            refine numR_bad 0 ?_
            rw [num_bad h]
            intro q
            cases q.1
          clear HST
          rcases hd with hd | hd
          · have hd' : (c.toNat : Int) < 48 := by omega
            go_wp2
            go_ret2
            exact ⟨⟨0, false, rfl, HV.out⟩, rfl⟩
          · have hd' : ¬ (c.toNat : Int) < 48 := by omega
            have hd2 : (57 : Int) < (c.toNat : Int) := by omega
            go_wp2
            go_ret2
            exact ⟨⟨0, false, rfl, HV.out⟩, rfl⟩
        · have hd1 : ¬ (c.toNat : Int) < 48 := by omega
          have hd2 : ¬ (57 : Int) < (c.toNat : Int) := by omega
          obtain ⟨d, hdd⟩ : ∃ d : Nat, d = c.toNat - 48 := ⟨_, rfl⟩
          obtain ⟨q1, q2⟩ := dig_dv (c := c) (by omega) (by omega)
          have HS2 : Hid (a < 10 ^ i ∧ readL 10 0 s.data.toList = readL 10 (a * 10 + d) (s.data.toList.drop (i + 1))) := by
            refine ⟨HST.out.1, ?_⟩
            have h := HST.out.2
            rw [if_pos q2, q1, ← hdd] at h
            exact h
          have ha4 : a < 10000 := by
            have h1 := HST.out.1
            have h2 : 10 ^ i ≤ 10 ^ 4 := Nat.pow_le_pow_right (by decide) (by omega)
            omega
          have hcd : (c.toNat : Int) = 48 + (d : Int) := by omega
          have hd9 : d ≤ 9 := by omega
          clear HST q1 q2 hd hdd
          rw [hcd] at hix hd1 hd2
          clear hcd
          go_wp2
          refine ⟨⟨a * 10 + d, i + 1, ?_, by first | rfl | (congr 1), by omega, by omega, by omega, ?_, HS2.out.2⟩, by simp [intOf]; omega⟩
          · first | rfl | (congr 1; omega)
          · have := HS2.out.1
            rw [Nat.pow_succ]
            omega
      · have h5' : ¬ (i : Int) < 5 := by omega
        have hl4 : ¬ (s.size : Int) ≤ 4 := by omega
        have hl1 : (1 : Int) ≤ (s.size : Int) := by omega
        have HV : Hid (NumR s.data.toList most (a : Int) false) := numR_bad _ (fun q => num_long (by rw [← HL.out]; omega) ⟨q.1, by have := HM.out; have := q.2; omega⟩)
        clear HR
        go_wp2
        go_ret2
        exact ⟨⟨a, false, rfl, HV.out⟩, rfl⟩
    · have hlt' : ¬ (i : Int) < (s.size : Int) := by omega
      have HRL : Hid (readL 10 0 s.data.toList = some a) := by
        have h := HR.out.2
        rw [List.drop_eq_nil_of_le (by rw [← HL.out]; omega)] at h
        exact h
      clear HR
      by_cases h1 : 1 ≤ s.size
      · have h1' : (1 : Int) ≤ (s.size : Int) := by omega
        by_cases h4 : s.size ≤ 4
        · have h4' : (s.size : Int) ≤ 4 := by omega
          by_cases he : s.size = 1
          · have he' : ((s.size : Int) == 1) = true := by rw [he]; rfl
            have HV : Hid (NumR s.data.toList most (a : Int) (decide (a ≤ most))) := numR_got (by rw [← HL.out]; exact h1) (by rw [← HL.out]; exact h4) HRL.out (fun q => by rw [← HL.out] at q; omega)
            clear he
            go_wp2
            go_ret2
            exact ⟨⟨a, _, rfl, HV.out⟩, rfl⟩
          · have he' : ((s.size : Int) == 1) = false := by rw [beq_eq_false_iff_ne]; omega
            have hix := sl_idx s 0 (by omega)
            obtain ⟨c, hc⟩ : ∃ c, c = s.data.toList.getD 0 0 := ⟨_, rfl⟩
            rw [← hc] at hix
            have hhd : s.data.toList.head? = some c := by
              have : 0 < s.data.toList.length := by rw [← HL.out]; omega
              rw [hc]
              cases hq : s.data.toList with
              | nil => rw [hq] at this; simp at this
              | cons x y => rfl
            have hc256 : c.toNat < 256 := c.toNat_lt
            have hix0 : ∀ W, (Instr.index 9 (.string s) (.int .i64 0)).run Tryz.prog W = .ok (.int .u8 (c.toNat : Int)) W := hix
            clear hix
            by_cases h48 : c = 48
            · have HV : Hid (NumR s.data.toList most (a : Int) false) := numR_lead (by rw [← HL.out]; exact h1) (by rw [← HL.out]; exact h4) HRL.out ⟨by rw [← HL.out]; omega, by rw [hhd, h48]⟩ _
              have hq : ((c.toNat : Int) != 48) = false := by rw [h48]; rfl
              clear hc hhd h48
              go_wp2
              go_ret2
              exact ⟨⟨a, false, rfl, HV.out⟩, rfl⟩
            · have HV : Hid (NumR s.data.toList most (a : Int) (decide (a ≤ most))) := numR_got (by rw [← HL.out]; exact h1) (by rw [← HL.out]; exact h4) HRL.out (fun q => by rw [hhd] at q; exact h48 (Option.some.inj q.2))
              have hq : ((c.toNat : Int) != 48) = true := by
                rw [bne_iff_ne]
                intro q
                exact h48 (UInt8.toNat_inj.1 (by show c.toNat = 48; omega))
              clear hc hhd h48
              go_wp2
              go_ret2
              exact ⟨⟨a, _, rfl, HV.out⟩, rfl⟩
        · have h4' : ¬ (s.size : Int) ≤ 4 := by omega
          have HV : Hid (NumR s.data.toList most (a : Int) false) := numR_bad _ (fun q => num_long (by rw [← HL.out]; omega) ⟨q.1, by have := HM.out; have := q.2; omega⟩)
          go_wp2
          go_ret2
          exact ⟨⟨a, false, rfl, HV.out⟩, rfl⟩
      · have h1' : ¬ (1 : Int) ≤ (s.size : Int) := by omega
        have HV : Hid (NumR s.data.toList most (a : Int) false) := numR_bad _ (fun q => by
          have hn : s.data.toList = [] := List.eq_nil_of_length_eq_zero (by rw [← HL.out]; omega)
          rw [hn] at q
          exact wholeR_nil q.1)
        go_wp2
        go_ret2
        exact ⟨⟨a, false, rfl, HV.out⟩, rfl⟩
end Go.Proofs.YtlnobfmbnnfbdaaGreatDoor
