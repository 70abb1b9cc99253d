import Derived.Test.YtlnobfmbnnfbdaaGreatDoorT7
namespace Go.Proofs.YtlnobfmbnnfbdaaGreatDoor
open Go.ChangeShapes Go.WideShapes Go.ChangeAt Go.RowKit Num

/-! digits read -/
def readL (base : Nat) : Nat → List UInt8 → Option Nat
  | acc, [] => some acc
  | acc, c :: r => if dvN c < base then readL base (acc * base + dvN c) r else none
def readR (base : Nat) (l : List UInt8) : Nat × Bool :=
  if l.length = 0 ∨ 16 < l.length then (0, false) else match readL base 0 l with
    | some n => (n, true)
    | none => (0, false)

set_option maxHeartbeats 8000000 in
set_option maxRecDepth 100000 in
theorem refRead_any (s : ByteArray) (base : Nat) (w : World) (hb : base = 10 ∨ base = 16) :
    Calls Tryz.prog 86 #[.string s, .int .i64 base] w fun e w' => e = .returned (.tuple #[.int .u64 (readR base s.data.toList).1, .bool (readR base s.data.toList).2]) ∧ w' = w := by
  have hl : s.size = s.data.toList.length := size_list s
  by_cases h0 : s.size = 0
  · have e : readR base s.data.toList = (0, false) := by unfold readR; rw [if_pos (.inl (by omega))]
    rw [e]
    have hemp : s = ⟨#[]⟩ := bytes_eq (List.eq_nil_of_length_eq_zero (by omega))
    subst hemp
    clear h0 hl e
    go_enter Tryz.func86, Tryz.ntmps86
    go_wp2
    go_ret2
    exact ⟨rfl, rfl⟩
  have hemp : s.toList.isEmpty = false := by
    rw [← decide_eq_emptyBytes]
    exact decide_eq_false (fun h => h0 (by rw [h]; rfl))
  by_cases h16 : 16 < s.size
  · have e : readR base s.data.toList = (0, false) := by unfold readR; rw [if_pos (.inr (by omega))]
    rw [e]
    clear hl e
    go_enter Tryz.func86, Tryz.ntmps86
    go_wp2
    go_ret2
    exact ⟨rfl, rfl⟩
  have HREAD : Hid (readR base s.data.toList = match readL base 0 s.data.toList with | some n => (n, true) | none => (0, false)) := by
    show readR base s.data.toList = _
    unfold readR
    rw [if_neg (by omega)]
  clear hl
  have h16' : ¬ (16 : Int) < (s.size : Int) := by omega
  rcases hb with rfl | rfl
  · generalize readR 10 s.data.toList = rr at HREAD ⊢
    go_enter Tryz.func86, Tryz.ntmps86
    go_wp2
    go_loop [6, 7] (fun vn vi => ∃ (a i : Int), vn = .int .u64 a ∧ vi = .int .i64 i ∧ 0 ≤ a ∧ 0 ≤ i ∧ i ≤ s.size ∧ Hid (∃ k acc : Nat, i = k ∧ a = acc ∧ acc < 10 ^ k ∧ readL 10 0 s.data.toList = readL 10 acc (s.data.toList.drop k))) (fun _ vi => s.size - (intOf vi).toNat)
    case atStart => exact ⟨0, 0, rfl, rfl, by omega, by omega, by omega, 0, 0, rfl, rfl, by decide, rfl⟩
    case round =>
      obtain ⟨a, i, rfl, rfl, ha, hi0, hi1, HR⟩ := hrel
      by_cases hlt : i < s.size
      · have hi2 : i.toNat < s.data.toList.length := by rw [← size_list]; omega
        obtain ⟨c, hc⟩ : ∃ c, c = s.data.toList[i.toNat] := ⟨_, rfl⟩
        have hix : ∀ W, (Instr.index 9 (.string s) (.int .i64 i)).run Tryz.prog W = .ok (.int .u8 (c.toNat : Int)) W := fun W => by
          rw [run_index_string W 9 s .i64 i Tryz.underlying9, dif_pos ⟨hi0, hlt⟩, hc]
          rfl
        have hc256 : c.toNat < 256 := c.toNat_lt
        have hdv : dv 10 c = if dvN c < 10 then (dvN c : Int) else -1 := rfl
        have HST : Hid (∃ k acc : Nat, i = k ∧ a = acc ∧ acc < 1152921504606846976 ∧ acc < 10 ^ k ∧ readL 10 0 s.data.toList = if dvN c < 10 then readL 10 (acc * 10 + dvN c) (s.data.toList.drop (k + 1)) else none) := by
          obtain ⟨k, acc, rfl, rfl, hp, hr⟩ := HR.out
          have hdrop := List.drop_eq_getElem_cons (l := s.data.toList) (i := k) (by rw [← size_list]; omega)
          refine ⟨k, acc, rfl, rfl, ?_, hp, ?_⟩
          · have : 10 ^ k ≤ 10 ^ 15 := Nat.pow_le_pow_right (by decide) (by omega)
            have e : 10 ^ 15 ≤ 1152921504606846976 := by decide
            omega
          · rw [hr, hdrop, hc]
            rfl
        have ha2 : a < 1152921504606846976 := by obtain ⟨k, acc, h1, h2, h3, _⟩ := HST.out; omega
        clear HR hc hi2
        by_cases hd : dvN c < 10
        · rw [if_pos hd] at hdv
          have hdd : ((dvN c : Nat) : Int) < 10 := by omega
          obtain ⟨d, hd'⟩ : ∃ d, d = dvN c := ⟨_, rfl⟩
          rw [← hd'] at hdv hdd
          have HD := Lib.hid hd'
          clear hd'
          go_wp2_with (go_at_call 102; refine (refWorth_any c 10 _ (by omega)).mono ?_; rintro e w' ⟨rfl, hw⟩; subst w')

          refine ⟨⟨a * 10 + d, i + 1, rfl, rfl, by omega, by omega, by omega, ?_⟩, by simp [intOf]; omega⟩
          obtain ⟨k, acc, rfl, rfl, h3, h4, h5⟩ := HST.out
          have h6 := HD.out
          rw [← h6, if_pos (by omega)] at h5
          refine ⟨k + 1, acc * 10 + d, by omega, by omega, ?_, h5⟩
          rw [Nat.pow_succ]
          omega
        · rw [if_neg hd] at hdv
          go_wp2_with (go_at_call 102; refine (refWorth_any c 10 _ (by omega)).mono ?_; rintro e w' ⟨rfl, hw⟩; subst w')
          go_ret2
          obtain ⟨k, acc, rfl, rfl, h3, h4, h5⟩ := HST.out
          rw [if_neg hd] at h5
          have HV := HREAD.out
          rw [h5] at HV
          rw [HV]
          exact ⟨rfl, rfl⟩
      · go_wp2
        go_ret2
        obtain ⟨k, acc, rfl, rfl, h3, h4⟩ := HR.out
        rw [List.drop_eq_nil_of_le (by rw [← size_list]; omega)] at h4
        have HV := HREAD.out
        rw [h4] at HV
        rw [HV]
        exact ⟨rfl, rfl⟩
  · generalize readR 16 s.data.toList = rr at HREAD ⊢
    go_enter Tryz.func86, Tryz.ntmps86
    go_wp2
    go_loop [6, 7] (fun vn vi => ∃ (a i : Int), vn = .int .u64 a ∧ vi = .int .i64 i ∧ 0 ≤ a ∧ 0 ≤ i ∧ i ≤ s.size ∧ Hid (∃ k acc : Nat, i = k ∧ a = acc ∧ acc < 16 ^ k ∧ readL 16 0 s.data.toList = readL 16 acc (s.data.toList.drop k))) (fun _ vi => s.size - (intOf vi).toNat)
    case atStart => exact ⟨0, 0, rfl, rfl, by omega, by omega, by omega, 0, 0, rfl, rfl, by decide, rfl⟩
    case round =>
      obtain ⟨a, i, rfl, rfl, ha, hi0, hi1, HR⟩ := hrel
      by_cases hlt : i < s.size
      · have hi2 : i.toNat < s.data.toList.length := by rw [← size_list]; omega
        obtain ⟨c, hc⟩ : ∃ c, c = s.data.toList[i.toNat] := ⟨_, rfl⟩
        have hix : ∀ W, (Instr.index 9 (.string s) (.int .i64 i)).run Tryz.prog W = .ok (.int .u8 (c.toNat : Int)) W := fun W => by
          rw [run_index_string W 9 s .i64 i Tryz.underlying9, dif_pos ⟨hi0, hlt⟩, hc]
          rfl
        have hc256 : c.toNat < 256 := c.toNat_lt
        have hdv : dv 16 c = if dvN c < 16 then (dvN c : Int) else -1 := rfl
        have HST : Hid (∃ k acc : Nat, i = k ∧ a = acc ∧ acc < 1152921504606846976 ∧ acc < 16 ^ k ∧ readL 16 0 s.data.toList = if dvN c < 16 then readL 16 (acc * 16 + dvN c) (s.data.toList.drop (k + 1)) else none) := by
          obtain ⟨k, acc, rfl, rfl, hp, hr⟩ := HR.out
          have hdrop := List.drop_eq_getElem_cons (l := s.data.toList) (i := k) (by rw [← size_list]; omega)
          refine ⟨k, acc, rfl, rfl, ?_, hp, ?_⟩
          · have : 16 ^ k ≤ 16 ^ 15 := Nat.pow_le_pow_right (by decide) (by omega)
            have e : 16 ^ 15 ≤ 1152921504606846976 := by decide
            omega
          · rw [hr, hdrop, hc]
            rfl
        have ha2 : a < 1152921504606846976 := by obtain ⟨k, acc, h1, h2, h3, _⟩ := HST.out; omega
        clear HR hc hi2
        by_cases hd : dvN c < 16
        · rw [if_pos hd] at hdv
          have hdd : ((dvN c : Nat) : Int) < 16 := by omega
          obtain ⟨d, hd'⟩ : ∃ d, d = dvN c := ⟨_, rfl⟩
          rw [← hd'] at hdv hdd
          have HD := Lib.hid hd'
          clear hd'
          go_wp2_with (go_at_call 102; refine (refWorth_any c 16 _ (by omega)).mono ?_; rintro e w' ⟨rfl, hw⟩; subst w')

          refine ⟨⟨a * 16 + d, i + 1, rfl, rfl, by omega, by omega, by omega, ?_⟩, by simp [intOf]; omega⟩
          obtain ⟨k, acc, rfl, rfl, h3, h4, h5⟩ := HST.out
          have h6 := HD.out
          rw [← h6, if_pos (by omega)] at h5
          refine ⟨k + 1, acc * 16 + d, by omega, by omega, ?_, h5⟩
          rw [Nat.pow_succ]
          omega
        · rw [if_neg hd] at hdv
          go_wp2_with (go_at_call 102; refine (refWorth_any c 16 _ (by omega)).mono ?_; rintro e w' ⟨rfl, hw⟩; subst w')
          go_ret2
          obtain ⟨k, acc, rfl, rfl, h3, h4, h5⟩ := HST.out
          rw [if_neg hd] at h5
          have HV := HREAD.out
          rw [h5] at HV
          rw [HV]
          exact ⟨rfl, rfl⟩
      · go_wp2
        go_ret2
        obtain ⟨k, acc, rfl, rfl, h3, h4⟩ := HR.out
        rw [List.drop_eq_nil_of_le (by rw [← size_list]; omega)] at h4
        have HV := HREAD.out
        rw [h4] at HV
        rw [HV]
        exact ⟨rfl, rfl⟩
end Go.Proofs.YtlnobfmbnnfbdaaGreatDoor
