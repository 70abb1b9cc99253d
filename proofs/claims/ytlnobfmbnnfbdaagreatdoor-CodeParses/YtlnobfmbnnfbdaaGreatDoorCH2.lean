/- the document's number -/
import Derived.Test.YtlnobfmbnnfbdaaGreatDoorCH
namespace Go.Proofs.YtlnobfmbnnfbdaaGreatDoor
open Go.ChangeShapes Go.WideShapes Go.ChangeAt Go.RowKit Num

/-- what reading a number comes to -/
def NumR (l : List UInt8) (most : Nat) (v : Int) (ok : Bool) : Prop := (ok = true → (wholeR l).2 = 0 ∧ (wholeR l).1 ≤ most ∧ v = (wholeR l).1) ∧ (ok = false → ¬ ((wholeR l).2 = 0 ∧ (wholeR l).1 ≤ most))
def NumE (l : List UInt8) (most : Nat) (e : Ending) : Prop := ∃ (v : Int) (ok : Bool), e = .returned (.tuple #[.int .i64 v, .bool ok]) ∧ NumR l most v ok
theorem numR_bad {l : List UInt8} {most : Nat} (v : Int) (h : ¬ ((wholeR l).2 = 0 ∧ (wholeR l).1 ≤ most)) : NumR l most v false := ⟨fun q => (by cases q), fun _ => h⟩
theorem numR_got {l : List UInt8} {most n : Nat} (h1 : 1 ≤ l.length) (h4 : l.length ≤ 4) (hr : readL 10 0 l = some n) (hc : ¬ (1 < l.length ∧ l.head? = some 48)) : NumR l most (n : Int) (decide (n ≤ most)) := by
  have e := num_ok h1 h4 hr
  rw [if_neg hc] at e
  unfold NumR
  rw [e]
  by_cases hm : n ≤ most
  · rw [decide_eq_true hm]
    exact ⟨fun _ => ⟨rfl, Int.ofNat_le.2 hm, rfl⟩, fun q => by cases q⟩
  · rw [decide_eq_false hm]
    exact ⟨fun q => (by cases q), fun _ q => hm (Int.ofNat_le.1 q.2)⟩
theorem numR_lead {l : List UInt8} {most n : Nat} (h1 : 1 ≤ l.length) (h4 : l.length ≤ 4) (hr : readL 10 0 l = some n) (hc : 1 < l.length ∧ l.head? = some 48) (v : Int) : NumR l most v false := by
  have e := num_ok h1 h4 hr
  rw [if_pos hc] at e
  refine numR_bad v ?_
  rw [e]
  intro q
  cases q.1
theorem dig_dv {c : UInt8} (h1 : 48 ≤ c.toNat) (h2 : c.toNat ≤ 57) : dvN c = c.toNat - 48 ∧ dvN c < 10 := by
  unfold dvN
  rw [if_pos ⟨h1, h2⟩]
  omega
theorem nodig_dv {c : UInt8} (h : c.toNat < 48 ∨ 57 < c.toNat) : ¬ dvN c < 10 := by
  unfold dvN
  rw [if_neg (by omega)]
  split <;> omega
set_option maxHeartbeats 4000000 in
set_option maxRecDepth 100000 in
theorem refNumber_any (s : ByteArray) (most : Nat) (hm : most ≤ 1023) (w : World) (hsz : s.size ≤ 65536) : Calls Tryz.prog 54 #[.string s, .int .i64 most] w fun e w' => NumE s.data.toList most e ∧ w' = w := by
  have HL := Lib.hid (size_list s)
  have HM := Lib.hid hm
  clear hm
  go_enter Tryz.func54, Tryz.ntmps54
  go_wp2
  go_loop [6, 7] (fun vn vi => ∃ (a i : Nat), vn = .int .i64 a ∧ vi = .int .i64 i ∧ i ≤ s.size ∧ i ≤ 5 ∧ a < 100000 ∧ Hid (a < 10 ^ i ∧ readL 10 0 s.data.toList = readL 10 a (s.data.toList.drop i))) (fun _ vi => s.size - (intOf vi).toNat)
  case atStart => exact ⟨0, 0, rfl, rfl, Nat.zero_le _, by omega, by omega, by decide, rfl⟩
  case round =>
    obtain ⟨a, i, rfl, rfl, hi, hi5, ha, HR⟩ := hrel
    by_cases hlt : i < s.size
    · have hlt' : (i : Int) < (s.size : Int) := by omega
      by_cases h5 : i < 5
      · have h5' : (i : Int) < 5 := by omega
        have hix := sl_idx s i hlt
        have hdrop := List.drop_eq_getElem_cons (l := s.data.toList) (i := i) (by rw [← HL.out]; omega)
        obtain ⟨c, hc⟩ : ∃ c, c = s.data.toList.getD i 0 := ⟨_, rfl⟩
        have hcc : s.data.toList[i]'(by rw [← HL.out]; omega) = c := by
          rw [hc]
          have : i < s.data.toList.length := by rw [← HL.out]; omega
          simp [List.getD_eq_getElem?_getD, List.getElem?_eq_getElem this]
        rw [hcc] at hdrop
        rw [← hc] at hix
        have hc256 : c.toNat < 256 := c.toNat_lt
        have HST : Hid (a < 10 ^ i ∧ readL 10 0 s.data.toList = if dvN c < 10 then readL 10 (a * 10 + dvN c) (s.data.toList.drop (i + 1)) else none) := by
          refine ⟨HR.out.1, ?_⟩
          rw [HR.out.2, hdrop]
          rfl
        clear HR hdrop hcc hc
        by_cases hd : c.toNat < 48 ∨ 57 < c.toNat
        · have HV : Hid (NumR s.data.toList most 0 false) := by
            have h := HST.out.2
            rw [if_neg (nodig_dv hd)] at h
            refine numR_bad 0 ?_
            rw [num_bad h]
            intro q
            cases q.1
          clear HST
          rcases hd with hd | hd
          · have hd' : (c.toNat : Int) < 48 := by omega
            go_wp2
            go_ret2
            exact ⟨⟨0, false, rfl, HV.out⟩, rfl⟩
          · have hd' : ¬ (c.toNat : Int) < 48 := by omega
            have hd2 : (57 : Int) < (c.toNat : Int) := by omega
            go_wp2
            go_ret2
            exact ⟨⟨0, false, rfl, HV.out⟩, rfl⟩
        · have hd1 : ¬ (c.toNat : Int) < 48 := by omega
          have hd2 : ¬ (57 : Int) < (c.toNat : Int) := by omega
          obtain ⟨d, hdd⟩ : ∃ d : Nat, d = c.toNat - 48 := ⟨_, rfl⟩
          obtain ⟨q1, q2⟩ := dig_dv (c := c) (by omega) (by omega)
          have HS2 : Hid (a < 10 ^ i ∧ readL 10 0 s.data.toList = readL 10 (a * 10 + d) (s.data.toList.drop (i + 1))) := by
            refine ⟨HST.out.1, ?_⟩
            have h := HST.out.2
            rw [if_pos q2, q1, ← hdd] at h
            exact h
          have ha4 : a < 10000 := by
            have h1 := HST.out.1
            have h2 : 10 ^ i ≤ 10 ^ 4 := Nat.pow_le_pow_right (by decide) (by omega)
            omega
          have hcd : (c.toNat : Int) = 48 + (d : Int) := by omega
          have hd9 : d ≤ 9 := by omega
          clear HST q1 q2 hd hdd
          rw [hcd] at hix hd1 hd2
          clear hcd
          go_wp2
          refine ⟨⟨a * 10 + d, i + 1, ?_, by first | rfl | (congr 1), by omega, by omega, by omega, ?_, HS2.out.2⟩, by simp [intOf]; omega⟩
          · first | rfl | (congr 1; omega)
          · have := HS2.out.1
            rw [Nat.pow_succ]
            omega
      · have h5' : ¬ (i : Int) < 5 := by omega
        have hl4 : ¬ (s.size : Int) ≤ 4 := by omega
        have hl1 : (1 : Int) ≤ (s.size : Int) := by omega
        have HV : Hid (NumR s.data.toList most (a : Int) false) := numR_bad _ (fun q => num_long (by rw [← HL.out]; omega) ⟨q.1, by have := HM.out; have := q.2; omega⟩)
        clear HR
        go_wp2
        go_ret2
        exact ⟨⟨a, false, rfl, HV.out⟩, rfl⟩
    · have hlt' : ¬ (i : Int) < (s.size : Int) := by omega
      have HRL : Hid (readL 10 0 s.data.toList = some a) := by
        have h := HR.out.2
        rw [List.drop_eq_nil_of_le (by rw [← HL.out]; omega)] at h
        exact h
      clear HR
      by_cases h1 : 1 ≤ s.size
      · have h1' : (1 : Int) ≤ (s.size : Int) := by omega
        by_cases h4 : s.size ≤ 4
        · have h4' : (s.size : Int) ≤ 4 := by omega
          by_cases he : s.size = 1
          · have he' : ((s.size : Int) == 1) = true := by rw [he]; rfl
            have HV : Hid (NumR s.data.toList most (a : Int) (decide (a ≤ most))) := numR_got (by rw [← HL.out]; exact h1) (by rw [← HL.out]; exact h4) HRL.out (fun q => by rw [← HL.out] at q; omega)
            clear he
            go_wp2
            go_ret2
            exact ⟨⟨a, _, rfl, HV.out⟩, rfl⟩
          · have he' : ((s.size : Int) == 1) = false := by rw [beq_eq_false_iff_ne]; omega
            have hix := sl_idx s 0 (by omega)
            obtain ⟨c, hc⟩ : ∃ c, c = s.data.toList.getD 0 0 := ⟨_, rfl⟩
            rw [← hc] at hix
            have hhd : s.data.toList.head? = some c := by
              have : 0 < s.data.toList.length := by rw [← HL.out]; omega
              rw [hc]
              cases hq : s.data.toList with
              | nil => rw [hq] at this; simp at this
              | cons x y => rfl
            have hc256 : c.toNat < 256 := c.toNat_lt
            have hix0 : ∀ W, (Instr.index 9 (.string s) (.int .i64 0)).run Tryz.prog W = .ok (.int .u8 (c.toNat : Int)) W := hix
            clear hix
            by_cases h48 : c = 48
            · have HV : Hid (NumR s.data.toList most (a : Int) false) := numR_lead (by rw [← HL.out]; exact h1) (by rw [← HL.out]; exact h4) HRL.out ⟨by rw [← HL.out]; omega, by rw [hhd, h48]⟩ _
              have hq : ((c.toNat : Int) != 48) = false := by rw [h48]; rfl
              clear hc hhd h48
              go_wp2
              go_ret2
              exact ⟨⟨a, false, rfl, HV.out⟩, rfl⟩
            · have HV : Hid (NumR s.data.toList most (a : Int) (decide (a ≤ most))) := numR_got (by rw [← HL.out]; exact h1) (by rw [← HL.out]; exact h4) HRL.out (fun q => by rw [hhd] at q; exact h48 (Option.some.inj q.2))
              have hq : ((c.toNat : Int) != 48) = true := by
                rw [bne_iff_ne]
                intro q
                exact h48 (UInt8.toNat_inj.1 (by show c.toNat = 48; omega))
              clear hc hhd h48
              go_wp2
              go_ret2
              exact ⟨⟨a, _, rfl, HV.out⟩, rfl⟩
        · have h4' : ¬ (s.size : Int) ≤ 4 := by omega
          have HV : Hid (NumR s.data.toList most (a : Int) false) := numR_bad _ (fun q => num_long (by rw [← HL.out]; omega) ⟨q.1, by have := HM.out; have := q.2; omega⟩)
          go_wp2
          go_ret2
          exact ⟨⟨a, false, rfl, HV.out⟩, rfl⟩
      · have h1' : ¬ (1 : Int) ≤ (s.size : Int) := by omega
        have HV : Hid (NumR s.data.toList most (a : Int) false) := numR_bad _ (fun q => by
          have hn : s.data.toList = [] := List.eq_nil_of_length_eq_zero (by rw [← HL.out]; omega)
          rw [hn] at q
          exact wholeR_nil q.1)
        go_wp2
        go_ret2
        exact ⟨⟨a, false, rfl, HV.out⟩, rfl⟩
end Go.Proofs.YtlnobfmbnnfbdaaGreatDoor
