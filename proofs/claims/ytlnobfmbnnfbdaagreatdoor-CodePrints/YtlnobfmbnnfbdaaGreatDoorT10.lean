import Derived.Test.YtlnobfmbnnfbdaaGreatDoorT9
import Derived.Lib.ConvBytes
import Derived.Lib.AtoiAllMem
namespace Go.Proofs.YtlnobfmbnnfbdaaGreatDoor
open Go.ChangeShapes Go.WideShapes Go.ChangeAt Go.RowKit Num

/-! strconv.ParseUint to the base sixteen -/
def lowN (c : UInt8) : Nat := c.toNat ||| 32
def hvN (c : UInt8) : Nat := if 48 ≤ c.toNat ∧ c.toNat ≤ 57 then c.toNat - 48 else if 97 ≤ lowN c ∧ lowN c ≤ 122 then lowN c - 87 else 255
/-- how a text that is no number ends -/
def noNum : Lib.NumEnd Nat := Lib.parseUintB 64 []
theorem noNum_ne (n : Nat) : noNum ≠ .ok n := by
  intro h
  have h2 : Lib.parseUintB 64 [] = .ok n := h
  rw [Lib.parseUintB, if_pos rfl] at h2
  cases h2
def parse16 (acc : Nat) : List UInt8 → Lib.NumEnd Nat
  | [] => .ok acc
  | c :: r => if 16 ≤ hvN c then noNum else if 1152921504606846976 ≤ acc then .range else parse16 (acc * 16 + hvN c) r
theorem low_fin : ∀ c : Fin 256, bits .or .u8 (c.val : Int) 32 = ((c.val ||| 32 : Nat) : Int) ∧ c.val ||| 32 < 256 ∧ (dvN (UInt8.ofNat c.val) < 16 → hvN (UInt8.ofNat c.val) = dvN (UInt8.ofNat c.val)) := by decide +kernel
theorem low_bits (c : UInt8) : bits .or .u8 (c.toNat : Int) 32 = ((lowN c : Nat) : Int) := (low_fin ⟨c.toNat, c.toNat_lt⟩).1
theorem low_lt (c : UInt8) : lowN c < 256 := (low_fin ⟨c.toNat, c.toNat_lt⟩).2.1
theorem hv_dv {c : UInt8} (h : dvN c < 16) : hvN c = dvN c := by
  have := (low_fin ⟨c.toNat, c.toNat_lt⟩).2.2
  simp only [UInt8.ofNat_toNat] at this
  exact this h
theorem not95 {c : UInt8} (h : lowN c ≠ 127) : ((c.toNat : Int) == 95) = false := by
  rw [beq_eq_false_iff_ne]
  intro q
  have e : c.toNat = 95 := by omega
  apply h
  unfold lowN
  rw [e]
  rfl
theorem parse16_of : ∀ (l : List UInt8) (acc n : Nat), readL 16 acc l = some n → n < 18446744073709551616 → parse16 acc l = .ok n
  | [], acc, n, h, _ => by rw [show acc = n from Option.some.inj h]; rfl
  | c :: l, acc, n, h, hn => by
    have h' : (if dvN c < 16 then readL 16 (acc * 16 + dvN c) l else none) = some n := h
    split at h'
    · rename_i g
      have hm := readL_mono (by decide) l _ n h'
      have ih := parse16_of l _ n h' hn
      rw [parse16, hv_dv g, if_neg (by omega), if_neg (by omega)]
      exact ih
    · cases h'

set_option maxHeartbeats 32000000 in
set_option maxRecDepth 100000 in
theorem iParseUint16 (t : ByteArray) (hne : t.size ≠ 0) (hmax : t.size ≤ 9223372036854775806) (w : World) :
    Calls Tryz.prog 132 #[.string t, .int .i64 16, .int .i64 64] w fun e w' => e = .returned (Lib.uintTuple 148 (parse16 0 t.data.toList)) ∧ w' = Lib.bytesWorld w 5 t := by
  have hemp : t.toList.isEmpty = false := by
    rw [← decide_eq_emptyBytes]
    exact decide_eq_false (fun h => hne (by rw [h]; rfl))
  have hcv := Lib.run_convert_string_bytes (P := Tryz.prog) w 9 55 5 t (u := .string) Tryz.underlying9 Tryz.underlying55 Tryz.underlying5
  have hB : ∀ j, j < t.size → (Lib.bytesWorld w 5 t).cell? ⟨w.heap.size, j, none⟩ = some (.int .u8 (t.data.toList.getD j 0).toNat) := fun j hj => Lib.bytesWorld_cell w 5 t j hj
  obtain ⟨W1, hW1⟩ : ∃ W1, W1 = Lib.bytesWorld w 5 t := ⟨_, rfl⟩
  rw [← hW1] at hcv hB ⊢
  clear hW1
  obtain ⟨bs, hL⟩ : ∃ bs, bs = t.data.toList := ⟨_, rfl⟩
  have hLn : bs.length = t.size := by rw [hL, size_list]
  rw [← hL] at hB ⊢
  clear hL
  have hmv : IntKind.u64.wrap (IntKind.u64.wrap 18446744073709551616 - 1) = 18446744073709551615 := by
    rw [IntKind.wrap_u64, IntKind.wrap_u64]
    decide
  obtain ⟨R, hR⟩ : ∃ R, R = parse16 0 bs := ⟨_, rfl⟩
  rw [← hR]
  have HRR := Lib.hid hR
  clear hR
  go_enter Tryz.func132, Tryz.ntmps132
  go_wp2
  go_loop [12, 13, 101] (fun vu vn vi => ∃ (k : Nat) (a : Int), vu = .bool false ∧ vn = .int .u64 a ∧ vi = .int .i64 k ∧ k ≤ t.size ∧ 0 ≤ a ∧ a < 18446744073709551616 ∧ Hid (∃ acc : Nat, a = (acc : Int) ∧ parse16 0 bs = parse16 acc (bs.drop k)))
    (fun _ _ vi => t.size - (intOf vi).toNat)
  case atStart => exact ⟨0, 0, rfl, rfl, rfl, by omega, by omega, by omega, 0, rfl, rfl⟩
  case round =>
    obtain ⟨k, a, rfl, rfl, rfl, hk, a0, a1, HH⟩ := hrel
    by_cases hkn : k < t.size
    · have hc := hB k hkn
      have hdrop : bs.drop k = bs[k]'(by omega) :: bs.drop (k + 1) := List.drop_eq_getElem_cons (by omega)
      have hget : bs.getD k 0 = bs[k]'(by omega) := by simp [List.getD, List.getElem?_eq_getElem (show k < bs.length by omega)]
      rw [hget] at hc
      have HS : Hid (∃ acc : Nat, a = (acc : Int) ∧ parse16 0 bs = if 16 ≤ hvN (bs[k]'(by omega)) then noNum else if 1152921504606846976 ≤ acc then .range else parse16 (acc * 16 + hvN (bs[k]'(by omega))) (bs.drop (k + 1))) := by
        obtain ⟨acc, h1, h2⟩ := HH.out
        exact ⟨acc, h1, by rw [h2, hdrop]; rfl⟩
      generalize bs[k]'(by omega) = c at hc HS
      have hc256 : c.toNat < 256 := c.toNat_lt
      clear hB hdrop hget HH
      by_cases hcut : 1152921504606846976 ≤ a
      · have HRG : Hid (¬ 16 ≤ hvN c → R = .range) := by
          obtain ⟨acc, h1, h2⟩ := HS.out
          intro h
          rw [HRR.out, h2, if_neg h, if_pos (by omega)]
        by_cases hdig : 48 ≤ c.toNat ∧ c.toNat ≤ 57
        · have hr : R = .range := HRG.out (by unfold hvN; rw [if_pos hdig]; omega)
          obtain ⟨hd0, hd1⟩ := hdig
          subst hr
          clear HS HRR
          go_wp2
          go_ret2
          exact ⟨rfl, rfl⟩
        · have hlow := low_bits c
          have hx := low_lt c
          by_cases hl : 97 ≤ lowN c ∧ lowN c ≤ 102
          · have hr : R = .range := HRG.out (by unfold hvN; rw [if_neg hdig, if_pos ⟨hl.1, by omega⟩]; omega)
            subst hr
            clear HS HRR HRG
            have h95 := not95 (c := c) (by omega)
            generalize lowN c = x at *
            obtain ⟨hl0, hl1⟩ := hl
            go_wp2_with (go_at_call 137; refine (Any.internal_strconv_lower Tryz.lays321 _ _).mono ?_; rintro e w' ⟨rfl, hw⟩; subst w')
            all_goals go_ret2
            all_goals exact ⟨rfl, rfl⟩
          · have hr : R = noNum := by
              obtain ⟨acc, h1, h2⟩ := HS.out
              rw [HRR.out, h2, if_pos]
              unfold hvN
              rw [if_neg hdig]
              split <;> omega
            subst hr
            clear HS HRR HRG
            by_cases hl2 : 97 ≤ lowN c ∧ lowN c ≤ 122
            · have h95 := not95 (c := c) (by omega)
              have hl3 : 103 ≤ lowN c := by omega
              generalize lowN c = x at *
              obtain ⟨hl0, hl1⟩ := hl2
              go_wp2_with (go_at_call 137; refine (Any.internal_strconv_lower Tryz.lays321 _ _).mono ?_; rintro e w' ⟨rfl, hw⟩; subst w')
              all_goals go_ret2
              all_goals exact ⟨rfl, rfl⟩
            · have hl4 : (lowN c : Int) < 97 ∨ (122 : Int) < lowN c := by omega
              by_cases hq : c.toNat = 95
              · have h95 : ((c.toNat : Int) == 95) = true := by rw [hq]; rfl
                have hx7 : lowN c = 127 := by unfold lowN; rw [hq]; rfl
                rw [hx7] at hlow
                clear hl hl2 hl4 hx hx7 hq
                go_wp2_with (go_at_call 137; refine (Any.internal_strconv_lower Tryz.lays321 _ _).mono ?_; rintro e w' ⟨rfl, hw⟩; subst w')
                all_goals go_ret2
                all_goals exact ⟨rfl, rfl⟩
              · have h95 : ((c.toNat : Int) == 95) = false := by rw [beq_eq_false_iff_ne]; omega
                generalize lowN c = x at *
                clear hl hl2 hq
                rcases hl4 with hl4 | hl4
                · go_wp2_with (go_at_call 137; refine (Any.internal_strconv_lower Tryz.lays321 _ _).mono ?_; rintro e w' ⟨rfl, hw⟩; subst w')
                  all_goals go_ret2
                  all_goals exact ⟨rfl, rfl⟩
                · go_wp2_with (go_at_call 137; refine (Any.internal_strconv_lower Tryz.lays321 _ _).mono ?_; rintro e w' ⟨rfl, hw⟩; subst w')
                  all_goals go_ret2
                  all_goals exact ⟨rfl, rfl⟩
      · have HST : Hid (¬ 16 ≤ hvN c → ∃ acc : Nat, a = (acc : Int) ∧ parse16 0 bs = parse16 (acc * 16 + hvN c) (bs.drop (k + 1))) := by
          obtain ⟨acc, h1, h2⟩ := HS.out
          intro h
          exact ⟨acc, h1, by rw [h2, if_neg h, if_neg (by omega)]⟩
        by_cases hdig : 48 ≤ c.toNat ∧ c.toNat ≤ 57
        · have hv : hvN c = c.toNat - 48 := by unfold hvN; rw [if_pos hdig]
          have HV := Lib.hid hv
          obtain ⟨hd0, hd1⟩ := hdig
          clear HS hv
          go_wp2
          refine ⟨⟨k + 1, a * 16 + ((c.toNat : Int) - 48), rfl, (by first | rfl | (congr 1; omega)), (by first | rfl | (congr 1; omega)), by omega, by omega, by omega, ?_⟩, by simp [intOf]; omega⟩
          have hv := HV.out
          obtain ⟨acc, h1, h2⟩ := HST.out (by omega)
          exact ⟨acc * 16 + hvN c, by omega, h2⟩
        · have hlow := low_bits c
          have hx := low_lt c
          by_cases hl : 97 ≤ lowN c ∧ lowN c ≤ 102
          · have hv : hvN c = lowN c - 87 := by unfold hvN; rw [if_neg hdig, if_pos ⟨hl.1, by omega⟩]
            have HV := Lib.hid hv
            clear HS hv
            have h95 := not95 (c := c) (by omega)
            generalize lowN c = x at *
            obtain ⟨hl0, hl1⟩ := hl
            go_wp2_with (go_at_call 137; refine (Any.internal_strconv_lower Tryz.lays321 _ _).mono ?_; rintro e w' ⟨rfl, hw⟩; subst w')
            all_goals
              refine ⟨⟨k + 1, a * 16 + ((x : Int) - 97 + 10), rfl, (by first | rfl | (congr 1; omega)), (by first | rfl | (congr 1; omega)), by omega, by omega, by omega, ?_⟩, by simp [intOf]; omega⟩
              have hv := HV.out
              obtain ⟨acc, h1, h2⟩ := HST.out (by omega)
              exact ⟨acc * 16 + hvN c, by omega, h2⟩
          · have hr : R = noNum := by
              obtain ⟨acc, h1, h2⟩ := HS.out
              rw [HRR.out, h2, if_pos]
              unfold hvN
              rw [if_neg hdig]
              split <;> omega
            subst hr
            clear HS HRR HST
            by_cases hl2 : 97 ≤ lowN c ∧ lowN c ≤ 122
            · have h95 := not95 (c := c) (by omega)
              have hl3 : 103 ≤ lowN c := by omega
              generalize lowN c = x at *
              obtain ⟨hl0, hl1⟩ := hl2
              go_wp2_with (go_at_call 137; refine (Any.internal_strconv_lower Tryz.lays321 _ _).mono ?_; rintro e w' ⟨rfl, hw⟩; subst w')
              all_goals go_ret2
              all_goals exact ⟨rfl, rfl⟩
            · have hl4 : (lowN c : Int) < 97 ∨ (122 : Int) < lowN c := by omega
              by_cases hq : c.toNat = 95
              · have h95 : ((c.toNat : Int) == 95) = true := by rw [hq]; rfl
                have hx7 : lowN c = 127 := by unfold lowN; rw [hq]; rfl
                rw [hx7] at hlow
                clear hl hl2 hl4 hx hx7 hq
                go_wp2_with (go_at_call 137; refine (Any.internal_strconv_lower Tryz.lays321 _ _).mono ?_; rintro e w' ⟨rfl, hw⟩; subst w')
                all_goals go_ret2
                all_goals exact ⟨rfl, rfl⟩
              · have h95 : ((c.toNat : Int) == 95) = false := by rw [beq_eq_false_iff_ne]; omega
                generalize lowN c = x at *
                clear hl hl2 hq
                rcases hl4 with hl4 | hl4
                · go_wp2_with (go_at_call 137; refine (Any.internal_strconv_lower Tryz.lays321 _ _).mono ?_; rintro e w' ⟨rfl, hw⟩; subst w')
                  all_goals go_ret2
                  all_goals exact ⟨rfl, rfl⟩
                · go_wp2_with (go_at_call 137; refine (Any.internal_strconv_lower Tryz.lays321 _ _).mono ?_; rintro e w' ⟨rfl, hw⟩; subst w')
                  all_goals go_ret2
                  all_goals exact ⟨rfl, rfl⟩
    · have hr : ∃ acc : Nat, a = (acc : Int) ∧ R = .ok acc := by
        obtain ⟨acc, h1, h2⟩ := HH.out
        refine ⟨acc, h1, ?_⟩
        rw [HRR.out, h2, List.drop_eq_nil_of_le (by omega)]
        rfl
      obtain ⟨acc, rfl, rfl⟩ := hr
      clear HH HRR
      go_wp2
      go_ret2
      exact ⟨rfl, rfl⟩
end Go.Proofs.YtlnobfmbnnfbdaaGreatDoor
