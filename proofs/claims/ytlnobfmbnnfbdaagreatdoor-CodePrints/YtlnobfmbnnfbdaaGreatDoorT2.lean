import Derived.Test.YtlnobfmbnnfbdaaGreatDoorT1
import Derived.Lib.ItoaWalk
namespace Go.Proofs.YtlnobfmbnnfbdaaGreatDoor
open Go.ChangeShapes Go.WideShapes Go.ChangeAt Go.RowKit Num

theorem hexN_length : ∀ (k b : Nat), (hexN k b).length = k
  | 0, _ => rfl
  | k + 1, b => by rw [hexN, List.length_append, hexN_length k]; rfl

set_option maxHeartbeats 4000000 in
set_option maxRecDepth 100000 in
theorem refWide_any (n : Nat) (w : World) (hn : n < 18446744073709551616) : Calls Tryz.prog 66 #[.int .u64 n] w fun e w' => e = .returned (.string ⟨(120 :: hexN 16 n).toArray⟩) ∧ w' = w := by
  have HN := Lib.hid hn
  clear hn
  obtain ⟨z, hz⟩ : ∃ z : Int, z = n := ⟨_, rfl⟩
  rw [← hz]
  have HZ := Lib.hid hz
  clear hz
  go_enter Tryz.func66, Tryz.ntmps66
  go_wp2
  go_loop [0, 3, 4] (fun vn vs vi => ∃ (a : Int) (s : ByteArray) (i : Int), vn = .int .u64 a ∧ vs = .string s ∧ vi = .int .i64 i ∧ 0 ≤ a ∧ a < 18446744073709551616 ∧ 0 ≤ i ∧ i ≤ 16 ∧ s.size ≤ 16 ∧ Hid (∃ k c : Nat, i = k ∧ a = c ∧ hexN 16 n = hexN (16 - k) c ++ s.data.toList)) (fun _ _ vi => (16 - intOf vi).toNat)
  case atStart => exact ⟨z, ⟨#[]⟩, 0, rfl, rfl, rfl, by have := HZ.out; omega, by have := HZ.out; have := HN.out; omega, by omega, by omega, by decide, 0, n, rfl, HZ.out, by simp⟩
  case round =>
    obtain ⟨a, s, i, rfl, rfl, rfl, h0, h1, h2, h3, h16, hs⟩ := hrel
    by_cases h9 : i < 16
    · have hsl := d16_slice (a % 16) w (by omega) (by omega)
      unfold d16 at hsl
      have hstep : ∃ k c : Nat, i + 1 = k ∧ a / 16 = c ∧ hexN 16 n = hexN (16 - k) c ++ ((⟨#[hexD (a % 16).toNat]⟩ : ByteArray) ++ s).data.toList := by
        obtain ⟨k, c, rfl, rfl, hk⟩ := hs.out
        refine ⟨k + 1, c / 16, by omega, by omega, ?_⟩
        rw [hk, show 16 - k = (16 - (k + 1)) + 1 by omega, hexN, cons_bytes, List.append_assoc]
        rw [show ((c : Int) % 16).toNat = c % 16 by omega]
        rfl
      have HS := Lib.hid hstep
      have hsz : ((⟨#[hexD (a % 16).toNat]⟩ : ByteArray) ++ s).size ≤ 16 := by
        obtain ⟨k, c, -, -, hk⟩ := hstep
        have hl := congrArg List.length hk
        rw [List.length_append, hexN_length] at hl
        rw [size_list]
        omega
      have HSZ := Lib.hid hsz
      clear hsz hstep
      go_wp2
      exact ⟨⟨a / 16, ⟨#[hexD (a % 16).toNat]⟩ ++ s, i + 1, rfl, rfl, rfl, by omega, by omega, by omega, by omega, HSZ.out, HS⟩, by simp [intOf]; omega⟩
    · go_wp2
      go_ret
      refine ⟨?_, rfl⟩
      obtain ⟨k, c, rfl, rfl, hk⟩ := hs.out
      have e : (⟨#[120]⟩ : ByteArray) ++ s = ⟨(120 :: hexN 16 n).toArray⟩ := by
        apply bytes_eq
        rw [cons_bytes, hk, show 16 - k = 0 by omega]
        rfl
      rw [← e]; rfl

/-! what a digit is worth -/
def dvN (c : UInt8) : Nat := if 48 ≤ c.toNat ∧ c.toNat ≤ 57 then c.toNat - 48 else if 97 ≤ c.toNat ∧ c.toNat ≤ 102 then c.toNat - 87 else 16
theorem hexD_dv_fin : ∀ c : Fin 256, ∀ j : Fin 16, (((hexD j.val).toNat = c.val) ↔ j.val = dvN (UInt8.ofNat c.val)) := by decide +kernel
theorem hexD_dv (c : UInt8) (j : Nat) (h : j < 16) : (((hexD j).toNat = c.toNat) ↔ j = dvN c) := by
  have := hexD_dv_fin ⟨c.toNat, c.toNat_lt⟩ ⟨j, h⟩
  simpa using this
theorem dvN_hexD {j : Nat} (h : j < 16) : dvN (hexD j) = j := ((hexD_dv (hexD j) j h).1 rfl).symm
def dv (base : Nat) (c : UInt8) : Int := if dvN c < base then dvN c else -1
theorem d16_index (k : Int) (w : World) (h0 : 0 ≤ k) (h1 : k < 16) : (Instr.index 9 (.string d16) (.int .i64 k)).run Tryz.prog w = .ok (.int .u8 (hexD k.toNat).toNat) w := by
  have hs : d16.size = 16 := rfl
  rw [run_index_string w 9 d16 .i64 k Tryz.underlying9, dif_pos ⟨h0, by omega⟩]
  have e : ∀ j : Fin 16, d16.data.toList.getD j.val 0 = hexD j.val := by decide +kernel
  rw [Lib.getD_at d16 k.toNat (by omega), e ⟨k.toNat, by omega⟩]

set_option maxHeartbeats 4000000 in
set_option maxRecDepth 100000 in
theorem refWorth_any (c : UInt8) (base : Nat) (w : World) (hb : base ≤ 16) : Calls Tryz.prog 102 #[.int .u8 c.toNat, .int .i64 base] w fun e w' => e = .returned (.int .i64 (dv base c)) ∧ w' = w := by
  have hc : c.toNat < 256 := c.toNat_lt
  have HV : Hid (∀ j : Nat, j < 16 → (((hexD j).toNat = c.toNat) ↔ j = dvN c)) := hexD_dv c
  obtain ⟨v, hv⟩ : ∃ v, v = dvN c := ⟨_, rfl⟩
  have HD : Hid (dv base c = if dvN c < base then (dvN c : Int) else -1) := rfl
  generalize dv base c = r at HD ⊢
  rw [← hv] at HV HD
  clear hv
  go_enter Tryz.func102, Tryz.ntmps102
  go_wp2
  go_loop [5] (fun vi => ∃ (i : Int), vi = .int .i64 i ∧ 0 ≤ i ∧ i ≤ base ∧ i ≤ v) (fun vi => (base - intOf vi).toNat)
  case atStart => exact ⟨0, rfl, by omega, by omega, by omega⟩
  case round =>
    obtain ⟨i, rfl, h0, h1, h2⟩ := hrel
    by_cases h9 : i < base
    · have hsl := d16_index i w (by omega) (by omega)
      unfold d16 at hsl
      have hq := HV.out i.toNat (by omega)
      by_cases hm : i.toNat = v
      · have hq' : ((hexD i.toNat).toNat : Int) = c.toNat := by rw [hq.2 hm]
        rw [hq'] at hsl
        clear hq hq'
        go_wp2
        go_ret
        have := HD.out
        rw [if_pos (by omega), ← hm, show ((i.toNat : Nat) : Int) = i by omega] at this
        subst this
        exact ⟨rfl, rfl⟩
      · have hq' : (((hexD i.toNat).toNat : Int) == (c.toNat : Int)) = false := by
          rw [beq_eq_false_iff_ne]
          intro h
          exact hm (hq.1 (by omega))
        generalize ((hexD i.toNat).toNat : Int) = x at hsl hq'
        clear hq
        go_wp2
        exact ⟨⟨i + 1, rfl, by omega, by omega, by omega⟩, by simp [intOf]; omega⟩
    · go_wp2
      go_ret
      have := HD.out
      rw [if_neg (by omega)] at this
      subst this
      exact ⟨rfl, rfl⟩
end Go.Proofs.YtlnobfmbnnfbdaaGreatDoor
