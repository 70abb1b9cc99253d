import Derived.Test.YtlnobfmbnnfbdaaGreatDoorWalkB
import Derived.Lib.ItoaNum
import Derived.Lib.ItoaLen
import Derived.Lib.Hide
import Derived.Below
namespace Go.Proofs.YtlnobfmbnnfbdaaGreatDoor
open Go.ChangeShapes Go.WideShapes Go.ChangeAt Go.RowKit Num

theorem bytes_eq {s t : ByteArray} (h : s.data.toList = t.data.toList) : s = t := ByteArray.ext (Array.ext' h)
theorem size_list (s : ByteArray) : s.size = s.data.toList.length := by rw [Array.length_toList]; rfl
theorem cons_bytes (d : UInt8) (s : ByteArray) : ((⟨#[d]⟩ : ByteArray) ++ s).data.toList = d :: s.data.toList := by
  simp

/-! digits -/
def hexD (n : Nat) : UInt8 := if n < 10 then UInt8.ofNat (48 + n) else UInt8.ofNat (87 + n)
def hexN : Nat → Nat → List UInt8
  | 0, _ => []
  | k + 1, b => hexN k (b / 16) ++ [hexD (b % 16)]
def d16 : ByteArray := { data := #[48, 49, 50, 51, 52, 53, 54, 55, 56, 57, 97, 98, 99, 100, 101, 102] }
theorem d16_at : ∀ i : Fin 16, (d16.extract i.val (i.val + 1)).data.toList = [hexD i.val] := by decide +kernel
theorem hexD_dec {n : Nat} (h : n < 10) : hexD n = UInt8.ofNat (48 + n) := by unfold hexD; rw [if_pos h]
theorem d16_piece (k : Int) (h0 : 0 ≤ k) (h1 : k < 16) : d16.extract k.toNat (k + 1).toNat = ⟨#[hexD k.toNat]⟩ := by
  have e := d16_at ⟨k.toNat, by omega⟩
  rw [show (k + 1).toNat = k.toNat + 1 by omega]
  apply ByteArray.ext
  apply Array.ext'
  exact e
theorem d16_slice (k : Int) (w : World) (h0 : 0 ≤ k) (h1 : k < 16) : (Instr.slice 9 (.string d16) (some (.int .i64 k)) (some (.int .i64 (k + 1))) none).run Tryz.prog w = .ok (.string ⟨#[hexD k.toNat]⟩) w := by
  rw [run_slice_string w 9 d16 .i64 .i64 k (k + 1) Tryz.underlying9 h0 (by omega) (by have : d16.size = 16 := rfl; omega), d16_piece k h0 h1]
theorem dec_step {k : Nat} (h : 9 < k) : Lib.decDigits k = Lib.decDigits (k / 10) ++ [hexD (k % 10)] := by
  rw [Lib.decDigits, dif_neg (by omega), hexD_dec (by omega)]

set_option maxHeartbeats 4000000 in
set_option maxRecDepth 100000 in
theorem refDecimal_any (n : Nat) (w : World) (hn : n < 9223372036854775808) : Calls Tryz.prog 65 #[.int .i64 n] w fun e w' => e = .returned (.string ⟨(Lib.decDigits n).toArray⟩) ∧ w' = w := by
  have HN := Lib.hid hn
  clear hn
  obtain ⟨z, hz⟩ : ∃ z : Int, z = n := ⟨_, rfl⟩
  rw [← hz]
  have HZ := Lib.hid hz
  clear hz
  go_enter Tryz.func65, Tryz.ntmps65
  go_wp2
  go_loop [0, 3] (fun vn vs => ∃ (a : Int) (s : ByteArray), vn = .int .i64 a ∧ vs = .string s ∧ 0 ≤ a ∧ a < 9223372036854775808 ∧ s.size ≤ 20 ∧ Hid (∃ k : Nat, a = k ∧ Lib.decDigits n = Lib.decDigits k ++ s.data.toList)) (fun vn _ => (intOf vn).toNat)
  case atStart => exact ⟨z, ⟨#[]⟩, rfl, rfl, by have := HZ.out; omega, by have := HZ.out; have := HN.out; omega, by decide, n, HZ.out, by simp⟩
  case round =>
    obtain ⟨a, s, rfl, rfl, h0, h1, h20, hs⟩ := hrel
    by_cases h9 : 9 < a
    · have hsl := d16_slice (a % 10) w (by omega) (by omega)
      unfold d16 at hsl
      go_wp2
      have hstep : ∃ k : Nat, a / 10 = k ∧ Lib.decDigits n = Lib.decDigits k ++ ((⟨#[hexD (a % 10).toNat]⟩ : ByteArray) ++ s).data.toList := by
        obtain ⟨k, rfl, hk⟩ := hs.out
        refine ⟨k / 10, by omega, ?_⟩
        rw [hk, dec_step (by omega), cons_bytes, List.append_assoc]
        rw [show ((k : Int) % 10).toNat = k % 10 by omega]
        rfl
      have HS := Lib.hid hstep
      refine ⟨⟨a / 10, ⟨#[hexD (a % 10).toNat]⟩ ++ s, rfl, rfl, by omega, by omega, ?_, HS⟩, by simp [intOf]; omega⟩
      obtain ⟨k, -, hk⟩ := hstep
      have hl := congrArg List.length hk
      rw [List.length_append, Lib.decDigits_length] at hl
      have h20' := Lib.nDigits_le20 n (by have := HN.out; omega)
      rw [size_list]
      omega
    · have hsl := d16_slice a w (by omega) (by omega)
      unfold d16 at hsl
      go_wp2
      go_ret
      refine ⟨?_, rfl⟩
      obtain ⟨k, rfl, hk⟩ := hs.out
      have hk10 : k < 10 := by omega
      have e : (⟨#[hexD ((k : Int)).toNat]⟩ : ByteArray) ++ s = ⟨(Lib.decDigits n).toArray⟩ := by
        apply bytes_eq
        rw [cons_bytes, hk, Lib.decDigits, dif_pos hk10, hexD_dec (by omega)]
        rfl
      rw [← e]; rfl
end Go.Proofs.YtlnobfmbnnfbdaaGreatDoor
