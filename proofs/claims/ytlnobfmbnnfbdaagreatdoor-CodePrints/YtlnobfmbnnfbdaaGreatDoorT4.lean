import Derived.Test.YtlnobfmbnnfbdaaGreatDoorT3
namespace Go.Proofs.YtlnobfmbnnfbdaaGreatDoor
open Go.ChangeShapes Go.WideShapes Go.ChangeAt Go.RowKit Num

/-! hexadecimal digits without noughts ahead -/
def hexF : Nat → Nat → List UInt8
  | 0, b => [hexD b]
  | k + 1, b => if b < 16 then [hexD b] else hexF k (b / 16) ++ [hexD (b % 16)]
def hexS (b : Nat) : List UInt8 := hexF 15 b
theorem hexF_lt {b : Nat} (h : b < 16) : ∀ k, hexF k b = [hexD b]
  | 0 => rfl
  | k + 1 => by rw [hexF, if_pos h]
theorem hexF_on : ∀ (k b : Nat), b < 16 ^ (k + 1) → hexF (k + 1) b = hexF k b
  | 0, b, h => by rw [hexF_lt (by simpa using h), hexF_lt (by simpa using h)]
  | k + 1, b, h => by
    by_cases h16 : b < 16
    · rw [hexF_lt h16, hexF_lt h16]
    · have hd : b / 16 < 16 ^ (k + 1) := by
        rw [Nat.div_lt_iff_lt_mul (by decide), ← Nat.pow_succ]
        exact h
      rw [hexF, if_neg h16, hexF_on k (b / 16) hd, hexF, if_neg h16]
theorem hexS_lt {b : Nat} (h : b < 16) : hexS b = [hexD b] := hexF_lt h 15
theorem hexS_ge {b : Nat} (h : ¬ b < 16) (hb : b < 18446744073709551616) : hexS b = hexS (b / 16) ++ [hexD (b % 16)] := by
  show hexF 15 b = hexF 15 (b / 16) ++ _
  rw [hexF_on 14 (b / 16) (by omega), hexF, if_neg h]
theorem hexS_length_pos (b : Nat) : 1 ≤ (hexS b).length := by
  unfold hexS
  rw [hexF]
  split
  · exact Nat.le_refl _
  · rw [List.length_append]; simp
theorem hexN_of_hexF : ∀ (k b : Nat), b < 16 ^ (k + 1) → (hexF k b).length ≤ k + 1 ∧ hexN (k + 1) b = List.replicate (k + 1 - (hexF k b).length) 48 ++ hexF k b
  | 0, b, h => by
    have h16 : b < 16 := by simpa using h
    rw [hexF_lt h16]
    refine ⟨Nat.le_refl _, ?_⟩
    show hexN 0 (b / 16) ++ [hexD (b % 16)] = _
    rw [Nat.mod_eq_of_lt h16]
    rfl
  | k + 1, b, h => by
    have hd : b / 16 < 16 ^ (k + 1) := by
      rw [Nat.div_lt_iff_lt_mul (by decide), ← Nat.pow_succ]
      exact h
    obtain ⟨l1, e1⟩ := hexN_of_hexF k (b / 16) hd
    by_cases h16 : b < 16
    · rw [hexF_lt h16]
      refine ⟨by simp, ?_⟩
      rw [hexN, e1, show b / 16 = 0 by omega, hexF_lt (by omega : 0 < 16), Nat.mod_eq_of_lt h16]
      show List.replicate (k + 1 - 1) 48 ++ [hexD 0] ++ [hexD b] = List.replicate (k + 1 + 1 - 1) 48 ++ [hexD b]
      rw [show k + 1 + 1 - 1 = (k + 1 - 1) + 1 by omega, List.replicate_succ']
      rfl
    · rw [hexF, if_neg h16, List.length_append]
      refine ⟨by simp; omega, ?_⟩
      rw [hexN, e1, ← List.append_assoc]
      congr 3
      simp
theorem hexN_of_hexS (b : Nat) (h : b < 18446744073709551616) : (hexS b).length ≤ 16 ∧ hexN 16 b = List.replicate (16 - (hexS b).length) 48 ++ hexS b := hexN_of_hexF 15 b (by omega)

def d36 : ByteArray := { data := #[48, 49, 50, 51, 52, 53, 54, 55, 56, 57, 97, 98, 99, 100, 101, 102, 103, 104, 105, 106, 107, 108, 109, 110, 111, 112, 113, 114, 115, 116, 117, 118, 119, 120, 121, 122] }
theorem d36_index (k : Int) (w : World) (h0 : 0 ≤ k) (h1 : k < 16) : (Instr.index 9 (.string d36) (.int .u64 k)).run Tryz.prog w = .ok (.int .u8 (hexD k.toNat).toNat) w := by
  have hs : d36.size = 36 := rfl
  rw [run_index_string w 9 d36 .u64 k Tryz.underlying9, dif_pos ⟨h0, by omega⟩]
  have e : ∀ j : Fin 16, d36.data.toList.getD j.val 0 = hexD j.val := by decide +kernel
  rw [Lib.getD_at d36 k.toNat (by omega), e ⟨k.toNat, by omega⟩]
theorem and_15 (u : Int) (h0 : 0 ≤ u) (h1 : u < 18446744073709551616) : bits .and .u64 u 15 = u % 16 := by
  obtain ⟨n, rfl⟩ : ∃ n : Nat, u = n := ⟨u.toNat, by omega⟩
  refine (u64_and_nat n 15 (by omega) (by decide)).trans ?_
  have := Nat.and_two_pow_sub_one_eq_mod n 4
  rw [show (2 : Nat) ^ 4 - 1 = 15 by decide] at this
  rw [this]
  omega
set_option maxRecDepth 100000 in
theorem tz16 (w : World) (hc : w.cell? ⟨7, 15, none⟩ = some (.int .u8 4)) : Calls Tryz.prog 109 #[.int .u64 16] w fun e w' => e = .returned (.int .i64 4) ∧ w' = w := by
  have key : IntKind.u64.wrap (bits BinOp.and IntKind.u64 16 (IntKind.u64.wrap (-16)) * 285870213051353865) / 288230376151711744 = 15 := by decide +kernel
  go_enter Tryz.func109, Tryz.ntmps109
  go_wp2
  go_ret
  exact ⟨rfl, rfl⟩

/-- what the library's variables hold -/
structure Tabs (w : World) : Prop where
  pow : Lib.TabIs Tryz.prog w ((Rows.codeChecksRow.laid.map (·.1)).getD 2 default) .u64 Lib.pow10Tab
  db : w.cell? ⟨7, 15, none⟩ = some (.int .u8 4)
  syn : ∃ tp p, w.var? Tryz.prog "strconv.ErrSyntax" = some #[.iface tp p]
  rng : ∃ tp p, w.var? Tryz.prog "strconv.ErrRange" = some #[.iface tp p]
theorem cell_on {w w' : World} {a : Addr} {v : Value} (h : w.cell? a = some v) (hb : Below w.heap.size w w') : w'.cell? a = some v := by
  rw [hb.cell (World.block_lt_of_cell? w a h)]
  exact h
theorem var_on {w w' : World} {n : String} {cs : Array Value} (h : w.var? Tryz.prog n = some cs) (hb : Below w.heap.size w w') : w'.var? Tryz.prog n = some cs := by
  unfold World.var? at *
  cases hg : Tryz.prog.globalNamed n with
  | none => simp [hg] at h
  | some g =>
    simp only [hg, Option.bind_some] at h ⊢
    have hlt : g < w.heap.size := by
      rcases Nat.lt_or_ge g w.heap.size with q | q
      · exact q
      · simp [Array.getElem?_eq_none q] at h
    rw [hb.block g hlt]
    exact h
theorem Tabs.on {w w' : World} (h : Tabs w) (hb : Below w.heap.size w w') : Tabs w' := by
  obtain ⟨t1, p1, h1⟩ := h.syn
  obtain ⟨t2, p2, h2⟩ := h.rng
  exact ⟨Lib.tabBelow_of_tabIs h.pow w' hb, cell_on h.db hb, ⟨t1, p1, var_on h1 hb⟩, ⟨t2, p2, var_on h2 hb⟩⟩
theorem below_chain {a b c : World} (h : Below a.heap.size a b) (k : Below b.heap.size b c) : Below a.heap.size a c := h.trans (k.mono h.size)

theorem formatInt_any (n : Int) (h0 : -9223372036854775808 ≤ n) (h1 : n ≤ 9223372036854775807) (w : World) (hT : Tabs w) :
    Calls Tryz.prog 62 #[.int .i64 n, .int .i64 10] w fun e w' => e = .returned (.string ⟨(Lib.itoa n).toArray⟩) ∧ Below w.heap.size w w' :=
  (Any.strconv_FormatInt_10 Tryz.laysM173 n h0 h1 w hT.pow).mono fun e w' ⟨he, k, os, hw⟩ => ⟨he, by rw [hw]; exact Lib.below_grow _ w (Nat.le_refl _) k os⟩
theorem repeat_any (k : Nat) (w : World) (hk : k ≤ 16) :
    Calls Tryz.prog 81 #[.string ⟨#[48]⟩, .int .i64 k] w fun e w' => e = .returned (.string ⟨(List.replicate k 48).toArray⟩) ∧ Below w.heap.size w w' :=
  (Any.strings_Repeat Tryz.lays105 Tryz.Builder_Extra_105 ⟨#[48]⟩ k w (by omega) (by show 1 * k ≤ _; omega)).mono fun e w' ⟨he, hw⟩ => ⟨by
    rw [he]
    have e : ∀ k : Nat, Lib.repeatL [48] k = List.replicate k 48 := fun k => by
      induction k with
      | zero => rfl
      | succ k ih => rw [List.replicate_succ, ← ih]; rfl
    rw [← e], hw⟩
theorem hasPrefix_any (s p : ByteArray) (w : World) :
    Calls Tryz.prog 95 #[.string s, .string p] w fun e w' => e = .returned (.bool (Lib.hasPrefix s.data.toList p.data.toList)) ∧ w' = w :=
  Any.strings_HasPrefix Tryz.lays99 s p w
end Go.Proofs.YtlnobfmbnnfbdaaGreatDoor
