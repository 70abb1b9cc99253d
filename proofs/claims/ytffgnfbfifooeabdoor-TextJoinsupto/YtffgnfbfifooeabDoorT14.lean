import Derived.Test.YtffgnfbfifooeabDoorT13
import Derived.Maps.AppendAt
import Derived.Lib.OthersKept
import Derived.Laws.RangeAny
namespace Go.Proofs.YtffgnfbfifooeabDoor
open Go.ChangeShapes Go.WideShapes Go.ChangeAt Go.RowKit Num

def strV (l : List UInt8) : Value := .string ⟨l.toArray⟩
/-- a list of texts of one's own -/
def Lst (B : Nat) (w : World) (v : Value) (ls : List (List UInt8)) : Prop := w.ownsRow B 9 1 v ls.length (ls.map strV)
theorem grown_of_below {w w' : World} (h : Below w.heap.size w w') (row : Option Nat) : w.grownBy w' row := ⟨h.os, h.tape, h.output, h.size, fun k hk _ => h.block k hk⟩
theorem Lst.on {B : Nat} {w w' : World} {v : Value} {ls : List (List UInt8)} (h : Lst B w v ls) (hb : Below w.heap.size w w') : Lst B w' v ls :=
  World.ownsRow.kept h (grown_of_below hb none) (by cases hv : v.ownBlock <;> simp)
theorem grown_trans2 {a b c : World} {row : Option Nat} (h : a.grownBy b row) (g : b.grownBy c row) : a.grownBy c row :=
  ⟨g.os.trans h.os, g.tape.trans h.tape, g.output.trans h.output, Nat.le_trans h.size g.size, fun k hk hr => (g.block k (Nat.lt_of_lt_of_le hk h.size) hr).trans (h.block k hk hr)⟩
theorem strInfo : (Tryd.prog.info? 9).map (fun i => (i.zero, i.size, i.bytes)) = some (some (.string ByteArray.empty), 1, 16) := by kernel_rfl
theorem mk_list (s : ByteArray) : (⟨s.data.toList.toArray⟩ : ByteArray) = s := bytes_eq rfl

theorem own_any (s : ByteArray) (w : World) : Calls Tryd.prog 20 #[.string s] w fun e w' => e = .returned (.string s) ∧ Below w.heap.size w w' := by
  have hcv := Lib.run_convert_string_bytes (P := Tryd.prog) w 9 49 5 s (u := .string) Tryd.underlying9 Tryd.underlying49 Tryd.underlying5
  have hB : ∀ j, j < s.size → (Lib.bytesWorld w 5 s).cell? ⟨w.heap.size, j, none⟩ = some (.int .u8 (s.data.toList.getD j 0).toNat) := fun j hj => Lib.bytesWorld_cell w 5 s j hj
  have HW : Hid (Below w.heap.size w (Lib.bytesWorld w 5 s)) := Lib.bytesWorld_below w 5 s
  generalize Lib.bytesWorld w 5 s = W1 at *
  have hbk := run_convert_bytes_back (P := Tryd.prog) W1 49 9 5 ⟨w.heap.size, 0, none⟩ (grownCap w s.size 0 5) s.data.toList Tryd.underlying49 Tryd.underlying5 Tryd.underlying9 (fun j hj => by
    rw [Lib.add_plain, Nat.zero_add, hB j (by rw [size_list]; exact hj)]
    simp [List.getD, List.getElem?_eq_getElem hj])
  rw [← size_list, mk_list] at hbk
  clear hB
  go_enter Tryd.func20, Tryd.ntmps20
  go_wp2
  go_ret
  exact ⟨rfl, HW.out⟩

def pushW (acc : List (List UInt8)) (cur : List UInt8) : List (List UInt8) := if cur = [] then acc else acc ++ [cur]
set_option maxHeartbeats 4000000 in
set_option maxRecDepth 100000 in
theorem addWord_any (B : Nat) (v : Value) (acc : List (List UInt8)) (s : ByteArray) (w : World) (hB : B ≤ w.heap.size) (hL : Lst B w v acc) (hn : acc.length < 8796093022207) :
    Calls Tryd.prog 31 #[v, .string s] w fun e w' => ∃ v', e = .returned v' ∧ Lst B w' v' (pushW acc s.data.toList) ∧ w.grownBy w' v.ownBlock := by
  by_cases h0 : s.size = 0
  · have es : s = ⟨#[]⟩ := bytes_eq (List.eq_nil_of_length_eq_zero (by rw [← size_list]; exact h0))
    subst es
    have HL := Lib.hid hL
    clear h0 hL hB hn
    go_enter Tryd.func31, Tryd.ntmps31
    go_wp2
    go_ret
    exact ⟨_, rfl, HL.out, ⟨rfl, rfl, rfl, Nat.le_refl _, fun _ _ _ => rfl⟩⟩
  · have hemp : s.toList.isEmpty = false := by
      rw [← decide_eq_emptyBytes]
      exact decide_eq_false (fun h => h0 (by rw [h]; rfl))
    have hp : pushW acc s.data.toList = acc ++ [s.data.toList] := by unfold pushW; rw [if_neg (fun q => h0 (by rw [size_list, q]; rfl))]
    obtain ⟨i0, hi, hz0, hz1, hz2⟩ := info_parts strInfo
    rw [hp]
    have HL := Lib.hid hL
    clear hp h0 hL
    go_enter Tryd.func31, Tryd.ntmps31
    go_wp2_with (first
      | (go_at_call 20; refine (own_any _ _).mono ?_; rintro e w1 ⟨rfl, hw⟩)
      | (at_builtin; refine wpList_append_own _ rfl _ _ 24 rfl B 9 i0 (.string ByteArray.empty) 1 16 Tryd.underlying24 hi hz0 hz1 hz2 rfl (by decide) _ _ _ rfl (World.ownsRow.alloc (HL.out.on hw) _) ⟨w1.heap.size, 0, none⟩ 1 1 [.string s] rfl rfl (cell_one_new _ _ _) (fun x hx => by simp at hx; subst hx; rfl) (by unfold maxLen; omega) (by omega) (by have := hw.size; simp; omega) ?_; intro v' w3 hown' hgrow3 hnil3))
    go_ret
    refine ⟨v', rfl, ?_, ?_⟩
    · unfold Lst
      rw [List.map_append, List.length_append]
      have e : List.map strV [s.data.toList] = [Value.string s] := by
        show [Value.string ⟨s.data.toList.toArray⟩] = _
        rw [mk_list]
      rw [e]
      exact hown'
    · exact grown_trans2 (grown_trans2 (grown_of_below hw _) (World.grownBy_alloc _ _ _)) hgrow3

/-! a text's runes -/
theorem get_list (s : ByteArray) (k : Nat) : s.get! k = s.data.toList.getD k 0 := by
  by_cases h : k < s.size
  · have h' : k < s.data.toList.length := by rw [← size_list]; exact h
    rw [List.getD, List.getElem?_eq_getElem h']
    simp [ByteArray.get!, getElem!_pos, h]
  · have h' : ¬ k < s.data.toList.length := by rw [← size_list]; exact h
    rw [List.getD, List.getElem?_eq_none (by omega)]
    have h2 : ¬ k < s.data.size := h
    simp only [ByteArray.get!]
    rw [Array.getElem!_eq_getD, Array.getD_eq_getD_getElem?, Array.getElem?_eq_none (by omega)]
    rfl
/-- a rune of several bytes has none below 128 -/
theorem decode_wide (s : ByteArray) (i : Nat) (h : i < s.size) (ha : 128 ≤ (s.data.toList.getD i 0).toNat) :
    128 ≤ (Utf8.decode s i).1 ∧ 1 ≤ (Utf8.decode s i).2 ∧ i + (Utf8.decode s i).2 ≤ s.size ∧ ∀ j, j < (Utf8.decode s i).2 → 128 ≤ (s.data.toList.getD (i + j) 0).toNat := by
  simp only [Utf8.decode, get_list, Nat.add_zero]
  rw [if_neg (by omega)]
  repeat' split
  all_goals simp only [Bool.and_eq_true, beq_iff_eq, decide_eq_true_eq, ge_iff_le, not_and] at *
  all_goals refine ⟨?_, ?_, ?_, fun j hj => ?_⟩
  all_goals first
    | omega
    | (show 128 ≤ 65533; omega)
    | (have hj4 : j = 0 ∨ j = 1 ∨ j = 2 ∨ j = 3 := by omega
       rcases hj4 with rfl | rfl | rfl | rfl <;> first | omega | (simp only [Nat.add_zero]; omega))
end Go.Proofs.YtffgnfbfifooeabDoor
