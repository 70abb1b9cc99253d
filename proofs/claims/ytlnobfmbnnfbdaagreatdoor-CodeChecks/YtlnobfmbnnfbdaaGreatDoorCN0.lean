import Derived.Test.YtlnobfmbnnfbdaaGreatDoorCA
import Derived.Deep.MidRow
namespace Go.Proofs.YtlnobfmbnnfbdaaGreatDoor
open Go.ChangeShapes Go.WideShapes Go.ChangeAt Go.RowKit Num
attribute [local go_sem] run_store_float

/-! the tables, read whole -/
theorem flat_at {α : Type} (f : α → List Value) (s : Nat) (hf : ∀ a, (f a).length = s) : ∀ (n : Nat) (l : List α) (m : α), l[n]? = some m → ∀ j, j < s → (l.flatMap f)[n * s + j]? = (f m)[j]?
  | 0, l, m, hm, j, hj => by
    cases l with
    | nil => simp at hm
    | cons a t =>
      simp at hm
      subst hm
      rw [List.flatMap_cons, Nat.zero_mul, Nat.zero_add, List.getElem?_append_left (by rw [hf]; exact hj)]
  | n + 1, l, m, hm, j, hj => by
    cases l with
    | nil => simp at hm
    | cons a t =>
      rw [List.flatMap_cons, List.getElem?_append_right (by rw [hf, Nat.add_mul]; omega)]
      have e : (n + 1) * s + j - (f a).length = n * s + j := by rw [hf, Nat.add_mul]; omega
      rw [e]
      exact flat_at f s hf n t m (by simpa using hm) j hj
def shpC (k : Nat) : List Value := [strB (shp k).word, .int .i64 (shp k).kind, .int .i64 (shp k).lo, .int .i64 (shp k).hi, .int .i64 (shp k).takes, .int .i64 (shp k).lays]
def shpA : List Value := (List.range 21).flatMap shpC
def oneA : List Value := oneT.map strB
def twoA : List Value := twoT.map strB
theorem shpA_range {w : World} (h : Shaped5 w) : w.rangeAt 0 0 shpA := by
  intro j v hj
  have hl : j < 126 := by
    have h1 := (List.getElem?_eq_some_iff.1 hj).1
    have h2 : shpA.length = 126 := by decide +kernel
    omega
  have hk : j / 6 < 21 := by omega
  have hd : j = j / 6 * 6 + j % 6 := by omega
  have hr : j % 6 < 6 := Nat.mod_lt _ (by decide)
  have e := flat_at shpC 6 (fun _ => rfl) (j / 6) (List.range 21) (j / 6) (by simp [hk]) (j % 6) hr
  rw [← hd] at e
  rw [show shpA = (List.range 21).flatMap shpC from rfl, e] at hj
  rw [Nat.zero_add, hd]
  obtain ⟨c0, c1, c2, c3, c4, c5⟩ := h.shp (j / 6) hk
  generalize j % 6 = r at *
  generalize j / 6 = k at *
  match r, hr with
  | 0, _ => rw [← hj]; exact c0
  | 1, _ => rw [← hj]; exact c1
  | 2, _ => rw [← hj]; exact c2
  | 3, _ => rw [← hj]; exact c3
  | 4, _ => rw [← hj]; exact c4
  | 5, _ => rw [← hj]; exact c5
theorem oneA_range {w : World} (h : Shaped5 w) : w.rangeAt 1 0 oneA := by
  intro j v hj
  have hl : j < 9 := (List.getElem?_eq_some_iff.1 hj).1
  rw [Nat.zero_add, h.one j hl, ← hj]
  have hk' : j < oneT.length := hl
  unfold oneA oneW
  rw [List.getElem?_map, List.getD_eq_getElem?_getD, List.getElem?_eq_getElem hk']
  rfl
theorem twoA_range {w : World} (h : Shaped5 w) : w.rangeAt 2 0 twoA := by
  intro j v hj
  have hl : j < 13 := (List.getElem?_eq_some_iff.1 hj).1
  rw [Nat.zero_add, h.two j hl, ← hj]
  have hk' : j < twoT.length := hl
  unfold twoA twoW
  rw [List.getElem?_map, List.getD_eq_getElem?_getD, List.getElem?_eq_getElem hk']
  rfl
set_option maxRecDepth 100000 in
theorem shpA_index (w : World) : ∀ k, k < 21 → (Instr.index 49 (.agg shpA.toArray) (.int .i64 (k : Nat))).run Tryz.prog w = .ok (.agg (shpC k).toArray) w
  | 0, _ => by kernel_rfl
  | 1, _ => by kernel_rfl
  | 2, _ => by kernel_rfl
  | 3, _ => by kernel_rfl
  | 4, _ => by kernel_rfl
  | 5, _ => by kernel_rfl
  | 6, _ => by kernel_rfl
  | 7, _ => by kernel_rfl
  | 8, _ => by kernel_rfl
  | 9, _ => by kernel_rfl
  | 10, _ => by kernel_rfl
  | 11, _ => by kernel_rfl
  | 12, _ => by kernel_rfl
  | 13, _ => by kernel_rfl
  | 14, _ => by kernel_rfl
  | 15, _ => by kernel_rfl
  | 16, _ => by kernel_rfl
  | 17, _ => by kernel_rfl
  | 18, _ => by kernel_rfl
  | 19, _ => by kernel_rfl
  | 20, _ => by kernel_rfl
  | n + 21, h => absurd h (by omega)
set_option maxRecDepth 100000 in
theorem oneA_index (w : World) : ∀ k, k < 9 → (Instr.index 76 (.agg oneA.toArray) (.int .i64 (k : Nat))).run Tryz.prog w = .ok (strB (oneW k)) w
  | 0, _ => by kernel_rfl
  | 1, _ => by kernel_rfl
  | 2, _ => by kernel_rfl
  | 3, _ => by kernel_rfl
  | 4, _ => by kernel_rfl
  | 5, _ => by kernel_rfl
  | 6, _ => by kernel_rfl
  | 7, _ => by kernel_rfl
  | 8, _ => by kernel_rfl
  | n + 9, h => absurd h (by omega)
set_option maxRecDepth 100000 in
theorem twoA_index (w : World) : ∀ k, k < 13 → (Instr.index 77 (.agg twoA.toArray) (.int .i64 (k : Nat))).run Tryz.prog w = .ok (strB (twoW k)) w
  | 0, _ => by kernel_rfl
  | 1, _ => by kernel_rfl
  | 2, _ => by kernel_rfl
  | 3, _ => by kernel_rfl
  | 4, _ => by kernel_rfl
  | 5, _ => by kernel_rfl
  | 6, _ => by kernel_rfl
  | 7, _ => by kernel_rfl
  | 8, _ => by kernel_rfl
  | 9, _ => by kernel_rfl
  | 10, _ => by kernel_rfl
  | 11, _ => by kernel_rfl
  | 12, _ => by kernel_rfl
  | n + 13, h => absurd h (by omega)
end Go.Proofs.YtlnobfmbnnfbdaaGreatDoor
