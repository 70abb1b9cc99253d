/- stage 19 (asm): live -/
import Derived.Test.YtaliehikdidiaaaDoorN7
namespace Go.Proofs.YtaliehikdidiaaaDoor.As
open Go.ChangeShapes Go.WideShapes Go.ChangeAt Go.RowKit Num Go.Maps
attribute [local go_sem] run_store_float frombits_run bits_run

def lv1 : Bs := (new 1).lab
def lv2 : Bs := lv1.mark 0
def lv3 : Bs := lv2.add ⟨15, 0, 0⟩ none
def lv4 : Bs := lv3.add ⟨11, 0, 0⟩ (some 0)
theorem lv_ans : lv4.ans = 0 := by decide +kernel
theorem lv_code : codC (lv4.filled.map fixI) = [.int .i64 15, .int .i64 0, .float .f64 0, .int .i64 11, .int .i64 0, .float .f64 0] := by kernel_rfl
/-- a builder on the way, all of it new -/
def On (w u : World) (b : Nat) (s : Bs) : Prop := ∃ F, Bld u b F s ∧ Abv w.heap.size F ∧ Below w.heap.size w u
section
variable {w u u' : World} {b : Nat} {s s' : Bs}
theorem on_turn {F F' : List Nat} (a : Abv w.heap.size F) (k : Below w.heap.size w u) (h' : Bld u' b F' s') (t : Turn F F' u u') : On w u' b s' := ⟨F', h', a.turn k.size t, k.trans (t.below a k.size)⟩
theorem On.label (h : On w u b s) : Calls Tryd.prog 44 #[.pointer (some ⟨b, 0, none⟩)] u fun e w' => e = .returned (.int .i64 s.labV) ∧ Hid (On w w' b s.lab) := by
  obtain ⟨F, h1, h2, h3⟩ := h
  refine (label_any h1).mono ?_
  rintro e w' ⟨F', rfl, q, t⟩
  exact ⟨rfl, on_turn h2 h3 q t⟩
theorem On.mark (h : On w u b s) {l : Int} (hw : Wf l) (hn : s.marks.length < maxLen) : Calls Tryd.prog 42 #[.pointer (some ⟨b, 0, none⟩), .int .i64 l] u fun e w' => e = .returned (.tuple #[]) ∧ Hid (On w w' b (s.mark l)) := by
  obtain ⟨F, h1, h2, h3⟩ := h
  refine (mark_any h1 hw hn).mono ?_
  rintro e w' ⟨F', rfl, q, t⟩
  exact ⟨rfl, on_turn h2 h3 q t⟩
theorem On.add (h : On w u b s) (op n : Int) (hl : s.code.length < lim) : Calls Tryd.prog 40 #[.pointer (some ⟨b, 0, none⟩), .int .i64 op, .int .i64 n] u fun e w' => e = .returned (.tuple #[]) ∧ Hid (On w w' b (s.add ⟨op, n, 0⟩ none)) := by
  obtain ⟨F, h1, h2, h3⟩ := h
  refine (add_any h1 op n hl).mono ?_
  rintro e w' ⟨F', rfl, q, t⟩
  exact ⟨rfl, on_turn h2 h3 q t⟩
theorem On.push (h : On w u b s) (x : Nat) (hl : s.code.length < lim) : Calls Tryd.prog 36 #[.pointer (some ⟨b, 0, none⟩), .float .f64 x] u fun e w' => e = .returned (.tuple #[]) ∧ Hid (On w w' b (s.add ⟨1, 0, x⟩ none)) := by
  obtain ⟨F, h1, h2, h3⟩ := h
  refine (push_any h1 x hl).mono ?_
  rintro e w' ⟨F', rfl, q, t⟩
  exact ⟨rfl, on_turn h2 h3 q t⟩
theorem On.to (h : On w u b s) (op l : Int) (hw : Wf l) (hl : s.code.length < lim) : Calls Tryd.prog 38 #[.pointer (some ⟨b, 0, none⟩), .int .i64 op, .int .i64 l] u fun e w' => e = .returned (.tuple #[]) ∧ Hid (On w w' b (s.add ⟨op, 0, 0⟩ (some l))) := by
  obtain ⟨F, h1, h2, h3⟩ := h
  refine (to_any h1 op l hw hl).mono ?_
  rintro e w' ⟨F', rfl, q, t⟩
  exact ⟨rfl, on_turn h2 h3 q t⟩
theorem On.on (h : On w u b s) (k : Below u.heap.size u u') : On w u' b s := by
  obtain ⟨F, h1, h2, h3⟩ := h
  exact ⟨F, h1.on k, h2, h3.trans (k.mono h3.size)⟩
theorem new_on (w u : World) (k : Below w.heap.size w u) (t : Int) : Calls Tryd.prog 43 #[.int .i64 t] u fun e w' => ∃ b, e = .returned (.pointer (some ⟨b, 0, none⟩)) ∧ Hid (On w w' b (new t)) := by
  refine (new_any t u).mono ?_
  rintro e w' ⟨b, F, rfl, h1, h2, h3⟩
  exact ⟨b, rfl, F, h1, h2.mono k.size, k.trans (h3.mono k.size)⟩
/-- Program, of a builder on the way -/
theorem On.prog (h : On w u b s) (hT : Shaped5 w) (hl : s.code.length < lim) (hwf : ∀ l, hasM s.marks l = true → Wf l) : Calls Tryd.prog 45 #[.pointer (some ⟨b, 0, none⟩)] u fun e w' => ∃ t p n c, e = .returned (.tuple #[.agg #[.int .i64 t, .slice p n c], .int .i64 s.ans]) ∧ Hid (PrE u w' s t p n c ∧ On w w' b s) := by
  have h0 := h
  obtain ⟨F, h1, h2, h3⟩ := h
  refine (prog_any h1 (hT.on h3) hl hwf).mono ?_
  rintro e w' ⟨t, p, n, c, rfl, q⟩
  exact ⟨t, p, n, c, rfl, q.out, h0.on q.out.1⟩
theorem On.len (h : On w u b s) : Calls Tryd.prog 48 #[.pointer (some ⟨b, 0, none⟩)] u fun e w' => e = .returned (.int .i64 s.code.length) ∧ w' = u := by
  obtain ⟨F, h1, _⟩ := h
  exact len_any h1
end
end Go.Proofs.YtaliehikdidiaaaDoor.As
