/- stage 19 (asm): live -/
import Derived.Test.YtmoafflimfhaiaaDoorN13
namespace Go.Proofs.YtmoafflimfhaiaaDoor.As
open Go.ChangeShapes Go.WideShapes Go.ChangeAt Go.RowKit Num Go.Maps
attribute [local go_sem] run_store_float frombits_run bits_run

def lv1 : Bs := (new 1).lab
def lv2 : Bs := lv1.mark 0
def lv3 : Bs := lv2.add ⟨15, 0, 0⟩ none
def lv4 : Bs := lv3.add ⟨11, 0, 0⟩ (some 0)
theorem lv_ans : lv4.ans = 0 := by decide +kernel
theorem lv_code : codC (lv4.filled.map fixI) = [.int .i64 15, .int .i64 0, .float .f64 0, .int .i64 11, .int .i64 0, .float .f64 0] := by kernel_rfl
/-- a builder on the way, all of it new -/
def On (w u : World) (b : Nat) (s : Bs) : Prop := ∃ F, Bld u b F s ∧ Abv w.heap.size F ∧ Below w.heap.size w u
section
variable {w u u' : World} {b : Nat} {s s' : Bs}
theorem on_turn {F F' : List Nat} (a : Abv w.heap.size F) (k : Below w.heap.size w u) (h' : Bld u' b F' s') (t : Turn F F' u u') : On w u' b s' := ⟨F', h', a.turn k.size t, k.trans (t.below a k.size)⟩
theorem On.label (h : On w u b s) : Calls Tryd.prog 12 #[.pointer (some ⟨b, 0, none⟩)] u fun e w' => e = .returned (.int .i64 s.labV) ∧ Hid (On w w' b s.lab) := by
  obtain ⟨F, h1, h2, h3⟩ := h
  refine (label_any h1).mono ?_
  rintro e w' ⟨F', rfl, q, t⟩
  exact ⟨rfl, on_turn h2 h3 q t⟩
theorem On.mark (h : On w u b s) {l : Int} (hw : Wf l) (hn : s.marks.length < maxLen) : Calls Tryd.prog 13 #[.pointer (some ⟨b, 0, none⟩), .int .i64 l] u fun e w' => e = .returned (.tuple #[]) ∧ Hid (On w w' b (s.mark l)) := by
  obtain ⟨F, h1, h2, h3⟩ := h
  refine (mark_any h1 hw hn).mono ?_
  rintro e w' ⟨F', rfl, q, t⟩
  exact ⟨rfl, on_turn h2 h3 q t⟩
theorem On.add (h : On w u b s) (op n : Int) (hl : s.code.length < lim) : Calls Tryd.prog 16 #[.pointer (some ⟨b, 0, none⟩), .int .i64 op, .int .i64 n] u fun e w' => e = .returned (.tuple #[]) ∧ Hid (On w w' b (s.add ⟨op, n, 0⟩ none)) := by
  obtain ⟨F, h1, h2, h3⟩ := h
  refine (add_any h1 op n hl).mono ?_
  rintro e w' ⟨F', rfl, q, t⟩
  exact ⟨rfl, on_turn h2 h3 q t⟩
theorem On.push (h : On w u b s) (x : Nat) (hl : s.code.length < lim) : Calls Tryd.prog 14 #[.pointer (some ⟨b, 0, none⟩), .float .f64 x] u fun e w' => e = .returned (.tuple #[]) ∧ Hid (On w w' b (s.add ⟨1, 0, x⟩ none)) := by
  obtain ⟨F, h1, h2, h3⟩ := h
  refine (push_any h1 x hl).mono ?_
  rintro e w' ⟨F', rfl, q, t⟩
  exact ⟨rfl, on_turn h2 h3 q t⟩
theorem On.to (h : On w u b s) (op l : Int) (hw : Wf l) (hl : s.code.length < lim) : Calls Tryd.prog 15 #[.pointer (some ⟨b, 0, none⟩), .int .i64 op, .int .i64 l] u fun e w' => e = .returned (.tuple #[]) ∧ Hid (On w w' b (s.add ⟨op, 0, 0⟩ (some l))) := by
  obtain ⟨F, h1, h2, h3⟩ := h
  refine (to_any h1 op l hw hl).mono ?_
  rintro e w' ⟨F', rfl, q, t⟩
  exact ⟨rfl, on_turn h2 h3 q t⟩
theorem On.on (h : On w u b s) (k : Below u.heap.size u u') : On w u' b s := by
  obtain ⟨F, h1, h2, h3⟩ := h
  exact ⟨F, h1.on k, h2, h3.trans (k.mono h3.size)⟩
theorem new_on (w u : World) (k : Below w.heap.size w u) (t : Int) : Calls Tryd.prog 7 #[.int .i64 t] u fun e w' => ∃ b, e = .returned (.pointer (some ⟨b, 0, none⟩)) ∧ Hid (On w w' b (new t)) := by
  refine (new_any t u).mono ?_
  rintro e w' ⟨b, F, rfl, h1, h2, h3⟩
  exact ⟨b, rfl, F, h1, h2.mono k.size, k.trans (h3.mono k.size)⟩
/-- Program, of a builder on the way -/
theorem On.prog (h : On w u b s) (hT : Shaped5 w) (hl : s.code.length < lim) (hwf : ∀ l, hasM s.marks l = true → Wf l) : Calls Tryd.prog 17 #[.pointer (some ⟨b, 0, none⟩)] u fun e w' => ∃ t p n c, e = .returned (.tuple #[.agg #[.int .i64 t, .slice p n c], .int .i64 s.ans]) ∧ Hid (PrE u w' s t p n c ∧ On w w' b s) := by
  have h0 := h
  obtain ⟨F, h1, h2, h3⟩ := h
  refine (prog_any h1 (hT.on h3) hl hwf).mono ?_
  rintro e w' ⟨t, p, n, c, rfl, q⟩
  exact ⟨t, p, n, c, rfl, q.out, h0.on q.out.1⟩
theorem On.len (h : On w u b s) : Calls Tryd.prog 19 #[.pointer (some ⟨b, 0, none⟩)] u fun e w' => e = .returned (.int .i64 s.code.length) ∧ w' = u := by
  obtain ⟨F, h1, _⟩ := h
  exact len_any h1
set_option maxRecDepth 100000 in
set_option maxHeartbeats 1000000 in
theorem live_any (w : World) (hT : Shaped5 w) : Calls Tryd.prog 6 #[] w fun e w' => e = .returned (.bool true) ∧ Below w.heap.size w w' := by
  have H0 := Lib.hid (new_on w w (Below.refl _ _) 1)
  have H1 : Hid (∀ u b, On w u b (new 1) → Calls Tryd.prog 12 #[.pointer (some ⟨b, 0, none⟩)] u fun e w' => e = .returned (.int .i64 0) ∧ Hid (On w w' b lv1)) := fun u b h => h.label
  have H2 : Hid (∀ u b, On w u b lv1 → Calls Tryd.prog 13 #[.pointer (some ⟨b, 0, none⟩), .int .i64 0] u fun e w' => e = .returned (.tuple #[]) ∧ Hid (On w w' b lv2)) := fun u b h => h.mark (by unfold Wf; decide) (by unfold maxLen; decide)
  have H3 : Hid (∀ u b, On w u b lv2 → Calls Tryd.prog 16 #[.pointer (some ⟨b, 0, none⟩), .int .i64 15, .int .i64 0] u fun e w' => e = .returned (.tuple #[]) ∧ Hid (On w w' b lv3)) := fun u b h => h.add 15 0 (by unfold lim; decide)
  have H4 : Hid (∀ u b, On w u b lv3 → Calls Tryd.prog 15 #[.pointer (some ⟨b, 0, none⟩), .int .i64 11, .int .i64 0] u fun e w' => e = .returned (.tuple #[]) ∧ Hid (On w w' b lv4)) := fun u b h => h.to 11 0 (by unfold Wf; decide) (by unfold lim; decide)
  have H5 : Hid (∀ u b, On w u b lv4 → Calls Tryd.prog 17 #[.pointer (some ⟨b, 0, none⟩)] u fun e w' => ∃ g c, e = .returned (.tuple #[.agg #[.int .i64 1, .slice (some ⟨g, 0, none⟩) 2 c], .int .i64 0]) ∧ Hid ((w'.cell? ⟨g, 0, none⟩ = some (.int .i64 15) ∧ w'.cell? ⟨g, 3, none⟩ = some (.int .i64 11) ∧ w'.cell? ⟨g, 4, none⟩ = some (.int .i64 0) ∧ w'.cell? ⟨g, 5, none⟩ = some (.float .f64 0) ∧ g < w'.heap.size) ∧ On w w' b lv4)) := fun u b h => by
    refine (h.prog hT (by unfold lim; decide) (fun l hl => ?_)).mono ?_
    · have e : hasM [(0, 0)] l = true := hl
      rw [hasM_cons, Bool.or_eq_true, decide_eq_true_eq] at e
      rcases e with e | e
      · rw [← e]; unfold Wf; decide
      · cases e
    · rintro e w' ⟨t, p, n, c, rfl, q⟩
      rw [lv_ans]
      obtain ⟨⟨_, _, q1⟩, q2⟩ := q.out
      rcases q1 with ⟨_, rfl, rfl, hr⟩ | ⟨z, _⟩
      · obtain ⟨g, rfl, hg, _, _, hc, _⟩ := hr.at (by decide)
        rw [lv_code] at hc
        exact ⟨g, c, rfl, ⟨hc 0 (by decide), hc 3 (by decide), hc 4 (by decide), hc 5 (by decide), hg⟩, q2⟩
      · exact absurd lv_ans z
  have H6 : Hid (∀ u b, On w u b lv4 → Calls Tryd.prog 19 #[.pointer (some ⟨b, 0, none⟩)] u fun e w' => e = .returned (.int .i64 2) ∧ w' = u) := fun u b h => h.len
  have hfe : ∀ u : World, (binOp .eql 42 (.agg #[.int .i64 11, .int .i64 0, .float .f64 0]) (.agg #[.int .i64 11, .int .i64 0, .float .f64 0])).run Tryd.prog u = .ok (.bool true) u := fun u => by kernel_rfl
  clear hT
  go_enter Tryd.func6, Tryd.ntmps6
  go_wp2_with (first
    | (go_at_call 19; refine (H6.out _ _ (K5.out.2.on (bl1 _ _))).mono ?_; rintro e w' ⟨rfl, hw⟩; subst w'; clear H6)
    | (go_at_call 17; refine (H5.out _ _ K4.out).mono ?_; rintro e u5 ⟨g, c, rfl, q⟩; have K5 := Lib.hid q.out; obtain ⟨⟨c0, c3, c4, c5, gl⟩, _⟩ := q.out; clear q H5)
    | (go_at_call 15; refine (H4.out _ _ K3.out).mono ?_; rintro e u4 ⟨rfl, q⟩; have K4 := Lib.hid q.out; clear q H4)
    | (go_at_call 16; refine (H3.out _ _ K2.out).mono ?_; rintro e u3 ⟨rfl, q⟩; have K3 := Lib.hid q.out; clear q H3)
    | (go_at_call 13; refine (H2.out _ _ K1.out).mono ?_; rintro e u2 ⟨rfl, q⟩; have K2 := Lib.hid q.out; clear q H2)
    | (go_at_call 12; refine (H1.out _ _ K0.out).mono ?_; rintro e u1 ⟨rfl, q⟩; have K1 := Lib.hid q.out; clear q H1)
    | (go_at_call 7; refine H0.out.mono ?_; rintro e u0 ⟨b, rfl, q⟩; have K0 := Lib.hid q.out; clear q H0))
  go_ret
  obtain ⟨_, _, _, h3⟩ := K5.out.2
  exact ⟨rfl, h3.alloc h3.size _⟩
end
end Go.Proofs.YtmoafflimfhaiaaDoor.As
