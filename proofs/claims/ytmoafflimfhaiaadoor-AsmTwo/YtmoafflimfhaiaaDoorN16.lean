/- stage 19 (asm): AsmBuilds -/
import Derived.Test.YtmoafflimfhaiaaDoorN14
import Derived.Test.YtmoafflimfhaiaaDoorN15
namespace Go.Proofs.YtmoafflimfhaiaaDoor.As
open Go.ChangeShapes Go.WideShapes Go.ChangeAt Go.RowKit Num Go.Maps
attribute [local go_sem] run_store_float frombits_run bits_run

/-- both, all of it new since W -/
def BOn (W w : World) (b r : Nat) (s : Bs) (k : Nat) : Prop := ∃ F, Both w b r F s k ∧ Abv W.heap.size F ∧ Below W.heap.size W w
section
variable {W w u u' : World} {b r k : Nat} {s : Bs}
theorem BOn.on (h : BOn W u b r s k) (q : Below u.heap.size u u') : BOn W u' b r s k := by
  obtain ⟨F, h1, h2, h3⟩ := h
  exact ⟨F, h1.on q, h2, h3.trans (q.mono h3.size)⟩
theorem BOn.bel (h : BOn W u b r s k) : Below W.heap.size W u := by obtain ⟨F, _, _, h3⟩ := h; exact h3
theorem BOn.does (h : BOn W u b r s k) (hk : k < lim) (hT : Shaped5 W) (m : Mv) (hw : Wf m.n) : Calls Tryd.prog 9 #[.pointer (some ⟨b, 0, none⟩), .pointer (some ⟨r, 0, none⟩), .agg #[.int .i64 m.kind, .int .i64 m.op, .int .i64 m.n, .float .f64 m.x]] u fun e w' => e = .returned (.bool true) ∧ Hid (BOn W w' b r (s.go m) (k + 1)) := by
  obtain ⟨F, h1, h2, h3⟩ := h
  refine (does_any h1 hk (hT.on h3) m hw).mono ?_
  rintro e w' ⟨rfl, F', q, t⟩
  exact ⟨rfl, F', q, h2.turn h3.size t, h3.trans (t.below h2 h3.size)⟩
theorem BOn.same (h : BOn W u b r s k) (hk : k < lim) (hT : Shaped5 W) : Calls Tryd.prog 10 #[.pointer (some ⟨b, 0, none⟩), .pointer (some ⟨r, 0, none⟩)] u fun e w' => e = .returned (.bool true) ∧ Hid (BOn W w' b r s k) := by
  have h0 := h
  obtain ⟨F, h1, h2, h3⟩ := h
  refine (same_any h1 hk (hT.on h3)).mono ?_
  rintro e w' ⟨rfl, q⟩
  exact ⟨rfl, h0.on q⟩
theorem new_wf (t : Int) : ∀ l, hasM (new t).marks l = true → Wf l := fun l h => by cases h
/-- a new one of each -/
theorem bon_new {w1 w2 : World} {F1 F2 : List Nat} {t : Int} (k0 : Below W.heap.size W w) (h1 : Bld w1 b F1 (new t)) (a1 : Abv w.heap.size F1) (k1 : Below w.heap.size w w1) (h2 : RAt w2 r F2 (new t)) (a2 : Abv w1.heap.size F2) (k2 : Below w1.heap.size w1 w2) : BOn W w2 b r (new t) 0 := by
  refine ⟨F1 ++ F2, ⟨⟨F1, F2, h1.on k2, h2, (a2.sep h1.blw).symm, rfl⟩, new_wf t, Nat.le_refl _, Nat.le_refl _⟩, fun x hx => ?_, (k0.trans (k1.mono k0.size)).trans (k2.mono (Nat.le_trans k0.size k1.size))⟩
  rcases List.mem_append.1 hx with q | q
  · exact Nat.le_trans k0.size (a1 x q)
  · exact Nat.le_trans (Nat.le_trans k0.size k1.size) (a2 x q)
set_option maxRecDepth 100000 in
set_option maxHeartbeats 1000000 in
theorem builds_any (W : World) (t : Int) (o : Option Addr) (l : List Mv) (c : Nat) (hl : l.length < lim ∧ ∀ i, i < l.length → Wf (l.getD i ⟨0, 0, 0, 0⟩).n) (hm : MvAt W o l) (hT : Shaped5 W) : Calls Tryd.prog 3 #[.int .i64 t, .slice o l.length c] W fun e w' => e = .returned (.bool true) ∧ Below W.heap.size W w' := by
  have HL := Lib.hid (live_any W hT)
  have HN := Lib.hid (fun u => new_any t u)
  have HR := Lib.hid (fun u => rnew_any t u)
  have HD : Hid (∀ u b r s k, BOn W u b r s k → k < lim → ∀ m : Mv, Wf m.n → Calls Tryd.prog 9 #[.pointer (some ⟨b, 0, none⟩), .pointer (some ⟨r, 0, none⟩), .agg #[.int .i64 m.kind, .int .i64 m.op, .int .i64 m.n, .float .f64 m.x]] u fun e w' => e = .returned (.bool true) ∧ Hid (BOn W w' b r (s.go m) (k + 1))) := fun u b r s k h hk m hw => h.does hk hT m hw
  have HS : Hid (∀ u b r s k, BOn W u b r s k → k < lim → Calls Tryd.prog 10 #[.pointer (some ⟨b, 0, none⟩), .pointer (some ⟨r, 0, none⟩)] u fun e w' => e = .returned (.bool true) ∧ Hid (BOn W w' b r s k)) := fun u b r s k h hk => h.same hk hT
  have HM := Lib.hid hm
  have HLL := Lib.hid hl
  obtain ⟨n, hn⟩ : ∃ n, l.length = n := ⟨_, rfl⟩
  rw [hn]
  have HNE := Lib.hid hn
  have hnI : (n : Int) ≤ 9223372036854775807 := by have := hl.1; unfold lim at this; omega
  clear hT hm hl hn
  go_enter Tryd.func3, Tryd.ntmps3
  go_upto_region 6 with (first
    | (go_at_call 6; refine HL.out.mono ?_; rintro e u0 ⟨rfl, q⟩; have K0 := Lib.hid q; clear q HL)
    | (go_at_call 7; refine (HN.out _).mono ?_; rintro e u1 ⟨b, F1, rfl, q1, q2, q3⟩; have K1 := Lib.hid (And.intro q1 (And.intro q2 q3)); clear q1 q2 q3 HN)
    | (go_at_call 8; refine (HR.out _).mono ?_; rintro e u2 ⟨r, F2, rfl, q1, q2, q3⟩; have K2 : Hid (BOn W u2 b r (new t) 0) := bon_new K0.out K1.out.1 K1.out.2.1 K1.out.2.2 q1 q2 q3; clear q1 q2 q3 HR K0 K1))
  go_wp2_with fail
  go_loopw [21] (fun vi wr => ∃ (i : Nat), vi = .int .i64 i ∧ i ≤ n ∧ Hid (∃ s, BOn W wr b r s i)) (fun vi _ => n - (intOf vi).toNat)
  case atStart => exact ⟨0, rfl, Nat.zero_le _, _, K2.out⟩
  case round =>
    obtain ⟨i, rfl, hi, HI⟩ := hrel
    clear K2
    by_cases hlt : i < n
    · have hltI : (i : Int) < (n : Int) := by omega
      obtain ⟨s, hB⟩ := HI.out
      obtain ⟨g, off, rfl, hg, c0, c1, c2, c3⟩ := HM.out i (by rw [HNE.out]; exact hlt)
      have hw := HLL.out.2 i (by rw [HNE.out]; exact hlt)
      generalize l.getD i ⟨0, 0, 0, 0⟩ = m at c0 c1 c2 c3 hw
      have kb := hB.bel
      have d0 := (kb.cell (p := ⟨g, off + i * 4, none⟩) hg).trans c0
      have d1 := (kb.cell (p := ⟨g, off + i * 4 + 1, none⟩) hg).trans c1
      have d2 := (kb.cell (p := ⟨g, off + i * 4 + 2, none⟩) hg).trans c2
      have d3 := (kb.cell (p := ⟨g, off + i * 4 + 3, none⟩) hg).trans c3
      have hD := Lib.hid (HD.out _ b r s i (hB.on (bl1 wr (.cells #[.int .i64 m.kind, .int .i64 m.op, .int .i64 m.n, .float .f64 m.x] 30))) (Nat.lt_of_lt_of_le hlt (by rw [← HNE.out]; exact Nat.le_of_lt HLL.out.1)) m hw)
      clear c0 c1 c2 c3 kb hB hw HI hg
      obtain ⟨kd, op, x, y⟩ := m
      go_wp2_with (go_at_call 9; refine hD.out.mono ?_; rintro e w' ⟨rfl, q⟩; have HQ := Lib.hid q.out; clear q hD)
      exact ⟨⟨i + 1, by first | rfl | (congr 1), by omega, _, HQ.out⟩, by simp [intOf]; omega⟩
    · have hltI : ¬ (i : Int) < (n : Int) := by omega
      obtain ⟨s, hB⟩ := HI.out
      have hk : i < lim := by have := HLL.out.1; rw [HNE.out] at this; omega
      have HB := Lib.hid hB
      have HK := Lib.hid hk
      clear hB hk HI HD HM
      go_wp2_with (first
        | (go_at_call 10; refine (HS.out _ _ _ _ _ HB2.out HK.out).mono ?_; rintro e w2 ⟨rfl, q⟩; have HB3 := Lib.hid q.out; clear q HS)
        | (go_at_call 10; refine (HS.out _ _ _ _ _ HB.out HK.out).mono ?_; rintro e w1 ⟨rfl, q⟩; have HB2 := Lib.hid q.out; clear q))
      go_ret
      exact ⟨rfl, HB3.out.bel⟩
end
end Go.Proofs.YtmoafflimfhaiaaDoor.As
