/- stage 19 (asm): AsmTwo -/
import Derived.Test.YtmoafflimfhaiaaDoorN16
namespace Go.Proofs.YtmoafflimfhaiaaDoor.As
open Go.ChangeShapes Go.WideShapes Go.ChangeAt Go.RowKit Num Go.Maps
attribute [local go_sem] run_store_float frombits_run bits_run

/-- two pairs beside one another -/
def Tow (W w : World) (a x b y : Nat) (k : Nat) : Prop := ∃ F G s s', Both w a x F s k ∧ Both w b y G s' k ∧ Sep F G ∧ Abv W.heap.size F ∧ Abv W.heap.size G ∧ Below W.heap.size W w
section
variable {W w u u' : World} {a x b y k : Nat}
theorem Tow.on (h : Tow W u a x b y k) (q : Below u.heap.size u u') : Tow W u' a x b y k := by
  obtain ⟨F, G, s, s', h1, h2, h3, h4, h5, h6⟩ := h
  exact ⟨F, G, s, s', h1.on q, h2.on q, h3, h4, h5, h6.trans (q.mono h6.size)⟩
theorem Tow.bel (h : Tow W u a x b y k) : Below W.heap.size W u := by obtain ⟨F, G, s, s', h1, h2, h3, h4, h5, h6⟩ := h; exact h6
theorem Tow.swap (h : Tow W u a x b y k) : Tow W u b y a x k := by obtain ⟨F, G, s, s', h1, h2, h3, h4, h5, h6⟩ := h; exact ⟨G, F, s', s, h2, h1, h3.symm, h5, h4, h6⟩
theorem Tow.does (h : Tow W u a x b y k) (hk : k < lim) (hT : Shaped5 W) (m : Mv) (hw : Wf m.n) : Calls Tryd.prog 9 #[.pointer (some ⟨a, 0, none⟩), .pointer (some ⟨x, 0, none⟩), .agg #[.int .i64 m.kind, .int .i64 m.op, .int .i64 m.n, .float .f64 m.x]] u fun e w' => e = .returned (.bool true) ∧ Hid (Tow W w' a x b y (k + 1)) := by
  obtain ⟨F, G, s, s', h1, h2, h3, h4, h5, h6⟩ := h
  refine (does_any h1 hk (hT.on h6) m hw).mono ?_
  rintro e w' ⟨rfl, F', q, t⟩
  exact ⟨rfl, F', G, _, s', q, (h2.turn t h3.symm).mono (Nat.le_succ k), (h3.symm.turn h2.blw t).symm, h4.turn h6.size t, h5, h6.trans (t.below h4 h6.size)⟩
theorem Tow.same (h : Tow W u a x b y k) (hk : k < lim) (hT : Shaped5 W) : Calls Tryd.prog 10 #[.pointer (some ⟨a, 0, none⟩), .pointer (some ⟨x, 0, none⟩)] u fun e w' => e = .returned (.bool true) ∧ Hid (Tow W w' a x b y k) := by
  have h0 := h
  obtain ⟨F, G, s, s', h1, h2, h3, h4, h5, h6⟩ := h
  refine (same_any h1 hk (hT.on h6)).mono ?_
  rintro e w' ⟨rfl, q⟩
  exact ⟨rfl, h0.on q⟩
/-- two new ones of each -/
theorem tow_new {w1 w2 w3 w4 : World} {F1 F2 F3 F4 : List Nat} (k0 : Below W.heap.size W w) (h1 : Bld w1 a F1 (new 1)) (a1 : Abv w.heap.size F1) (k1 : Below w.heap.size w w1) (h2 : Bld w2 b F2 (new 2)) (a2 : Abv w1.heap.size F2) (k2 : Below w1.heap.size w1 w2) (h3 : RAt w3 x F3 (new 1)) (a3 : Abv w2.heap.size F3) (k3 : Below w2.heap.size w2 w3) (h4 : RAt w4 y F4 (new 2)) (a4 : Abv w3.heap.size F4) (k4 : Below w3.heap.size w3 w4) : Tow W w4 a x b y 0 := by
  have z0 := k0.size
  have z1 := k1.size
  have z2 := k2.size
  have z3 := k3.size
  have b1 := h1.blw
  have b2 := h2.blw
  have b3 := h3.blw
  have sp : ∀ {P Q : List Nat} {v : World}, Blw v P → Abv v.heap.size Q → Sep P Q := fun p q k hk hq => absurd (p k hk) (Nat.not_lt.2 (q k hq))
  have s12 : Sep F1 F2 := sp b1 a2
  have s13 : Sep F1 F3 := sp b1 (a3.mono z2)
  have s14 : Sep F1 F4 := sp b1 (a4.mono (by omega))
  have s23 : Sep F2 F3 := sp b2 a3
  have s24 : Sep F2 F4 := sp b2 (a4.mono z3)
  have s34 : Sep F3 F4 := sp b3 a4
  refine ⟨F1 ++ F3, F2 ++ F4, new 1, new 2, ⟨⟨F1, F3, ((h1.on k2).on k3).on k4, h3.on k4, s13, rfl⟩, new_wf 1, Nat.le_refl _, Nat.le_refl _⟩, ⟨⟨F2, F4, (h2.on k3).on k4, h4, s24, rfl⟩, new_wf 2, Nat.le_refl _, Nat.le_refl _⟩, fun i hi hj => ?_, fun i hi => ?_, fun i hi => ?_, (((k0.trans (k1.mono z0)).trans (k2.mono (by omega))).trans (k3.mono (by omega))).trans (k4.mono (by omega))⟩
  · rcases List.mem_append.1 hi with p | p <;> rcases List.mem_append.1 hj with q | q
    · exact s12 i p q
    · exact s14 i p q
    · exact s23 i q p
    · exact s34 i p q
  · rcases List.mem_append.1 hi with p | p
    · exact Nat.le_trans z0 (a1 i p)
    · exact Nat.le_trans (by omega) (a3 i p)
  · rcases List.mem_append.1 hi with p | p
    · exact Nat.le_trans (by omega) (a2 i p)
    · exact Nat.le_trans (by omega) (a4 i p)
set_option maxRecDepth 100000 in
set_option maxHeartbeats 1000000 in
theorem two_any (W : World) (o : Option Addr) (l : List Mv) (c : Nat) (hl : l.length < lim ∧ ∀ i, i < l.length → Wf (l.getD i ⟨0, 0, 0, 0⟩).n) (hm : MvAt W o l) (hT : Shaped5 W) : Calls Tryd.prog 4 #[.slice o l.length c] W fun e w' => e = .returned (.bool true) ∧ Below W.heap.size W w' := by
  have HL := Lib.hid (live_any W hT)
  have HN := Lib.hid (fun u t => new_any t u)
  have HR := Lib.hid (fun u t => rnew_any t u)
  have HD : Hid (∀ u a x b y k, Tow W u a x b y k → k < lim → ∀ m : Mv, Wf m.n → Calls Tryd.prog 9 #[.pointer (some ⟨a, 0, none⟩), .pointer (some ⟨x, 0, none⟩), .agg #[.int .i64 m.kind, .int .i64 m.op, .int .i64 m.n, .float .f64 m.x]] u fun e w' => e = .returned (.bool true) ∧ Hid (Tow W w' a x b y (k + 1))) := fun u a x b y k h hk m hw => h.does hk hT m hw
  have HS : Hid (∀ u a x b y k, Tow W u a x b y k → k < lim → Calls Tryd.prog 10 #[.pointer (some ⟨a, 0, none⟩), .pointer (some ⟨x, 0, none⟩)] u fun e w' => e = .returned (.bool true) ∧ Hid (Tow W w' a x b y k)) := fun u a x b y k h hk => h.same hk hT
  have HM := Lib.hid hm
  have HLL := Lib.hid hl
  obtain ⟨n, hn⟩ : ∃ n, l.length = n := ⟨_, rfl⟩
  rw [hn]
  have HNE := Lib.hid hn
  have hnI : (n : Int) ≤ 9223372036854775807 := by have := hl.1; unfold lim at this; omega
  clear hT hm hl hn
  go_enter Tryd.func4, Tryd.ntmps4
  go_upto_region 8 with (first
    | (go_at_call 6; refine HL.out.mono ?_; rintro e u0 ⟨rfl, q⟩; have K0 := Lib.hid q; clear q HL)
    | (go_at_call 8; refine (HR.out _ 2).mono ?_; rintro e u4 ⟨y, F4, rfl, q1, q2, q3⟩; have K4 : Hid (Tow W u4 a x b y 0) := tow_new K0.out K1.out.1 K1.out.2.1 K1.out.2.2 K2.out.1 K2.out.2.1 K2.out.2.2 K3.out.1 K3.out.2.1 K3.out.2.2 q1 q2 q3; clear q1 q2 q3 HR K0 K1 K2 K3)
    | (go_at_call 8; refine (HR.out _ 1).mono ?_; rintro e u3 ⟨x, F3, rfl, q1, q2, q3⟩; have K3 := Lib.hid (And.intro q1 (And.intro q2 q3)); clear q1 q2 q3)
    | (go_at_call 7; refine (HN.out _ 2).mono ?_; rintro e u2 ⟨b, F2, rfl, q1, q2, q3⟩; have K2 := Lib.hid (And.intro q1 (And.intro q2 q3)); clear q1 q2 q3 HN)
    | (go_at_call 7; refine (HN.out _ 1).mono ?_; rintro e u1 ⟨a, F1, rfl, q1, q2, q3⟩; have K1 := Lib.hid (And.intro q1 (And.intro q2 q3)); clear q1 q2 q3))
  go_wp2_with fail
  go_loopw [24] (fun vi wr => ∃ (i : Nat), vi = .int .i64 i ∧ i ≤ n ∧ Hid (Tow W wr a x b y i)) (fun vi _ => n - (intOf vi).toNat)
  case atStart => exact ⟨0, rfl, Nat.zero_le _, K4.out⟩
  case round =>
    obtain ⟨i, rfl, hi, HI⟩ := hrel
    clear K4
    by_cases hlt : i < n
    · have hltI : (i : Int) < (n : Int) := by omega
      obtain ⟨g, off, rfl, hg, c0, c1, c2, c3⟩ := HM.out i (by rw [HNE.out]; exact hlt)
      have hw := HLL.out.2 i (by rw [HNE.out]; exact hlt)
      generalize l.getD i ⟨0, 0, 0, 0⟩ = m at c0 c1 c2 c3 hw
      have kb := HI.out.bel
      have d0 := (kb.cell (p := ⟨g, off + i * 4, none⟩) hg).trans c0
      have d1 := (kb.cell (p := ⟨g, off + i * 4 + 1, none⟩) hg).trans c1
      have d2 := (kb.cell (p := ⟨g, off + i * 4 + 2, none⟩) hg).trans c2
      have d3 := (kb.cell (p := ⟨g, off + i * 4 + 3, none⟩) hg).trans c3
      have hB := HI.out.on (bl1 wr (.cells #[.int .i64 m.kind, .int .i64 m.op, .int .i64 m.n, .float .f64 m.x] 30))
      have hk : i < lim := Nat.lt_of_lt_of_le hlt (by rw [← HNE.out]; exact Nat.le_of_lt HLL.out.1)
      rcases Nat.mod_two_eq_zero_or_one i with h2 | h2
      · have hD := Lib.hid (HD.out _ a x b y i hB hk m hw)
        have e2 : ((i : Int).tmod 2 == 0) = true := by rw [Int.tmod_eq_emod_of_nonneg (by omega)]; simp; omega
        have e3 : ((i : Int) % 2 == 0) = true := by simp; omega
        clear c0 c1 c2 c3 kb hB hw HI hg h2
        obtain ⟨kd, op, x', y'⟩ := m
        go_wp2_with (go_at_call 9; refine hD.out.mono ?_; rintro e w' ⟨rfl, q⟩; have HQ := Lib.hid q.out; clear q hD)
        exact ⟨⟨i + 1, by first | rfl | (congr 1), by omega, HQ.out⟩, by simp [intOf]; omega⟩
      · have hD := Lib.hid (HD.out _ b y a x i hB.swap hk m hw)
        have e2 : ((i : Int).tmod 2 == 0) = false := by rw [Int.tmod_eq_emod_of_nonneg (by omega)]; simp; omega
        have e3 : ((i : Int) % 2 == 0) = false := by simp; omega
        clear c0 c1 c2 c3 kb hB hw HI hg h2
        obtain ⟨kd, op, x', y'⟩ := m
        go_wp2_with (go_at_call 9; refine hD.out.mono ?_; rintro e w' ⟨rfl, q⟩; have HQ := Lib.hid q.out.swap; clear q hD)
        exact ⟨⟨i + 1, by first | rfl | (congr 1), by omega, HQ.out⟩, by simp [intOf]; omega⟩
    · have hltI : ¬ (i : Int) < (n : Int) := by omega
      have hk : i < lim := by have := HLL.out.1; rw [HNE.out] at this; omega
      have HK := Lib.hid hk
      clear hk HD HM
      go_wp2_with (first
        | (go_at_call 10; refine (HS.out _ _ _ _ _ _ HB2.out.swap HK.out).mono ?_; rintro e w2 ⟨rfl, q⟩; have HB3 := Lib.hid q.out; clear q HS)
        | (go_at_call 10; refine (HS.out _ _ _ _ _ _ HI.out HK.out).mono ?_; rintro e w1 ⟨rfl, q⟩; have HB2 := Lib.hid q.out; clear q))
      go_ret
      exact ⟨rfl, HB3.out.bel⟩
end
end Go.Proofs.YtmoafflimfhaiaaDoor.As
