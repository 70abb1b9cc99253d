/- CodeBack: there and back -/
import Derived.Test.YtlnobfmbnnfbdaaGreatDoorCL0
namespace Go.Proofs.YtlnobfmbnnfbdaaGreatDoor
open Go.ChangeShapes Go.WideShapes Go.ChangeAt Go.RowKit Num

theorem fixI_ci {c : List Ins} (k : Nat) (hk : k < c.length) : ci (c.map fixI) k = fixI (ci c k) := ci_fix hk
theorem back_same (t : Int) (c : List Ins) : sameB t t c (c.map fixI) = true := by
  unfold sameB
  simp only [decide_true, List.length_map, Bool.true_and, List.all_eq_true, List.mem_range]
  intro k hk
  rw [fixI_ci k hk]
  unfold sameI fixI
  simp [fixB_fixB]
theorem back_text {l : List UInt8} {t : Int} {c : List Ins} (h : parseP l = .ok (t, c)) : printP t c = l ∧ checkE t c = 0 ∧ (∀ i ∈ c, i.x < 18446744073709551616) ∧ c.length ≤ 1024 := by
  obtain ⟨h1, h2, h3⟩ := print_parse h
  refine ⟨?_, checkE_yes h2, fun i hi => (h3 i hi).lt, (check_parts.1 h2).2.2.1⟩
  unfold printP
  rw [h2]
  exact h1
theorem back_parse {t : Int} {c : List Ins} (h : checkB t c = true) (hx : ∀ i ∈ c, i.x < 18446744073709551616) : (printP t c).length ≤ 65536 ∧ parseP (printP t c) = .ok (t, c.map fixI) := by
  have e : printP t c = textP t c := by unfold printP; rw [h]; rfl
  have hl : (textP t c).length ≤ 65536 := by
    have := headT_len h c.length (Nat.le_refl _)
    rw [headT_all] at this
    omega
  rw [e]
  exact ⟨hl, parse_print h hx hl⟩
theorem parse_got {w : World} {s : ByteArray} {t : Int} {c : List Ins} (hT : Tabs5 w) (hp : parseP s.data.toList = .ok (t, c)) : Calls Tryz.prog 20 #[.string s] w fun e w' => (∃ ao cap, e = .returned (.tuple #[.agg #[.int .i64 t, .slice ao c.length cap], .int .i64 0, .int .i64 0]) ∧ CodeAt w' ao c) ∧ Below w.heap.size w w' :=
  (code_parse s w hT).mono fun e w' ⟨h, hb⟩ => ⟨by
    unfold ParseR at h
    rw [hp] at h
    obtain ⟨ao, cap, he, hr⟩ := h
    exact ⟨ao, cap, he, hr.codeAt⟩, hb⟩
theorem parse_not {w : World} {s : ByteArray} {x l : Int} (hT : Tabs5 w) (hp : parseP s.data.toList = .error (x, l)) : Calls Tryz.prog 20 #[.string s] w fun e w' => e = .returned (.tuple #[.agg #[.int .i64 0, .slice none 0 0], .int .i64 x, .int .i64 l]) ∧ Below w.heap.size w w' :=
  (code_parse s w hT).mono fun e w' ⟨h, hb⟩ => ⟨by
    unfold ParseR at h
    rw [hp] at h
    exact h, hb⟩
theorem instrs_err : ∀ (k : Nat) (rest : List UInt8) (acc : List Ins) {x l : Int}, instrsF k rest acc = .error (x, l) → x = 20 ∨ x = 50
  | 0, rest, acc, x, l, h => by
    unfold instrsF at h
    split at h
    · cases h
    · cases h; exact .inr rfl
  | k + 1, rest, acc, x, l, h => by
    unfold instrsF at h
    split at h
    · cases h
    · split at h
      · cases h; exact .inl rfl
      · split at h
        · cases h; exact .inl rfl
        · exact instrs_err k _ _ h
theorem parse_fails {s : List UInt8} {x l : Int} (h : parseP s = .error (x, l)) : x = 2 ∨ x = 20 ∨ x = 50 := by
  unfold parseP at h
  split at h
  · cases h; exact .inl rfl
  · split at h
    · cases h; exact .inr (.inl rfl)
    · split at h
      · cases h; exact .inr (.inl rfl)
      · rename_i t ht
        cases hi : instrsF 1024 (cutB 10 s).2.1 [] with
        | error q =>
          rw [hi] at h
          cases h
          rcases instrs_err _ _ _ hi with e | e
          · exact .inr (.inl e)
          · exact .inr (.inr e)
        | ok c =>
          rw [hi] at h
          have h' : placed t c = .error (x, l) := h
          unfold placed at h'
          split at h'
          · cases h'; exact .inr (.inr rfl)
          · cases h'
abbrev bW (W : World) (t : Int) (o : Option Addr) (n k : Nat) : World := W.alloc (.cells #[.int .i64 t, .slice o n k] 24)
theorem box_at {W w : World} {v0 v1 : Value} (h : Below (W.alloc (.cells #[v0, v1] 24)).heap.size (W.alloc (.cells #[v0, v1] 24)) w) : w.cell? ⟨W.heap.size, 0, none⟩ = some v0 ∧ w.cell? ⟨W.heap.size, 1, none⟩ = some v1 ∧ W.heap.size < w.heap.size :=
  cells2_of ((h.block _ (lt_of_block (heap_alloc_new W _))).trans (heap_alloc_new W _))
section
variable {W : World} {t0 : Int} {o0 : Option Addr} {c0 : List Ins} {k0 : Nat} {a1 : ByteArray}
set_option maxHeartbeats 4000000 in
set_option maxRecDepth 100000 in
theorem back_ny {P : ByteArray} (HT : Hid (Tabs5 W))
    (HPP : Hid (∀ w, Below (bW W t0 o0 c0.length k0).heap.size (bW W t0 o0 c0.length k0) w → Calls Tryz.prog 18 #[.agg #[.int .i64 t0, .slice o0 c0.length k0]] w fun e w' => e = .returned (.tuple #[.string P, .int .i64 50]) ∧ Below w.heap.size w w'))
    (HPC : Hid (∀ w, Below (bW W t0 o0 c0.length k0).heap.size (bW W t0 o0 c0.length k0) w → Calls Tryz.prog 11 #[.agg #[.int .i64 t0, .slice o0 c0.length k0]] w fun e w' => e = .returned (.int .i64 50) ∧ Below w.heap.size w w'))
    {t : Int} {c : List Ins} (HPS : Hid (∀ w, Below (bW W t0 o0 c0.length k0).heap.size (bW W t0 o0 c0.length k0) w → Calls Tryz.prog 20 #[.string a1] w fun e w' => (∃ ao cap, e = .returned (.tuple #[.agg #[.int .i64 t, .slice ao c.length cap], .int .i64 0, .int .i64 0]) ∧ CodeAt w' ao c) ∧ Below w.heap.size w w'))
    (HPQ : Hid (∀ w ao cap, Below (bW W t0 o0 c0.length k0).heap.size (bW W t0 o0 c0.length k0) w → CodeAt w ao c → Calls Tryz.prog 18 #[.agg #[.int .i64 t, .slice ao c.length cap]] w fun e w' => e = .returned (.tuple #[.string a1, .int .i64 0]) ∧ Below w.heap.size w w'))
    (HCQ : Hid (∀ w ao cap, Below (bW W t0 o0 c0.length k0).heap.size (bW W t0 o0 c0.length k0) w → CodeAt w ao c → Calls Tryz.prog 11 #[.agg #[.int .i64 t, .slice ao c.length cap]] w fun e w' => e = .returned (.int .i64 0) ∧ Below w.heap.size w w'))
    : Calls Tryz.prog 7 #[.agg #[.int .i64 t0, .slice o0 c0.length k0], .string a1] W fun e W2 => e = .returned (.bool true) ∧ Below W.heap.size W W2 := by
  have HL := Lib.hid (live5_any (bW W t0 o0 c0.length k0) (HT.out.on (box5 _ _)))
  go_enter Tryz.func7, Tryz.ntmps7
  go_wp2_with (first
    | (go_at_call 11; refine (HCQ.out _ ao6 cap6 HB7.out HC7.out).mono ?_; rintro e w8 ⟨rfl, hb⟩; have HB8 := Lib.hid (chain5 HB7.out hb); clear hb)
    | (go_at_call 18; refine (HPQ.out _ ao6 cap6 (bl_alloc _ HB6.out) (HC6.out.on (box5 _ _))).mono ?_; rintro e w7 ⟨rfl, hb⟩; obtain ⟨q0, q1, q2⟩ := box_at hb; have HB7 := Lib.hid (chain5 (bl_alloc _ HB6.out) hb); have HC7 := Lib.hid (HC6.out.on (chain5 (box5 _ _) hb)); clear hb)
    | (go_at_call 20; refine (HPS.out _ HB3.out).mono ?_; rintro e w6 ⟨⟨ao6, cap6, rfl, hc⟩, hb⟩; have HC6 := Lib.hid hc; have HB6 := Lib.hid (chain5 HB3.out hb); clear hb hc)
    | (go_at_call 11; refine (HPC.out _ HB2.out).mono ?_; rintro e w3 ⟨rfl, hb⟩; have HB3 := Lib.hid (chain5 HB2.out hb); clear hb)
    | (go_at_call 18; refine (HPP.out _ HB1.out).mono ?_; rintro e w2 ⟨rfl, hb⟩; have HB2 := Lib.hid (chain5 HB1.out hb); obtain ⟨u20, u21, u22⟩ := box_at HB2.out; clear hb)
    | (go_at_call 9; refine HL.out.mono ?_; rintro e w1 ⟨rfl, hb⟩; have HB1 := Lib.hid hb; obtain ⟨u10, u11, u12⟩ := box_at hb; clear hb))
  go_ret
  exact ⟨by simp, chain5 (box5 W _) HB8.out⟩
set_option maxHeartbeats 4000000 in
set_option maxRecDepth 100000 in
theorem back_nn {P : ByteArray} (HT : Hid (Tabs5 W))
    (HPP : Hid (∀ w, Below (bW W t0 o0 c0.length k0).heap.size (bW W t0 o0 c0.length k0) w → Calls Tryz.prog 18 #[.agg #[.int .i64 t0, .slice o0 c0.length k0]] w fun e w' => e = .returned (.tuple #[.string P, .int .i64 50]) ∧ Below w.heap.size w w'))
    (HPC : Hid (∀ w, Below (bW W t0 o0 c0.length k0).heap.size (bW W t0 o0 c0.length k0) w → Calls Tryz.prog 11 #[.agg #[.int .i64 t0, .slice o0 c0.length k0]] w fun e w' => e = .returned (.int .i64 50) ∧ Below w.heap.size w w'))
    {x l : Int} (hx0 : (x == 0) = false) (HPS : Hid (∀ w, Below (bW W t0 o0 c0.length k0).heap.size (bW W t0 o0 c0.length k0) w → Calls Tryz.prog 20 #[.string a1] w fun e w' => e = .returned (.tuple #[.agg #[.int .i64 0, .slice none 0 0], .int .i64 x, .int .i64 l]) ∧ Below w.heap.size w w'))
    : Calls Tryz.prog 7 #[.agg #[.int .i64 t0, .slice o0 c0.length k0], .string a1] W fun e W2 => e = .returned (.bool true) ∧ Below W.heap.size W W2 := by
  have HL := Lib.hid (live5_any (bW W t0 o0 c0.length k0) (HT.out.on (box5 _ _)))
  have hx1 : (x != 0) = true := by simp [bne, hx0]
  have hx2 : ¬ x = 0 := by simpa using hx0
  go_enter Tryz.func7, Tryz.ntmps7
  go_wp2_with (first
    | (go_at_call 20; refine (HPS.out _ HB3.out).mono ?_; rintro e w6 ⟨rfl, hb⟩; have HB6 := Lib.hid (chain5 HB3.out hb); clear hb)
    | (go_at_call 11; refine (HPC.out _ HB2.out).mono ?_; rintro e w3 ⟨rfl, hb⟩; have HB3 := Lib.hid (chain5 HB2.out hb); clear hb)
    | (go_at_call 18; refine (HPP.out _ HB1.out).mono ?_; rintro e w2 ⟨rfl, hb⟩; have HB2 := Lib.hid (chain5 HB1.out hb); obtain ⟨u20, u21, u22⟩ := box_at HB2.out; clear hb)
    | (go_at_call 9; refine HL.out.mono ?_; rintro e w1 ⟨rfl, hb⟩; have HB1 := Lib.hid hb; obtain ⟨u10, u11, u12⟩ := box_at hb; clear hb))
  go_ret
  exact ⟨by simp, chain5 (box5 W _) (chain5 HB6.out (box5 _ _))⟩
set_option maxHeartbeats 4000000 in
set_option maxRecDepth 100000 in
theorem back_yy {P : ByteArray} (HT : Hid (Tabs5 W))
    (HPP : Hid (∀ w, Below (bW W t0 o0 c0.length k0).heap.size (bW W t0 o0 c0.length k0) w → Calls Tryz.prog 18 #[.agg #[.int .i64 t0, .slice o0 c0.length k0]] w fun e w' => e = .returned (.tuple #[.string P, .int .i64 0]) ∧ Below w.heap.size w w'))
    (HPC : Hid (∀ w, Below (bW W t0 o0 c0.length k0).heap.size (bW W t0 o0 c0.length k0) w → Calls Tryz.prog 11 #[.agg #[.int .i64 t0, .slice o0 c0.length k0]] w fun e w' => e = .returned (.int .i64 0) ∧ Below w.heap.size w w'))
    (hP : (P.size : Int) ≤ 65536)
    (HPT : Hid (∀ w, Below (bW W t0 o0 c0.length k0).heap.size (bW W t0 o0 c0.length k0) w → Calls Tryz.prog 20 #[.string P] w fun e w' => (∃ ao cap, e = .returned (.tuple #[.agg #[.int .i64 t0, .slice ao c0.length cap], .int .i64 0, .int .i64 0]) ∧ CodeAt w' ao (c0.map fixI)) ∧ Below w.heap.size w w'))
    (HSM : Hid (∀ w ao cap, Below (bW W t0 o0 c0.length k0).heap.size (bW W t0 o0 c0.length k0) w → CodeAt w ao (c0.map fixI) → Calls Tryz.prog 12 #[.agg #[.int .i64 t0, .slice o0 c0.length k0], .agg #[.int .i64 t0, .slice ao c0.length cap]] w fun e w' => e = .returned (.bool true) ∧ Below w.heap.size w w'))
    {t : Int} {c : List Ins} (HPS : Hid (∀ w, Below (bW W t0 o0 c0.length k0).heap.size (bW W t0 o0 c0.length k0) w → Calls Tryz.prog 20 #[.string a1] w fun e w' => (∃ ao cap, e = .returned (.tuple #[.agg #[.int .i64 t, .slice ao c.length cap], .int .i64 0, .int .i64 0]) ∧ CodeAt w' ao c) ∧ Below w.heap.size w w'))
    (HPQ : Hid (∀ w ao cap, Below (bW W t0 o0 c0.length k0).heap.size (bW W t0 o0 c0.length k0) w → CodeAt w ao c → Calls Tryz.prog 18 #[.agg #[.int .i64 t, .slice ao c.length cap]] w fun e w' => e = .returned (.tuple #[.string a1, .int .i64 0]) ∧ Below w.heap.size w w'))
    (HCQ : Hid (∀ w ao cap, Below (bW W t0 o0 c0.length k0).heap.size (bW W t0 o0 c0.length k0) w → CodeAt w ao c → Calls Tryz.prog 11 #[.agg #[.int .i64 t, .slice ao c.length cap]] w fun e w' => e = .returned (.int .i64 0) ∧ Below w.heap.size w w'))
    : Calls Tryz.prog 7 #[.agg #[.int .i64 t0, .slice o0 c0.length k0], .string a1] W fun e W2 => e = .returned (.bool true) ∧ Below W.heap.size W W2 := by
  have HL := Lib.hid (live5_any (bW W t0 o0 c0.length k0) (HT.out.on (box5 _ _)))
  go_enter Tryz.func7, Tryz.ntmps7
  go_wp2_with (first
    | (go_at_call 11; refine (HCQ.out _ ao6 cap6 HB7.out HC7.out).mono ?_; rintro e w8 ⟨rfl, hb⟩; have HB8 := Lib.hid (chain5 HB7.out hb); clear hb)
    | (go_at_call 18; refine (HPQ.out _ ao6 cap6 (bl_alloc _ HB6.out) (HC6.out.on (box5 _ _))).mono ?_; rintro e w7 ⟨rfl, hb⟩; obtain ⟨q0, q1, q2⟩ := box_at hb; have HB7 := Lib.hid (chain5 (bl_alloc _ HB6.out) hb); have HC7 := Lib.hid (HC6.out.on (chain5 (box5 _ _) hb)); clear hb)
    | (go_at_call 20; refine (HPS.out _ HB5.out).mono ?_; rintro e w6 ⟨⟨ao6, cap6, rfl, hc⟩, hb⟩; have HC6 := Lib.hid hc; have HB6 := Lib.hid (chain5 HB5.out hb); clear hb hc)
    | (go_at_call 12; refine (HSM.out _ ao cap (bl_alloc _ HB4.out) (HC4.out.on (box5 _ _))).mono ?_; rintro e w5 ⟨rfl, hb⟩; have HB5 := Lib.hid (chain5 (bl_alloc _ HB4.out) hb); clear hb)
    | (go_at_call 20; refine (HPT.out _ HB3.out).mono ?_; rintro e w4 ⟨⟨ao, cap, rfl, hc⟩, hb⟩; have HC4 := Lib.hid hc; have HB4 := Lib.hid (chain5 HB3.out hb); obtain ⟨u40, u41, u42⟩ := box_at HB4.out; clear hb hc)
    | (go_at_call 11; refine (HPC.out _ HB2.out).mono ?_; rintro e w3 ⟨rfl, hb⟩; have HB3 := Lib.hid (chain5 HB2.out hb); clear hb)
    | (go_at_call 18; refine (HPP.out _ HB1.out).mono ?_; rintro e w2 ⟨rfl, hb⟩; have HB2 := Lib.hid (chain5 HB1.out hb); obtain ⟨u20, u21, u22⟩ := box_at HB2.out; clear hb)
    | (go_at_call 9; refine HL.out.mono ?_; rintro e w1 ⟨rfl, hb⟩; have HB1 := Lib.hid hb; obtain ⟨u10, u11, u12⟩ := box_at hb; clear hb))
  go_ret
  exact ⟨by simp, chain5 (box5 W _) HB8.out⟩
set_option maxHeartbeats 4000000 in
set_option maxRecDepth 100000 in
theorem back_yn {P : ByteArray} (HT : Hid (Tabs5 W))
    (HPP : Hid (∀ w, Below (bW W t0 o0 c0.length k0).heap.size (bW W t0 o0 c0.length k0) w → Calls Tryz.prog 18 #[.agg #[.int .i64 t0, .slice o0 c0.length k0]] w fun e w' => e = .returned (.tuple #[.string P, .int .i64 0]) ∧ Below w.heap.size w w'))
    (HPC : Hid (∀ w, Below (bW W t0 o0 c0.length k0).heap.size (bW W t0 o0 c0.length k0) w → Calls Tryz.prog 11 #[.agg #[.int .i64 t0, .slice o0 c0.length k0]] w fun e w' => e = .returned (.int .i64 0) ∧ Below w.heap.size w w'))
    (hP : (P.size : Int) ≤ 65536)
    (HPT : Hid (∀ w, Below (bW W t0 o0 c0.length k0).heap.size (bW W t0 o0 c0.length k0) w → Calls Tryz.prog 20 #[.string P] w fun e w' => (∃ ao cap, e = .returned (.tuple #[.agg #[.int .i64 t0, .slice ao c0.length cap], .int .i64 0, .int .i64 0]) ∧ CodeAt w' ao (c0.map fixI)) ∧ Below w.heap.size w w'))
    (HSM : Hid (∀ w ao cap, Below (bW W t0 o0 c0.length k0).heap.size (bW W t0 o0 c0.length k0) w → CodeAt w ao (c0.map fixI) → Calls Tryz.prog 12 #[.agg #[.int .i64 t0, .slice o0 c0.length k0], .agg #[.int .i64 t0, .slice ao c0.length cap]] w fun e w' => e = .returned (.bool true) ∧ Below w.heap.size w w'))
    {x l : Int} (hx0 : (x == 0) = false) (HPS : Hid (∀ w, Below (bW W t0 o0 c0.length k0).heap.size (bW W t0 o0 c0.length k0) w → Calls Tryz.prog 20 #[.string a1] w fun e w' => e = .returned (.tuple #[.agg #[.int .i64 0, .slice none 0 0], .int .i64 x, .int .i64 l]) ∧ Below w.heap.size w w'))
    : Calls Tryz.prog 7 #[.agg #[.int .i64 t0, .slice o0 c0.length k0], .string a1] W fun e W2 => e = .returned (.bool true) ∧ Below W.heap.size W W2 := by
  have HL := Lib.hid (live5_any (bW W t0 o0 c0.length k0) (HT.out.on (box5 _ _)))
  have hx1 : (x != 0) = true := by simp [bne, hx0]
  have hx2 : ¬ x = 0 := by simpa using hx0
  go_enter Tryz.func7, Tryz.ntmps7
  go_wp2_with (first
    | (go_at_call 20; refine (HPS.out _ HB5.out).mono ?_; rintro e w6 ⟨rfl, hb⟩; have HB6 := Lib.hid (chain5 HB5.out hb); clear hb)
    | (go_at_call 12; refine (HSM.out _ ao cap (bl_alloc _ HB4.out) (HC4.out.on (box5 _ _))).mono ?_; rintro e w5 ⟨rfl, hb⟩; have HB5 := Lib.hid (chain5 (bl_alloc _ HB4.out) hb); clear hb)
    | (go_at_call 20; refine (HPT.out _ HB3.out).mono ?_; rintro e w4 ⟨⟨ao, cap, rfl, hc⟩, hb⟩; have HC4 := Lib.hid hc; have HB4 := Lib.hid (chain5 HB3.out hb); obtain ⟨u40, u41, u42⟩ := box_at HB4.out; clear hb hc)
    | (go_at_call 11; refine (HPC.out _ HB2.out).mono ?_; rintro e w3 ⟨rfl, hb⟩; have HB3 := Lib.hid (chain5 HB2.out hb); clear hb)
    | (go_at_call 18; refine (HPP.out _ HB1.out).mono ?_; rintro e w2 ⟨rfl, hb⟩; have HB2 := Lib.hid (chain5 HB1.out hb); obtain ⟨u20, u21, u22⟩ := box_at HB2.out; clear hb)
    | (go_at_call 9; refine HL.out.mono ?_; rintro e w1 ⟨rfl, hb⟩; have HB1 := Lib.hid hb; obtain ⟨u10, u11, u12⟩ := box_at hb; clear hb))
  go_ret
  exact ⟨by simp, chain5 (box5 W _) (chain5 HB6.out (box5 _ _))⟩
theorem bw_on {w : World} (h : Below (bW W t0 o0 c0.length k0).heap.size (bW W t0 o0 c0.length k0) w) : Below W.heap.size W w := chain5 (box5 W _) h
theorem back_any (hT : Tabs5 W) (hc : CodeAt W o0 c0) (hl : c0.length ≤ 9223372036854775807) (hx : ∀ i ∈ c0, i.x < 18446744073709551616) : Calls Tryz.prog 7 #[progV t0 o0 c0.length k0, .string a1] W fun e W2 => e = .returned (.bool true) ∧ Below W.heap.size W W2 := by
  have HT := Lib.hid hT
  have HPP := Lib.hid (fun w (h : Below (bW W t0 o0 c0.length k0).heap.size (bW W t0 o0 c0.length k0) w) => print5_any t0 k0 (hT.on (bw_on h)) (hc.on (bw_on h)) hl hx)
  have HPC := Lib.hid (fun w (h : Below (bW W t0 o0 c0.length k0).heap.size (bW W t0 o0 c0.length k0) w) => check_any t0 k0 (hT.on (bw_on h)).sh (hc.on (bw_on h)) hl)
  have ea : (⟨a1.data.toList.toArray⟩ : ByteArray) = a1 := by cases a1; simp
  cases hck : checkB t0 c0 with
  | false =>
    rw [checkE_no hck] at HPP HPC
    cases hp : parseP a1.data.toList with
    | error q =>
      obtain ⟨x, l⟩ := q
      refine back_nn HT HPP HPC (x := x) (l := l) ?_ (Lib.hid fun w h => parse_not (hT.on (bw_on h)) hp)
      rcases parse_fails hp with rfl | rfl | rfl <;> rfl
    | ok q =>
      obtain ⟨t, c⟩ := q
      obtain ⟨b1, b2, b3, b4⟩ := back_text hp
      refine back_ny HT HPP HPC (t := t) (c := c) (Lib.hid fun w h => parse_got (hT.on (bw_on h)) hp) (Lib.hid fun w ao cap h hc' => ?_) (Lib.hid fun w ao cap h hc' => ?_)
      · have := print5_any t cap (hT.on (bw_on h)) hc' (by omega) b3
        rw [b1, b2, ea] at this
        exact this
      · have := check_any t cap (hT.on (bw_on h)).sh hc' (by omega)
        rw [b2] at this
        exact this
  | true =>
    rw [checkE_yes hck] at HPP HPC
    obtain ⟨p1, p2⟩ := back_parse hck hx
    have hP : ((⟨(printP t0 c0).toArray⟩ : ByteArray).size : Int) ≤ 65536 := by
      rw [size_list]
      show (((printP t0 c0).toArray.toList.length : Nat) : Int) ≤ 65536
      rw [List.toList_toArray]
      omega
    have HPT : Hid (∀ w, Below (bW W t0 o0 c0.length k0).heap.size (bW W t0 o0 c0.length k0) w → Calls Tryz.prog 20 #[.string ⟨(printP t0 c0).toArray⟩] w fun e w' => (∃ ao cap, e = .returned (.tuple #[.agg #[.int .i64 t0, .slice ao c0.length cap], .int .i64 0, .int .i64 0]) ∧ CodeAt w' ao (c0.map fixI)) ∧ Below w.heap.size w w') := fun w h => by
      have := parse_got (s := ⟨(printP t0 c0).toArray⟩) (hT.on (bw_on h)) (by simpa using p2)
      rw [List.length_map] at this
      exact this
    have HSM : Hid (∀ w ao cap, Below (bW W t0 o0 c0.length k0).heap.size (bW W t0 o0 c0.length k0) w → CodeAt w ao (c0.map fixI) → Calls Tryz.prog 12 #[.agg #[.int .i64 t0, .slice o0 c0.length k0], .agg #[.int .i64 t0, .slice ao c0.length cap]] w fun e w' => e = .returned (.bool true) ∧ Below w.heap.size w w') := fun w ao cap h hc' => by
      have := same5_any t0 t0 k0 cap (hc.on (bw_on h)) hc' hl (by rw [List.length_map]; exact hl)
      rw [back_same, List.length_map] at this
      exact this
    cases hp : parseP a1.data.toList with
    | error q =>
      obtain ⟨x, l⟩ := q
      refine back_yn HT HPP HPC hP HPT HSM (x := x) (l := l) ?_ (Lib.hid fun w h => parse_not (hT.on (bw_on h)) hp)
      rcases parse_fails hp with rfl | rfl | rfl <;> rfl
    | ok q =>
      obtain ⟨t, c⟩ := q
      obtain ⟨b1, b2, b3, b4⟩ := back_text hp
      refine back_yy HT HPP HPC hP HPT HSM (t := t) (c := c) (Lib.hid fun w h => parse_got (hT.on (bw_on h)) hp) (Lib.hid fun w ao cap h hc' => ?_) (Lib.hid fun w ao cap h hc' => ?_)
      · have := print5_any t cap (hT.on (bw_on h)) hc' (by omega) b3
        rw [b1, b2, ea] at this
        exact this
      · have := check_any t cap (hT.on (bw_on h)).sh hc' (by omega)
        rw [b2] at this
        exact this
end
end Go.Proofs.YtlnobfmbnnfbdaaGreatDoor
