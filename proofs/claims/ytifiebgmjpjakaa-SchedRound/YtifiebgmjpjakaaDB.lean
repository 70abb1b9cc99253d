import Derived.Test.YtifiebgmjpjakaaD6
namespace Go.Proofs.Ytifiebgmjpjakaa
open Go.ChangeShapes Go.WideShapes Go.ChangeAt Go.RowKit

/-- rounds, new since W -/
structure Own (W w : World) (b : Nat) (m : Rd) : Prop where
  at_ : RdAt w b m
  below : Below W.heap.size W w
  new : W.heap.size ≤ b
section
variable {W w w' : World} {b : Nat} {m m' : Rd}
theorem Own.go (h : Own W w b m) (k : RdAt w' b m') (t : Turn [b] [b] w w') : Own W w' b m' := ⟨k, h.below.trans (t.below (fun j hj => by simp at hj; have := h.new; omega) h.below.size), h.new⟩
theorem Own.on (h : Own W w b m) (t : Below w.heap.size w w') : Own W w' b m := ⟨h.at_.on t, h.below.trans (t.mono h.below.size), h.new⟩
theorem Own.same (h : Own W w b m) (t : Same w w') : Own W w' b m := ⟨h.at_.same t, h.below.trans (t.below _), h.new⟩
theorem own_new {W w w' : World} {b n : Nat} (hB : Below W.heap.size W w) (hb : b = w.heap.size) (h : RdAt w' b (newR n)) (t : Below w.heap.size w w') : Own W w' b (newR n) := ⟨h, hB.trans (t.mono hB.size), by have := hB.size; omega⟩
end
def lm1 : Rd := stepM (newR 2) 1
def lm2 : Rd := stepM lm1 0
def lm3 : Rd := stepM lm2 2
theorem RowAt.one {w : World} {p : Option Addr} {c : Nat} {l : List Int} {n : Nat} {x : Nat → Int} (h : RowAt 3 w p c (i64s l)) (e : l.length = n) (k : ∀ i, i < n → l.getD i 0 = x i) : IntsAt w p n x := by
  have q := h.ints
  rw [e] at q
  exact q.cong k
theorem lit_one (w : World) (x : Int) (b : Nat) (hb : b = w.heap.size) : IntsAt (w.alloc (.cells #[.int .i64 x] 3)) (some ⟨b, 0, none⟩) 1 (fun _ => x) := fun i hi => by
  subst hb
  obtain rfl : i = 0 := by omega
  refine ⟨w.heap.size, 0, rfl, by simp, ?_⟩
  rw [cell_of_row _ _ _ _ _ _ (heap_alloc_new w (.cells #[.int .i64 x] 3))]
  rfl
theorem RowAt.turn {E : TypeId} {w w' : World} {p : Option Addr} {c : Nat} {xs : List Value} {G G' : List Nat} (h : RowAt E w p c xs) (t : Turn G G' w w') (s : Sep (fpR p) G) : RowAt E w' p c xs := h.keep (t.kept s h.blw)
theorem live_1 {w : World} {b : Nat} (h : RdAt w b (newR 2)) : Calls Try.prog 15 #[.pointer (some ⟨b, 0, none⟩), .int .i64 1] w fun e w' => e = .returned (.int .i64 0) ∧ RdAt w' b lm1 ∧ Turn [b] [b] w w' := by
  have q := step_any h 1 (by decide) (by decide)
  rw [show errT (newR 2) 1 = 0 by decide] at q
  exact q
theorem live_2 {w : World} {b : Nat} (h : RdAt w b lm1) : Calls Try.prog 15 #[.pointer (some ⟨b, 0, none⟩), .int .i64 0] w fun e w' => e = .returned (.int .i64 0) ∧ RdAt w' b lm2 ∧ Turn [b] [b] w w' := by
  have q := step_any h 0 (by decide) (by decide)
  rw [show errT lm1 0 = 0 by decide] at q
  exact q
theorem live_3 {w : World} {b : Nat} (h : RdAt w b lm2) : Calls Try.prog 15 #[.pointer (some ⟨b, 0, none⟩), .int .i64 2] w fun e w' => e = .returned (.int .i64 100) ∧ RdAt w' b lm3 ∧ Turn [b] [b] w w' := by
  have q := step_any h 2 (by decide) (by decide)
  rw [show errT lm2 2 = 100 by decide] at q
  exact q
theorem live_d {w : World} {b : Nat} (h : RdAt w b lm1) : Calls Try.prog 9 #[.pointer (some ⟨b, 0, none⟩)] w fun e w' => ∃ p c, e = .returned (.slice p 1 c) ∧ RowAt 3 w' p c (i64s [0]) ∧ Abv w.heap.size (fpR p) ∧ Below w.heap.size w w' := by
  have q := due_any h (by decide)
  rw [show dueL lm1 = [0] by decide] at q
  exact q
theorem live_o {w : World} {b : Nat} (h : RdAt w b lm3) : Calls Try.prog 20 #[.pointer (some ⟨b, 0, none⟩)] w fun e w' => e = .returned (.int .i64 1) ∧ w' = w := over_any h
theorem live_f (w : World) : Calls Try.prog 11 #[.slice (some ⟨w.heap.size, 0, none⟩) 1 1, .int .i64 3] (w.alloc (.cells #[.int .i64 (-1)] 3)) fun e w' => ∃ g, e = .returned (.tuple #[.slice (some ⟨g, 0, none⟩) 1 1, .int .i64 0]) ∧ IntsAt w' (some ⟨g, 0, none⟩) 1 (fun _ => 2) ∧ Below w.heap.size w w' :=
  (Fold_yes (n := 1) (c := 1) (t := 3) (by omega) (by omega) (by omega) (lit_one w (-1) _ rfl)).mono fun e w' ⟨g, he, _, hr, hb⟩ => ⟨g, he, RowAt.one hr rfl (by decide), ((Below.refl _ _).alloc (Nat.le_refl _) _).trans (hb.mono (by simp))⟩
theorem live_same {w : World} {pa : Option Addr} {ca : Nat} {y : Int} {b : Nat} (h : IntsAt w pa 1 (fun _ => y)) (hb : b = w.heap.size) : Calls Try.prog 13 #[.slice pa 1 ca, .slice (some ⟨b, 0, none⟩) 1 1] (w.alloc (.cells #[.int .i64 y] 3)) fun e w' => e = .returned (.bool true) ∧ Same (w.alloc (.cells #[.int .i64 y] 3)) w' :=
  same_any ca 1 (by omega) (h.on ((Below.refl _ _).alloc (Nat.le_refl _) _)) (lit_one w y b hb)
set_option maxHeartbeats 4000000 in
set_option maxRecDepth 100000 in
theorem live_any (w : World) : Calls Try.prog 10 #[] w fun e w' => e = .returned (.bool true) ∧ Below w.heap.size w w' := by
  have HN : Hid (Calls Try.prog 8 #[.int .i64 2] w fun e w' => e = .returned (.tuple #[.pointer (some ⟨w.heap.size, 0, none⟩), .int .i64 0]) ∧ RdAt w' w.heap.size (newR 2) ∧ Below w.heap.size w w') := new_yes 2 (by omega) (by omega) w
  go_enter Try.func10, Try.ntmps10
  go_wp2_with (first
    | (go_at_call 13; refine (live_same (ca := 1) HL7.out rfl).mono ?_; rintro e w8 ⟨rfl, hw⟩; have HO8 := Lib.hid ((HO7.out.on ((Below.refl _ _).alloc (Nat.le_refl _) _)).same hw); clear hw)
    | (go_at_call 20; refine (live_o HO7.out.at_).mono ?_; rintro e w8 ⟨rfl, hw⟩; subst w8)
    | (go_at_call 13; refine (live_same (ca := c) HD6.out rfl).mono ?_; rintro e w7 ⟨rfl, hw⟩; have HO7 := Lib.hid ((HO6.out.on ((Below.refl _ _).alloc (Nat.le_refl _) _)).same hw); have HL7 := Lib.hid (HL.out.on (((Below.refl _ _).alloc (Nat.le_refl _) _).trans (hw.below _))); clear hw HL)
    | (go_at_call 11; refine (live_f w4).mono ?_; rintro e w6 ⟨g, rfl, hr, hb⟩; have HL := Lib.hid hr; have HO6 := Lib.hid (HO4.out.on hb); have HD6 := Lib.hid (HD4.out.on hb); clear hr hb)
    | (go_at_call 15; refine (live_3 HO3.out.at_).mono ?_; rintro e w4 ⟨rfl, hr, ht⟩; have HO4 := Lib.hid (HO3.out.go hr ht); have HD4 := Lib.hid (RowAt.one (x := fun _ => 0) (HD3.out.turn ht HS.out) rfl (by decide)); clear hr ht)
    | (go_at_call 15; refine (live_2 HO2.out.at_).mono ?_; rintro e w3 ⟨rfl, hr, ht⟩; have HO3 := Lib.hid (HO2.out.go hr ht); have HD3 := Lib.hid (HD2.out.turn ht HS.out); clear hr ht)
    | (go_at_call 9; refine (live_d HO1s.out.at_).mono ?_; rintro e w2 ⟨p, c, rfl, hr, ha, hb⟩; have HD2 := Lib.hid hr; have HS := Lib.hid (ha.sep (w := w1s) (G := [w.heap.size]) (fun k hk => by simp at hk; rw [hk]; exact HO1s.out.at_.lt)); have HO2 := Lib.hid (HO1s.out.on hb); clear hr hb ha)
    | (go_at_call 15; refine (live_1 HO1.out.at_).mono ?_; rintro e w1s ⟨rfl, hr, ht⟩; have HO1s := Lib.hid (HO1.out.go hr ht); clear hr ht)
    | (go_at_call 8; refine HN.out.mono ?_; rintro e w1 ⟨rfl, hr, hb⟩; have HO1 := Lib.hid (own_new (Below.refl _ _) rfl hr hb); clear hr hb))
  go_ret
  exact ⟨rfl, HO8.out.below⟩
theorem settleM_n (m : Rd) : (settleM m).n = m.n := by unfold settleM; split <;> rfl
theorem settleM_o (m : Rd) : m.o ≤ (settleM m).o ∧ (settleM m).o ≤ m.o + 1 := by unfold settleM; split <;> simp
theorem stepN_n (m : Rd) (k : Nat) : (stepN m k).n = m.n := by unfold stepN; split <;> first | rfl | exact settleM_n _
theorem stepN_o (m : Rd) (k : Nat) : m.o ≤ (stepN m k).o ∧ (stepN m k).o ≤ m.o + 1 := by unfold stepN; split; exact settleM_o { m with s := putF m.s k true }; simp
theorem finN_n (m : Rd) (k : Nat) : (finN m k).n = m.n := by unfold finN; split <;> first | rfl | exact settleM_n _
theorem finN_o (m : Rd) (k : Nat) : m.o ≤ (finN m k).o ∧ (finN m k).o ≤ m.o + 1 := by unfold finN; split; exact settleM_o { m with g := putF m.g k false, s := putF m.s k false }; simp
theorem stepM_n (m : Rd) (t : Int) : (stepM m t).n = m.n := by unfold stepM; split <;> first | rfl | exact stepN_n _ _
theorem stepM_o (m : Rd) (t : Int) : m.o ≤ (stepM m t).o ∧ (stepM m t).o ≤ m.o + 1 := by unfold stepM; split; exact stepN_o _ _; simp
theorem finM_n (m : Rd) (t : Int) : (finM m t).n = m.n := by unfold finM; split <;> first | rfl | exact finN_n _ _
theorem finM_o (m : Rd) (t : Int) : m.o ≤ (finM m t).o ∧ (finM m t).o ≤ m.o + 1 := by unfold finM; split; exact finN_o _ _; simp
set_option maxHeartbeats 1000000 in
set_option maxRecDepth 100000 in
theorem stir_any {w : World} {b : Nat} {m : Rd} (h : RdAt w b m) (hn : m.n ≤ 8) (ho : m.o + 20 < 9223372036854775807) : Calls Try.prog 23 #[.pointer (some ⟨b, 0, none⟩)] w fun e w' => e = .returned (.tuple #[]) ∧ Turn [b] [b] w w' := by
  have HA := Lib.hid h
  clear h
  go_enter Try.func23, Try.ntmps23
  go_wp2
  go_loopw [2] (fun vi wr => ∃ i : Nat, vi = .int .i64 i ∧ i ≤ 8 ∧ Hid (∃ m' : Rd, RdAt wr b m' ∧ m'.n ≤ 8 ∧ m'.o ≤ m.o + i ∧ Turn [b] [b] w wr)) (fun vi _ => 8 - (intOf vi).toNat)
  case atStart => exact ⟨0, rfl, Nat.zero_le _, ⟨m, HA.out, hn, Nat.le_refl _, Turn.refl _ _⟩⟩
  case round =>
    obtain ⟨i, rfl, hi, HQ⟩ := hrel
    obtain ⟨m', a1, a2, a3, a4⟩ := HQ.out
    by_cases hlt : i < 8
    · have hlt' : (i : Int) < 8 := by omega
      have HS := Lib.hid (step_any a1 (i : Int) a2 (by omega))
      have HN : Hid (∀ u, RdAt u b (stepM m' (i : Int)) → Turn [b] [b] wr u → ∃ m' : Rd, RdAt u b m' ∧ m'.n ≤ 8 ∧ m'.o ≤ m.o + (i + 1) ∧ Turn [b] [b] w u) := fun u h1 h2 => ⟨_, h1, by rw [stepM_n]; exact a2, by have := stepM_o m' (i : Int); omega, a4.trans h2⟩
      clear a1 a2 a3 a4 HQ
      generalize errT m' (i : Int) = z at HS
      go_wp2_with (go_at_call 15; refine HS.out.mono ?_; rintro e w1 ⟨rfl, h1, h2⟩; have HN1 := Lib.hid (HN.out _ h1 h2); clear h1 h2)
      exact ⟨⟨i + 1, by first | rfl | (congr 1), by omega, HN1⟩, by simp [intOf]; omega⟩
    · have hlt' : ¬ (i : Int) < 8 := by omega
      have HF1 := Lib.hid (fin_any a1 0 a2 (by omega))
      have HF2 : Hid (∀ u, RdAt u b (finM m' 0) → Calls Try.prog 17 #[.pointer (some ⟨b, 0, none⟩), .int .i64 1] u fun e w' => e = .returned (.int .i64 (errT (finM m' 0) 1)) ∧ RdAt w' b (finM (finM m' 0) 1) ∧ Turn [b] [b] u w') := fun u hu => fin_any hu 1 (by rw [finM_n]; exact a2) (by have := finM_o m' 0; omega)
      generalize errT m' 0 = z at HF1
      generalize errT (finM m' 0) 1 = z2 at HF2
      have HT := Lib.hid a4
      clear a1 a2 a3 a4 HQ
      go_wp2_with (first
        | (go_at_call 17; refine (HF2.out _ HR.out.1).mono ?_; rintro e w2 ⟨rfl, h1, h2⟩; have HT2 := Lib.hid (HR.out.2.trans h2); clear h1 h2)
        | (go_at_call 17; refine HF1.out.mono ?_; rintro e w1 ⟨rfl, h1, h2⟩; have HR := Lib.hid (And.intro h1 (HT.out.trans h2)); clear h1 h2))
      go_end0
      exact ⟨rfl, HT2.out⟩
set_option maxHeartbeats 2000000 in
set_option maxRecDepth 100000 in
theorem numbers_any (w : World) : Calls Try.prog 3 #[] w fun e w' => e = .returned (.bool true) ∧ Below w.heap.size w w' := by
  have HN1 : Hid (∀ w, Calls Try.prog 8 #[.int .i64 9] w fun e w' => e = .returned (.tuple #[.pointer none, .int .i64 1]) ∧ w' = w) := new_no 9 (by decide)
  have HN2 : Hid (∀ w, Calls Try.prog 8 #[.int .i64 8] w fun e w' => e = .returned (.tuple #[.pointer (some ⟨w.heap.size, 0, none⟩), .int .i64 0]) ∧ RdAt w' w.heap.size (newR 8) ∧ Below w.heap.size w w') := new_yes 8 (by omega) (by omega)
  have HD : Hid (∀ w b, RdAt w b (newR 8) → Calls Try.prog 9 #[.pointer (some ⟨b, 0, none⟩)] w fun e w' => ∃ p c, e = .returned (.slice p 8 c) ∧ RowAt 3 w' p c (i64s [0, 1, 2, 3, 4, 5, 6, 7]) ∧ Abv w.heap.size (fpR p) ∧ Below w.heap.size w w') := fun w b h => by
    have q := due_any h (by decide)
    rw [show dueL (newR 8) = [0, 1, 2, 3, 4, 5, 6, 7] by decide] at q
    exact q
  go_enter Try.func3, Try.ntmps3
  go_wp2_with (first
    | (go_at_call 9; refine (HD.out _ _ HR.out.1).mono ?_; rintro e w3 ⟨p, c, rfl, _, _, hb⟩; have HB := Lib.hid (below_chain HR.out.2 hb); clear hb)
    | (go_at_call 8; refine (HN1.out _).mono ?_; rintro e w1 ⟨rfl, hw⟩; subst w1; clear HN1)
    | (go_at_call 8; refine (HN2.out _).mono ?_; rintro e w2 ⟨rfl, hr, hb⟩; have HR := Lib.hid (And.intro hr hb); clear hr hb))
  go_ret
  exact ⟨rfl, HB.out⟩
end Go.Proofs.Ytifiebgmjpjakaa
