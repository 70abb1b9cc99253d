import Derived.Test.YtaliehikdidiaaaGreatDoorY1
import Derived.Test.YtaliehikdidiaaaGreatDoorC3
namespace Go.Proofs.YtaliehikdidiaaaGreatDoor
open Go.ChangeShapes Go.WideShapes Go.ChangeAt Go.RowKit Num

theorem chain5 {a b c : World} (h : Below a.heap.size a b) (k : Below b.heap.size b c) : Below a.heap.size a c := h.trans (k.mono h.size)
theorem box5 (w : World) (x : Obj) : Below w.heap.size w (w.alloc x) := (Below.refl _ _).alloc (Nat.le_refl _) x
theorem box5n (w : World) (x : Obj) (n : Nat) : Below w.heap.size w ((w.alloc x).drewN n) := (box5 w x).trans ((Same.drewN _ n).below _)
theorem bl_alloc {w w' : World} (x : Obj) (h : Below w.heap.size w w') : Below w.heap.size w (w'.alloc x) := chain5 h (box5 _ _)
theorem bl_drewN {w w' : World} (n : Nat) (h : Below w.heap.size w w') : Below w.heap.size w (w'.drewN n) := h.trans ((Same.drewN _ n).below _)
theorem bl_drew {w w' : World} (h : Below w.heap.size w w') : Below w.heap.size w w'.drew := h.trans ((Same.drew _).below _)
def insV (i : Ins) : Value := .agg #[.int .i64 i.op, .int .i64 i.n, .float .f64 i.x]
set_option maxHeartbeats 2000000 in
set_option maxRecDepth 100000 in
theorem mayBe_any (i : Ins) (many : Nat) (w : World) (hT : Shaped5 w) : Calls Tryz.prog 40 #[insV i, .int .i64 many] w fun e w' => e = .returned (.bool (mayB i many)) ∧ Below w.heap.size w w' := by
  obtain ⟨op, n, x⟩ := i
  unfold insV
  simp only
  have HT := Lib.hid hT
  clear hT
  cases hk : knownB op with
  | false =>
    have e : mayB ⟨op, n, x⟩ many = false := by unfold mayB; simp [hk]
    rw [e]
    go_enter Tryz.func40, Tryz.ntmps40
    go_wp2_with (first
      | (go_at_call 79; refine (known_any _ _).mono ?_; rintro e w' ⟨rfl, hw⟩; subst w'))
    go_ret
    exact ⟨rfl, box5 _ _⟩
  | true =>
    have hop : 0 < op ∧ op ≤ 20 := by unfold knownB at hk; simpa using hk
    obtain ⟨k, rfl⟩ : ∃ k : Nat, op = k := ⟨op.toNat, by omega⟩
    have hk21 : k < 21 := by omega
    have HE : Hid (mayB ⟨k, n, x⟩ many = (true && fitsB k n && !outB k n many && (decide ((k : Int) = 1) || fixB x == 0))) := by
      show mayB _ _ = _
      unfold mayB
      rw [hk]
      rfl
    cases hf : fitsB k n with
    | false =>
      have e : mayB ⟨k, n, x⟩ many = false := by rw [HE.out, hf]; rfl
      rw [e]
      go_enter Tryz.func40, Tryz.ntmps40
      go_wp2_with (first
        | (go_at_call 79; refine (known_any _ _).mono ?_; rintro e w' ⟨rfl, hw⟩; subst w')
        | (go_at_call 80; refine (fits_any k n _ (HT.out.on (box5 _ _)) hk21).mono ?_; rintro e w' ⟨rfl, hw⟩; subst w'))
      go_ret
      exact ⟨rfl, box5 _ _⟩
    | true =>
      cases ho : outB k n many with
      | true =>
        have e : mayB ⟨k, n, x⟩ many = false := by rw [HE.out, hf, ho]; rfl
        rw [e]
        go_enter Tryz.func40, Tryz.ntmps40
        go_wp2_with (first
          | (go_at_call 79; refine (known_any _ _).mono ?_; rintro e w' ⟨rfl, hw⟩; subst w')
          | (go_at_call 80; refine (fits_any k n _ (HT.out.on (box5 _ _)) hk21).mono ?_; rintro e w' ⟨rfl, hw⟩; subst w')
          | (go_at_call 81; refine (outside_any k n x many _ (HT.out.on (box5 _ _)) hk21).mono ?_; rintro e w' ⟨rfl, hw⟩; subst w'))
        go_ret
        exact ⟨rfl, chain5 (box5 _ _) (box5 _ _)⟩
      | false =>
        by_cases h1 : (k : Int) = 1
        · obtain rfl : k = 1 := by omega
          have e : mayB ⟨(1 : Nat), n, x⟩ many = true := by rw [HE.out, hf, ho]; simp
          rw [e]
          have HK1 : Hid (∀ w, Calls Tryz.prog 79 #[.int .i64 1] w fun e w' => e = .returned (.bool true) ∧ w' = w) := fun w => by
            have := known_any ((1 : Nat) : Int) w
            rw [hk] at this
            exact this
          have HF1 : Hid (∀ w, Shaped5 w → Calls Tryz.prog 80 #[.int .i64 1, .int .i64 n] w fun e w' => e = .returned (.bool true) ∧ w' = w) := fun w h => by
            have := fits_any 1 n w h hk21
            rw [hf] at this
            exact this
          have HO1 : Hid (∀ w, Shaped5 w → Calls Tryz.prog 81 #[.agg #[.int .i64 1, .int .i64 n, .float .f64 x], .int .i64 many] w fun e w' => e = .returned (.bool false) ∧ w' = w.alloc (.cells #[.int .i64 1, .int .i64 n, .float .f64 x] 90)) := fun w h => by
            have := outside_any 1 n x many w h hk21
            rw [ho] at this
            exact this
          clear hk hf ho HE e h1 hop
          go_enter Tryz.func40, Tryz.ntmps40
          go_wp2_with (first
            | (go_at_call 79; refine (HK1.out _).mono ?_; rintro e w' ⟨rfl, hw⟩; subst w')
            | (go_at_call 80; refine (HF1.out _ (HT.out.on (box5 _ _))).mono ?_; rintro e w' ⟨rfl, hw⟩; subst w')
            | (go_at_call 81; refine (HO1.out _ (HT.out.on (box5 _ _))).mono ?_; rintro e w' ⟨rfl, hw⟩; subst w'))
          go_ret
          exact ⟨by simp, chain5 (box5 _ _) (box5 _ _)⟩
        · have e : mayB ⟨k, n, x⟩ many = (fixB x == fixB 0) := by rw [HE.out, hf, ho, decide_eq_false h1, fixB_num nan_zero]; rfl
          rw [e]
          go_enter Tryz.func40, Tryz.ntmps40
          go_wp2_with (first
            | (go_at_call 79; refine (known_any _ _).mono ?_; rintro e w' ⟨rfl, hw⟩; subst w')
            | (go_at_call 80; refine (fits_any k n _ (HT.out.on (box5 _ _)) hk21).mono ?_; rintro e w' ⟨rfl, hw⟩; subst w')
            | (go_at_call 81; refine (outside_any k n x many _ (HT.out.on (box5 _ _)) hk21).mono ?_; rintro e w' ⟨rfl, hw⟩; subst w')
            | (go_at_call 82; refine (same_any _ _ _).mono ?_; rintro e w' ⟨rfl, hw⟩; subst w'))
          go_ret
          exact ⟨by simp; intro h; exact absurd h h1, chain5 (box5 _ _) (box5 _ _)⟩
set_option maxHeartbeats 2000000 in
set_option maxRecDepth 100000 in
theorem sameInstr_any (a b : Ins) (w : World) : Calls Tryz.prog 41 #[insV a, insV b] w fun e w' => e = .returned (.bool (sameI a b)) ∧ Below w.heap.size w w' := by
  obtain ⟨op, n, x⟩ := a
  obtain ⟨op', n', x'⟩ := b
  unfold insV sameI
  simp only
  by_cases h1 : op = op'
  · by_cases h2 : n = n'
    · rw [decide_eq_true h1, decide_eq_true h2]
      go_enter Tryz.func41, Tryz.ntmps41
      go_wp2_with (first
        | (go_at_call 82; refine (same_any _ _ _).mono ?_; rintro e w' ⟨rfl, hw⟩; subst w'))
      go_ret
      exact ⟨by simp, chain5 (box5 _ _) (box5 _ _)⟩
    · rw [decide_eq_true h1, decide_eq_false h2]
      go_enter Tryz.func41, Tryz.ntmps41
      go_wp2
      go_ret
      exact ⟨by simp, chain5 (box5 _ _) (box5 _ _)⟩
  · rw [decide_eq_false h1]
    go_enter Tryz.func41, Tryz.ntmps41
    go_wp2
    go_ret
    exact ⟨by simp, chain5 (box5 _ _) (box5 _ _)⟩
end Go.Proofs.YtaliehikdidiaaaGreatDoor
