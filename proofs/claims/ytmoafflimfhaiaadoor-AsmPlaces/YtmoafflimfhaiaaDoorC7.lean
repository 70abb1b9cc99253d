import Derived.Test.YtmoafflimfhaiaaDoorC5
import Derived.Test.YtmoafflimfhaiaaDoorC6
namespace Go.Proofs.YtmoafflimfhaiaaDoor
open Go.ChangeShapes Go.WideShapes Go.ChangeAt Go.RowKit Num
attribute [local go_sem] run_store_float

theorem rlo_place {k : Nat} (h : (shp k).kind = 3) : rlo k = -1 := by unfold rlo; rw [if_pos h]
theorem rlo_else {k : Nat} (h : (shp k).kind ≠ 3) : rlo k = (shp k).lo := by unfold rlo; rw [if_neg h]
theorem rhi_else {k : Nat} (h : (shp k).kind ≠ 3) : rhi k = (shp k).hi := by unfold rhi; rw [if_neg h]
theorem rows_cells (k : Nat) (hk : k < 21) (u : World) (b : Nat) (hb : b = u.heap.size) : (u.alloc rowsO).cell? ⟨b, k * 5, none⟩ = some (strB (shp k).word) ∧ (u.alloc rowsO).cell? ⟨b, k * 5 + 1, none⟩ = some (.int .i64 (rlo k)) ∧ (u.alloc rowsO).cell? ⟨b, k * 5 + 2, none⟩ = some (.int .i64 (rhi k)) ∧ (u.alloc rowsO).cell? ⟨b, k * 5 + 3, none⟩ = some (.int .i64 (shp k).takes) ∧ (u.alloc rowsO).cell? ⟨b, k * 5 + 4, none⟩ = some (.int .i64 (shp k).lays) := by
  subst hb
  exact (rowsO_at u).row k hk
theorem lo_pos : ∀ k, k < 21 → 0 ≤ (shp k).lo := by decide +kernel
set_option maxHeartbeats 4000000 in
set_option maxRecDepth 100000 in
theorem may_any (i : Ins) (many : Nat) (w : World) (hm : many ≤ 1024) : Calls Tryd.prog 26 #[insV i, .int .i64 many] w fun e w' => e = .returned (.bool (mayB i many)) ∧ Below w.heap.size w w' := by
  obtain ⟨op, n, x⟩ := i
  unfold insV
  simp only
  cases hkn : knownB op with
  | false =>
    have h' : op < 1 ∨ 20 < op := by
      unfold knownB at hkn
      simp at hkn
      omega
    have e : mayB ⟨op, n, x⟩ many = false := by unfold mayB; simp [hkn]
    rw [e]
    rcases h' with q | q
    · go_enter Tryd.func26, Tryd.ntmps26
      go_wp2
      go_ret
      exact ⟨rfl, box5 _ _⟩
    · have q2 : ¬ op < 1 := by omega
      go_enter Tryd.func26, Tryd.ntmps26
      go_wp2
      go_ret
      exact ⟨rfl, box5 _ _⟩
  | true =>
    have hop : 0 < op ∧ op ≤ 20 := by unfold knownB at hkn; simpa using hkn
    obtain ⟨k, rfl⟩ : ∃ k : Nat, op = k := ⟨op.toNat, by omega⟩
    have hk : k < 21 := by omega
    have HE : Hid (mayB ⟨k, n, x⟩ many = (true && fitsB k n && !outB k n many && (decide ((k : Int) = 1) || fixB x == 0))) := by
      show mayB _ _ = _
      unfold mayB
      rw [hkn]
      rfl
    have hk1 : ¬ (k : Int) < 1 := by omega
    have hk2 : ¬ 20 < (k : Int) := by omega
    have hk3 : (k : Int) < 21 := by omega
    by_cases hx : (k : Int) = 1 ∨ fixB x = 0
    · have hx' : (decide ((k : Int) = 1) || fixB x == 0) = true := by simpa using hx
      have c0 := fun u b hb => (rows_cells k hk u b hb).1
      have c1 := fun u b hb => (rows_cells k hk u b hb).2.1
      have c2 := fun u b hb => (rows_cells k hk u b hb).2.2.1
      have c3 := fun u b hb => (rows_cells k hk u b hb).2.2.2.1
      have c4 := fun u b hb => (rows_cells k hk u b hb).2.2.2.2
      have H3 := Lib.hid (fun h => kind_3 k hk h)
      have HL := Lib.hid (lo_pos k hk)
      generalize (shp k).takes = t at *
      generalize (shp k).lays = l at *
      unfold strB at c0
      generalize (shp k).word = wd at *
      by_cases h3 : (shp k).kind = 3
      · rw [rlo_place h3] at c1
        obtain ⟨h1k, h4, h5⟩ := H3.out h3
        generalize rhi k = hi at *
        clear HL H3
        have HF : Hid (mayB ⟨k, n, x⟩ many = (decide (0 ≤ n) && decide (n < (many : Int)))) := by
          show mayB _ _ = _
          rw [HE.out, hx']
          unfold fitsB outB
          rw [h4, h5, decide_eq_true h3]
          by_cases a1 : 0 ≤ n
          · by_cases a2 : n < (many : Int)
            · have a3 : n ≤ 1023 := by omega
              have a4 : ¬ (many : Int) ≤ n := by omega
              simp [a1, a2, a3, a4]
            · have a4 : (many : Int) ≤ n := by omega
              simp [a1, a2, a4]
          · simp [a1]
        have hx0 : fixB x = 0 := hx.resolve_left (by omega)
        have hx2 : ((k : Int) != 1) = true := by simp; omega
        clear HE h3 h4 h5 hx hx' h1k
        go_enter Tryd.func26, Tryd.ntmps26
        go_wp2_with (first
          | (go_at_call 33; refine (refBits_any _ _).mono ?_; rintro e w' ⟨rfl, hw⟩; subst w'))
        go_region_with (go_at_call 35; refine (rows_any _).mono ?_; rintro e w' ⟨rfl, hw⟩; subst w')
        clear c0 c1 c2 c3 c4
        all_goals go_wp2
        all_goals go_ret
        all_goals exact ⟨by rw [HF.out]; simp <;> omega, by repeat (first | exact Below.refl _ _ | apply bl_alloc | apply bl_drewN | apply bl_drew)⟩
      · rw [rlo_else h3] at c1
        rw [rhi_else h3] at c2
        have HF : Hid (mayB ⟨k, n, x⟩ many = (decide ((shp k).lo ≤ n) && decide (n ≤ (shp k).hi))) := by
          show mayB _ _ = _
          rw [HE.out, hx']
          unfold fitsB outB
          rw [decide_eq_false h3]
          simp
        have hl0 : ¬ (shp k).lo < 0 := by have := HL.out; omega
        clear HE H3 HL h3 hx'
        generalize (shp k).lo = lo at *
        generalize (shp k).hi = hi at *
        cases hk9 : ((k : Int) != 1) with
        | true =>
          have hx0 : fixB x = 0 := hx.resolve_left (by simpa using hk9)
          clear hx
          go_enter Tryd.func26, Tryd.ntmps26
          go_wp2_with (first
            | (go_at_call 33; refine (refBits_any _ _).mono ?_; rintro e w' ⟨rfl, hw⟩; subst w'))
          go_region_with (go_at_call 35; refine (rows_any _).mono ?_; rintro e w' ⟨rfl, hw⟩; subst w')
          clear c0 c1 c2 c3 c4
          all_goals go_wp2
          all_goals go_ret
          all_goals exact ⟨by rw [HF.out]; simp <;> omega, by repeat (first | exact Below.refl _ _ | apply bl_alloc | apply bl_drewN | apply bl_drew)⟩
        | false =>
          clear hx
          go_enter Tryd.func26, Tryd.ntmps26
          go_wp2
          go_region_with (go_at_call 35; refine (rows_any _).mono ?_; rintro e w' ⟨rfl, hw⟩; subst w')
          clear c0 c1 c2 c3 c4
          all_goals go_wp2
          all_goals go_ret
          all_goals exact ⟨by rw [HF.out]; simp <;> omega, by repeat (first | exact Below.refl _ _ | apply bl_alloc | apply bl_drewN | apply bl_drew)⟩
    · have hx2 : ((k : Int) != 1) = true := by simpa using fun q => hx (.inl q)
      have hx3 : (((fixB x : Nat) : Int) != 0) = true := by
        have : fixB x ≠ 0 := fun q => hx (.inr q)
        simp
        exact this
      have e : mayB ⟨k, n, x⟩ many = false := by
        rw [HE.out]
        have h1 : ¬ (k : Int) = 1 := fun q => hx (.inl q)
        have h2 : ¬ fixB x = 0 := fun q => hx (.inr q)
        rw [decide_eq_false h1, beq_eq_false_iff_ne.2 h2]
        simp
      rw [e]
      clear HE hx
      go_enter Tryd.func26, Tryd.ntmps26
      go_wp2_with (first
        | (go_at_call 33; refine (refBits_any _ _).mono ?_; rintro e w' ⟨rfl, hw⟩; subst w'))
      go_ret
      exact ⟨rfl, box5 _ _⟩
end Go.Proofs.YtmoafflimfhaiaaDoor
