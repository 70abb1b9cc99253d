import Derived.Test.YtaliehikdidiaaaGreatDoorC0
import Derived.Test.YtaliehikdidiaaaGreatDoorC1
namespace Go.Proofs.YtaliehikdidiaaaGreatDoor
open Go.ChangeShapes Go.WideShapes Go.ChangeAt Go.RowKit Num

def strB (l : List UInt8) : Value := .string ⟨l.toArray⟩
/-- what the tables of the operations hold -/
structure Shaped5 (w : World) : Prop where
  shp : ∀ k, k < 21 → w.cell? ⟨1, k * 6, none⟩ = some (strB (shp k).word) ∧ w.cell? ⟨1, k * 6 + 1, none⟩ = some (.int .i64 (shp k).kind) ∧ w.cell? ⟨1, k * 6 + 2, none⟩ = some (.int .i64 (shp k).lo) ∧
    w.cell? ⟨1, k * 6 + 3, none⟩ = some (.int .i64 (shp k).hi) ∧ w.cell? ⟨1, k * 6 + 4, none⟩ = some (.int .i64 (shp k).takes) ∧ w.cell? ⟨1, k * 6 + 5, none⟩ = some (.int .i64 (shp k).lays)

theorem Shaped5.on {w w' : World} (h : Shaped5 w) (hb : Below w.heap.size w w') : Shaped5 w' := by
  have on : ∀ {a : Addr} {v : Value}, w.cell? a = some v → w'.cell? a = some v := fun {a v} h => by
    rw [hb.cell (World.block_lt_of_cell? w a h)]
    exact h
  refine ⟨fun k hk => ?_⟩
  obtain ⟨c0, c1, c2, c3, c4, c5⟩ := h.shp k hk
  exact ⟨on c0, on c1, on c2, on c3, on c4, on c5⟩

theorem known_any (op : Int) (w : World) : Calls Tryz.prog 79 #[.int .i64 op] w fun e w' => e = .returned (.bool (knownB op)) ∧ w' = w := by
  by_cases h : 0 < op
  · by_cases h2 : op ≤ 20
    · have e : knownB op = true := by unfold knownB; simp [h, h2]
      rw [e]
      go_enter Tryz.func79, Tryz.ntmps79
      go_wp2
      go_ret
      exact ⟨rfl, rfl⟩
    · have e : knownB op = false := by unfold knownB; simp; omega
      rw [e]
      have h2' : 20 < op := by omega
      go_enter Tryz.func79, Tryz.ntmps79
      go_wp2
      go_ret
      exact ⟨rfl, rfl⟩
  · have h' : op ≤ 0 := by omega
    have e : knownB op = false := by unfold knownB; simp; omega
    rw [e]
    go_enter Tryz.func79, Tryz.ntmps79
    go_wp2
    go_ret
    exact ⟨rfl, rfl⟩
theorem effect_some (k : Nat) (w : World) (hT : Shaped5 w) (hk : k < 21) (h1 : 1 ≤ k) : Calls Tryz.prog 151 #[.int .i64 k] w fun e w' => e = .returned (.tuple #[.int .i64 (shp k).takes, .int .i64 (shp k).lays, .int .i64 0]) ∧ Same w w' := by
  obtain ⟨c0, c1, c2, c3, c4, c5⟩ := hT.shp k hk
  have hkn : knownB (k : Int) = true := by unfold knownB; simp; omega
  have hk' : (k : Int) < 21 := by omega
  clear hT c0 c1 c2 c3
  generalize (shp k).takes = t at *
  generalize (shp k).lays = l at *
  go_enter Tryz.func151, Tryz.ntmps151
  go_wp2_with (first
    | (go_at_call 79; refine (known_any _ _).mono ?_; rintro e w' ⟨rfl, hw⟩; subst w'))
  go_quiet (fail)
  go_wp2
  go_ret3
  exact ⟨rfl, Same.drewN _ _⟩
theorem effect_none (op : Int) (w : World) (h : knownB op = false) : Calls Tryz.prog 151 #[.int .i64 op] w fun e w' => e = .returned (.tuple #[.int .i64 0, .int .i64 0, .int .i64 1]) ∧ Same w w' := by
  go_enter Tryz.func151, Tryz.ntmps151
  go_wp2_with (first
    | (go_at_call 79; refine (known_any _ _).mono ?_; rintro e w' ⟨rfl, hw⟩; subst w'))
  go_ret3
  exact ⟨rfl, Same.refl _⟩
theorem fits_any (k : Nat) (n : Int) (w : World) (hT : Shaped5 w) (hk : k < 21) : Calls Tryz.prog 80 #[.int .i64 k, .int .i64 n] w fun e w' => e = .returned (.bool (fitsB k n)) ∧ w' = w := by
  obtain ⟨c0, c1, c2, c3, c4, c5⟩ := hT.shp k hk
  have hk' : (k : Int) < 21 := by omega
  have HE : Hid (fitsB k n = (decide ((shp k).lo ≤ n) && decide (n ≤ (shp k).hi))) := rfl
  clear hT c0 c1 c4 c5
  generalize (shp k).lo = t at *
  generalize (shp k).hi = l at *
  by_cases h : t ≤ n
  · by_cases h2 : n ≤ l
    · have e : fitsB k n = true := by rw [HE.out]; simp [h, h2]
      rw [e]
      go_enter Tryz.func80, Tryz.ntmps80
      go_wp2
      go_ret
      exact ⟨rfl, rfl⟩
    · have e : fitsB k n = false := by rw [HE.out]; simp; omega
      rw [e]
      have h2' : l < n := by omega
      go_enter Tryz.func80, Tryz.ntmps80
      go_wp2
      go_ret
      exact ⟨rfl, rfl⟩
  · have h' : n < t := by omega
    have e : fitsB k n = false := by rw [HE.out]; simp; omega
    rw [e]
    go_enter Tryz.func80, Tryz.ntmps80
    go_wp2
    go_ret
    exact ⟨rfl, rfl⟩
theorem outside_any (k : Nat) (n : Int) (x many : Nat) (w : World) (hT : Shaped5 w) (hk : k < 21) : Calls Tryz.prog 81 #[.agg #[.int .i64 k, .int .i64 n, .float .f64 x], .int .i64 many] w fun e w' => e = .returned (.bool (outB k n many)) ∧ w' = w.alloc (.cells #[.int .i64 k, .int .i64 n, .float .f64 x] 90) := by
  obtain ⟨c0, c1, c2, c3, c4, c5⟩ := hT.shp k hk
  have hk' : (k : Int) < 21 := by omega
  have HE : Hid (outB k n many = (decide ((shp k).kind = 3) && decide ((many : Int) ≤ n))) := rfl
  have h0 : 1 < w.heap.size := World.block_lt_of_cell? w _ c1
  clear hT c0 c2 c3 c4 c5
  by_cases h : (shp k).kind = 3
  · rw [h] at c1
    by_cases h2 : (many : Int) ≤ n
    · have e : outB k n many = true := by rw [HE.out]; simp [h, h2]
      rw [e]
      go_enter Tryz.func81, Tryz.ntmps81
      go_wp2
      go_ret
      exact ⟨rfl, rfl⟩
    · have h2' : n < (many : Int) := by omega
      have e : outB k n many = false := by rw [HE.out]; simp [h, h2]
      rw [e]
      go_enter Tryz.func81, Tryz.ntmps81
      go_wp2
      go_ret
      exact ⟨rfl, rfl⟩
  · have e : outB k n many = false := by rw [HE.out]; simp [h]
    rw [e]
    have h' : (((shp k).kind : Nat) : Int) ≠ 3 := by omega
    generalize (shp k).kind = t at *
    go_enter Tryz.func81, Tryz.ntmps81
    go_wp2
    go_ret
    exact ⟨rfl, rfl⟩
end Go.Proofs.YtaliehikdidiaaaGreatDoor
