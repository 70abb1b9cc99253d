import Derived.Test.YtlnobfmbnnfbdaaGreatDoorT4
namespace Go.Proofs.YtlnobfmbnnfbdaaGreatDoor
open Go.ChangeShapes Go.WideShapes Go.ChangeAt Go.RowKit Num

def zeros65 : Array Value := Array.replicate 65 (.int .u8 0)
/-- so far: the digits l stand at the row's end -/
structure Digs (w wr : World) (n u : Nat) (i : Int) : Prop where
  below : Below w.heap.size w wr
  row : ∀ j, j < 65 → ∃ v, wr.cell? ⟨w.heap.size, j, none⟩ = some v
  free : ∀ j, wr.frozen? ⟨w.heap.size, j, none⟩ = false
  digs : ∃ l : List UInt8, i = 65 - (l.length : Int) ∧ hexS n = hexS u ++ l ∧ ∀ j (hj : j < l.length), wr.cell? ⟨w.heap.size, 65 - l.length + j, none⟩ = some (.int .u8 (l[j].toNat : Int))
theorem hexS_le {n : Nat} (h : n < 18446744073709551616) : (hexS n).length ≤ 16 := (hexN_of_hexS n h).1
theorem Digs.room {w wr : World} {n u : Nat} {i : Int} (h : Digs w wr n u i) (hn : n < 18446744073709551616) : 50 ≤ i ∧ i ≤ 65 := by
  obtain ⟨l, hl, e, _⟩ := h.digs
  have h1 := congrArg List.length e
  rw [List.length_append] at h1
  have h2 := hexS_le hn
  have h3 := hexS_length_pos u
  omega

theorem Digs.put {w wr : World} {n u : Nat} {i : Int} (h : Digs w wr n u i) (hn : n < 18446744073709551616) (d : UInt8) (l0 : List UInt8) (u' : Nat) (he : hexS u ++ l0 = hexS u' ++ d :: l0) (hl0 : ∃ l, l = l0 ∧ i = 65 - (l.length : Int) ∧ hexS n = hexS u ++ l ∧ ∀ j (hj : j < l.length), wr.cell? ⟨w.heap.size, 65 - l.length + j, none⟩ = some (.int .u8 (l[j].toNat : Int))) :
    Digs w (wr.setCell ⟨w.heap.size, i.toNat - 1, none⟩ (.int .u8 (d.toNat : Int))) n u' (i - 1) := by
  obtain ⟨r1, r2⟩ := h.room hn
  obtain ⟨l, rfl, hi, e, hc⟩ := hl0
  obtain ⟨v, hv⟩ := h.row (i.toNat - 1) (by omega)
  refine ⟨Below.setCell h.below (Nat.le_refl _) _, fun j hj => ?_, fun j => by rw [World.frozen?_setCell]; exact h.free j, d :: l, by simp; omega, e.trans he, fun j hj => ?_⟩
  · by_cases q : j = i.toNat - 1
    · subst q
      exact ⟨_, World.cell?_setCell_same _ _ _ hv⟩
    · rw [World.cell?_setCell_other _ _ _ _ (by intro g; injection g with _ g; omega)]
      exact h.row j hj
  · have e1 : 65 - (d :: l).length = i.toNat - 1 := by simp; omega
    rw [e1]
    cases j with
    | zero => exact World.cell?_setCell_same _ _ _ hv
    | succ j =>
      have hj' : j < l.length := by simpa using hj
      rw [World.cell?_setCell_other _ _ _ _ (by intro g; injection g with _ g; omega), show i.toNat - 1 + (j + 1) = 65 - l.length + j by omega]
      exact hc j hj'
theorem Digs.step {w wr : World} {n u : Nat} {i : Int} (h : Digs w wr n u i) (hn : n < 18446744073709551616) (hu : 16 ≤ u) (hu2 : u < 18446744073709551616) :
    Digs w (wr.setCell ⟨w.heap.size, i.toNat - 1, none⟩ (.int .u8 ((hexD (u % 16)).toNat : Int))) n (u / 16) (i - 1) := by
  obtain ⟨l, h1, h2, h3⟩ := h.digs
  exact h.put hn (hexD (u % 16)) l (u / 16) (by rw [hexS_ge (by omega) hu2, List.append_assoc]; rfl) ⟨l, rfl, h1, h2, h3⟩
/-- the last digit: all stand there -/
theorem Digs.last {w wr : World} {n u : Nat} {i : Int} (h : Digs w wr n u i) (hn : n < 18446744073709551616) (hu : u < 16) :
    (hexS n).length = 65 - (i.toNat - 1) ∧ ∀ j (hj : j < (hexS n).length), (wr.setCell ⟨w.heap.size, i.toNat - 1, none⟩ (.int .u8 ((hexD u).toNat : Int))).cell? ⟨w.heap.size, i.toNat - 1 + j, none⟩ = some (.int .u8 ((hexS n)[j].toNat : Int)) := by
  obtain ⟨r1, r2⟩ := h.room hn
  obtain ⟨l, h1, h2, h3⟩ := h.digs
  rw [hexS_lt hu] at h2
  have e : hexS n = hexD u :: l := h2
  obtain ⟨v, hv⟩ := h.row (i.toNat - 1) (by omega)
  refine ⟨by rw [e]; simp; omega, ?_⟩
  simp only [e]
  intro j hj
  cases j with
  | zero => exact World.cell?_setCell_same _ _ _ hv
  | succ j =>
    have hj' : j < l.length := by simpa using hj
    rw [World.cell?_setCell_other _ _ _ _ (by intro g; injection g with _ g; omega), show i.toNat - 1 + (j + 1) = 65 - l.length + j by omega]
    exact h3 j hj'

set_option maxHeartbeats 8000000 in
set_option maxRecDepth 100000 in
theorem formatBits16 (n : Nat) (w : World) (hn : n < 18446744073709551616) (hT : Tabs w) :
    Calls Tryz.prog 92 #[.slice none 0 0, .int .u64 n, .int .i64 16, .bool false, .bool false] w fun e w' => e = .returned (.tuple #[.slice none 0 0, .string ⟨(hexS n).toArray⟩]) ∧ Below w.heap.size w w' := by
  have hdb : ∀ o : Obj, (w.alloc o).cell? ⟨7, 15, none⟩ = some (.int .u8 4) := fun o => cell_on hT.db (Below.alloc (Below.refl _ _) (Nat.le_refl _) o)
  have HDB := Lib.hid hdb
  have HN := Lib.hid hn
  clear hn hdb hT
  obtain ⟨z, hz⟩ : ∃ z : Int, z = n := ⟨_, rfl⟩
  rw [← hz]
  have hz0 : 0 ≤ z := by omega
  have hz1 : z < 18446744073709551616 := by have := HN.out; omega
  have HZ := Lib.hid hz
  clear hz
  have hp : bits BinOp.and IntKind.i64 16 15 = 0 := by decide +kernel
  go_enter Tryz.func92, Tryz.ntmps92
  go_wp2_with (first | (go_at_call 109; refine (tz16 _ (HDB.out _)).mono ?_; rintro e w' ⟨rfl, rfl⟩) | go_in)
  go_loopw [1, 13] (fun vu vi wr => ∃ (u i : Int), vu = .int .u64 u ∧ vi = .int .i64 i ∧ 0 ≤ u ∧ u < 18446744073709551616 ∧ 50 ≤ i ∧ i ≤ 65 ∧ Hid (∃ k : Nat, u = k ∧ Digs w wr n k i)) (fun vu _ _ => (intOf vu).toNat)
  case atStart =>
    refine ⟨z, 65, rfl, rfl, hz0, hz1, by omega, by omega, n, HZ.out, ?_⟩
    have hsz : Tryz.zeroCells134.size = 65 := by decide +kernel
    refine ⟨Below.alloc (Below.refl _ _) (Nat.le_refl _) _, fun j hj => ?_, fun j => World.frozen?_alloc_new _ _ _ _, [], by simp, by simp, fun j hj => absurd hj (by simp)⟩
    rw [World.cell?_alloc_new, Array.getElem?_eq_getElem (by omega)]
    exact ⟨_, rfl⟩
  case round =>
    obtain ⟨u, i, rfl, rfl, hu0, hu1, hi0, hi1, HD⟩ := hrel
    have hix : ∀ W, (Instr.index 9 (.string d36) (.int .u64 (u % 16))).run Tryz.prog W = .ok (.int .u8 (hexD (u % 16).toNat).toNat) W := fun W => d36_index (u % 16) W (by omega) (by omega)
    obtain ⟨v, hv⟩ : ∃ v, wr.cell? ⟨w.heap.size, i.toNat - 1, none⟩ = some v := by obtain ⟨k, -, h⟩ := HD.out; exact h.row _ (by omega)
    have hf : wr.frozen? ⟨w.heap.size, i.toNat - 1, none⟩ = false := by obtain ⟨k, -, h⟩ := HD.out; exact h.free _
    by_cases h16 : 16 ≤ u
    · have ha := and_15 u hu0 hu1
      unfold d36 at hix
      go_wp2
      refine ⟨⟨u / 16, i - 1, rfl, rfl, by omega, by omega, ?_⟩, by simp [intOf]; omega⟩
      obtain ⟨k, rfl, h⟩ := HD.out
      have h' := h.step HN.out (by omega) (by omega)
      have hr := h'.room HN.out
      rw [show k % 16 = ((k : Int) % 16).toNat by omega] at h'
      exact ⟨hr.1, hr.2, k / 16, by omega, h'⟩
    · rw [show u % 16 = u by omega] at hix
      unfold d36 at hix
      have hal : Tryz.prog.arrayLen 134 = 65 := by kernel_rfl
      have hsl : ∀ W, (Instr.sliceAt 134 (.pointer (some ⟨w.heap.size, 0, none⟩)) (some (.int .i64 (i - 1))) none none).run Tryz.prog W = .ok (.slice (some ⟨w.heap.size, i.toNat - 1, none⟩) (65 - (i.toNat - 1)) (65 - (i.toNat - 1))) W := fun W => by
        rw [run_sliceAt_array_l W 134 ⟨w.heap.size, 0, none⟩ (by kernel_rfl) .i64 (i - 1) (by omega) (by rw [hal]; omega)]
        go_simp
        omega
      have hcv : (convert 55 9 (.slice (some ⟨w.heap.size, i.toNat - 1, none⟩) (65 - (i.toNat - 1)) (65 - (i.toNat - 1)))).run Tryz.prog (wr.setCell ⟨w.heap.size, i.toNat - 1, none⟩ (.int .u8 ((hexD u.toNat).toNat : Int))) = .ok (.string ⟨(hexS n).toArray⟩) (wr.setCell ⟨w.heap.size, i.toNat - 1, none⟩ (.int .u8 ((hexD u.toNat).toNat : Int))) := by
        obtain ⟨k, rfl, h⟩ := HD.out
        obtain ⟨hl, hc⟩ := h.last HN.out (by omega)
        rw [← hl]
        exact run_convert_bytes_back (P := Tryz.prog) _ 55 9 5 ⟨w.heap.size, i.toNat - 1, none⟩ _ (hexS n) Tryz.underlying55 Tryz.underlying5 Tryz.underlying9 (fun j hj => by rw [Lib.add_plain]; exact hc j hj)
      clear hal
      go_wp2
      go_ret2
      refine ⟨rfl, ?_⟩
      obtain ⟨k, -, h⟩ := HD.out
      exact Below.setCell h.below (Nat.le_refl _) _
end Go.Proofs.YtlnobfmbnnfbdaaGreatDoor
