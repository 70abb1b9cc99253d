import Derived.Test.YtlkldgopliablaaGreatDoorD3
import Derived.Test.YtlkldgopliablaaGreatDoorD4
import Derived.Test.YtlkldgopliablaaGreatDoorD5
namespace Go.Proofs.YtlkldgopliablaaGreatDoor.Sd
open Go.ChangeShapes Go.WideShapes Go.ChangeAt Go.RowKit

/-- numbers, wherever they lie -/
def IntsAt (w : World) (p : Option Addr) (n : Nat) (x : Nat → Int) : Prop :=
  ∀ i, i < n → ∃ g o, p = some ⟨g, o, none⟩ ∧ g < w.heap.size ∧ w.cell? ⟨g, o + i, none⟩ = some (.int .i64 (x i))
theorem IntsAt.on {w w' : World} {p : Option Addr} {n : Nat} {x : Nat → Int} (h : IntsAt w p n x) (k : Below w.heap.size w w') : IntsAt w' p n x := fun i hi => by
  obtain ⟨g, o, h1, h2, h3⟩ := h i hi
  exact ⟨g, o, h1, Nat.lt_of_lt_of_le h2 k.size, (k.cell (p := ⟨g, o + i, none⟩) h2).trans h3⟩
theorem IntsAt.take {w : World} {p : Option Addr} {n : Nat} {x : Nat → Int} (h : IntsAt w p n x) {m : Nat} (hm : m ≤ n) : IntsAt w p m x := fun i hi => h i (Nat.lt_of_lt_of_le hi hm)
theorem IntsAt.cong {w : World} {p : Option Addr} {n : Nat} {x y : Nat → Int} (h : IntsAt w p n x) (k : ∀ i, i < n → x i = y i) : IntsAt w p n y := fun i hi => by rw [← k i hi]; exact h i hi
theorem _root_.Go.Proofs.YtlkldgopliablaaGreatDoor.RowAt.ints {w : World} {p : Option Addr} {c : Nat} {l : List Int} (h : RowAt 3 w p c (i64s l)) : IntsAt w p l.length (fun i => l.getD i 0) := by
  intro i hi
  have ho := h.own
  rw [i64s_len] at ho
  rcases ho.2 with ⟨_, q⟩ | ⟨g, cap, cur, hv, _, hg, _⟩
  · omega
  · cases hv
    refine ⟨g, 0, rfl, lt_of_block hg, ?_⟩
    rw [Nat.zero_add, ho.cellAt i (by omega)]
    simp [i64s, hi]
theorem iMake (n : Nat) (hn : n ≤ 65536) (w : World) : (Instr.makeSlice 36 (.int .i64 (n : Int)) (.int .i64 (n : Int))).run Tryz.prog w = .ok (.slice (some ⟨w.heap.size, 0, none⟩) n n) (w.alloc (.cells (i64s (List.replicate n 0)).toArray 3)) := by
  obtain ⟨i, hi, hz0, hz1, hz2⟩ := info_parts iInfo
  rw [run_make w 36 3 i (.int .i64 0) Tryz.underlying36 hi hz0 .i64 .i64 n n (by omega) (Int.le_refl _) (by rw [hz2]; omega) (by omega)]
  have e : (madeCells (.int .i64 0 : Value).cells (((n : Int)).toNat * i.size)) = (i64s (List.replicate n 0)).toArray := by
    rw [hz1, Nat.mul_one, Int.toNat_natCast]
    apply Array.toList_inj.1
    rw [show (.int .i64 0 : Value).cells = #[.int .i64 0] from rfl, toList_madeCells_one]
    simp [i64s]
  rw [e, Int.toNat_natCast]
theorem row_put {E : TypeId} {w : World} {g c : Nat} {xs : List Value} (h : RowAt E w (some ⟨g, 0, none⟩) c xs) (i : Nat) (z : Value) : RowAt E (w.setCell ⟨g, i, none⟩ z) (some ⟨g, 0, none⟩) c (xs.set i z) ∧ Turn [g] [g] w (w.setCell ⟨g, i, none⟩ z) := by
  obtain ⟨hs, _⟩ := h.own.stored i z
  refine ⟨⟨?_⟩, turn_set w g i z⟩
  rw [List.length_set]
  exact hs
theorem row_get {E : TypeId} {w : World} {g c : Nat} {xs : List Value} (h : RowAt E w (some ⟨g, 0, none⟩) c xs) {j : Nat} {v : Value} (hv : xs[j]? = some v) : w.cell? ⟨g, j, none⟩ = some v ∧ w.frozen? ⟨g, j, none⟩ = false ∧ g < w.heap.size := by
  rcases h.own.2 with ⟨q, _⟩ | ⟨g', cap, cur, hq, _, hg, _⟩
  · cases q
  · cases hq
    refine ⟨?_, frozen_of_row w g j _ _ hg, lt_of_block hg⟩
    have := World.ownsRow.cells h.own (g := g) rfl j v hv
    rwa [show (⟨g, 0, none⟩ : Addr).add j = ⟨g, j, none⟩ by unfold Addr.add; split <;> simp_all] at this
theorem tmod_range (n t : Int) (h1 : 1 ≤ t) : -t < n.tmod t ∧ n.tmod t < t := by
  refine ⟨?_, Int.tmod_lt_of_pos n (by omega)⟩
  have h := Int.tmod_lt_of_pos (-n) (b := t) (by omega)
  rw [Int.neg_tmod] at h
  omega
theorem tmod_emod' (n t : Int) : n.tmod t % t = n % t := by
  have h := Int.mul_tdiv_add_tmod n t
  conv => rhs; rw [← h]
  rw [Int.mul_add_emod_self_left]
theorem tmod_neg (n t : Int) (h1 : 1 ≤ t) (h : n.tmod t < 0) : n.tmod t + t = n % t := by
  have r := tmod_range n t h1
  have e : (n.tmod t + t) % t = n.tmod t % t := by simp
  rw [← tmod_emod' n t, ← e]
  exact (Int.emod_eq_of_lt (by omega) (by omega)).symm
theorem tmod_pos (n t : Int) (h1 : 1 ≤ t) (h : 0 ≤ n.tmod t) : n.tmod t = n % t := by
  have r := tmod_range n t h1
  rw [← tmod_emod' n t]
  exact (Int.emod_eq_of_lt (by omega) (by omega)).symm
theorem fold_mod (n t : Int) (h1 : 1 ≤ t) : (n.tmod t + t).tmod t = n % t := by
  have r := tmod_range n t h1
  have e : (n.tmod t + t) % t = n.tmod t % t := by simp
  rw [Int.tmod_eq_emod_of_nonneg (by omega), e, tmod_emod']
theorem fold_any (n t : Int) (h1 : 1 ≤ t) (h8 : t ≤ 8) (w : World) : Calls Tryz.prog 79 #[.int .i64 n, .int .i64 t] w fun e w' => e = .returned (.int .i64 (n % t)) ∧ w' = w := by
  have r := tmod_range n t h1
  have e : (wrap64 (n.tmod t + t)).tmod t = n % t := by
    rw [Go.IntWalk.wrap64_in _ ⟨by omega, by omega⟩]
    exact fold_mod n t h1
  have HE := Lib.hid e
  clear e r
  go_enter Tryz.func79, Tryz.ntmps79
  go_wp2
  go_ret
  exact ⟨by rw [HE.out]; rfl, rfl⟩
/-- the first i are y's, the others 0 -/
def mix (y : Nat → Int) (n i : Nat) : List Int := (List.range n).map fun k => if k < i then y k else 0
theorem mix_len (y : Nat → Int) (n i : Nat) : (mix y n i).length = n := by simp [mix]
theorem mix_zero (y : Nat → Int) (n : Nat) : List.replicate n 0 = mix y n 0 := by
  apply List.ext_getElem
  · simp [mix]
  · intro k h1 h2
    simp [mix]
theorem mix_set (y : Nat → Int) (n i : Nat) : (mix y n i).set i (y i) = mix y n (i + 1) := by
  apply List.ext_getElem
  · simp [mix]
  · intro k h1 h2
    rw [List.getElem_set]
    by_cases h : i = k
    · subst h
      simp [mix]
    · have e : (k < i + 1) = (k < i) := by simp; omega
      simp [mix, h, e]
theorem i64s_set (l : List Int) (i : Nat) (x : Int) : (i64s l).set i (.int .i64 x) = i64s (l.set i x) := by simp [i64s, List.map_set]
theorem mix_ints {w : World} {p : Option Addr} {c n i : Nat} {y : Nat → Int} (h : RowAt 3 w p c (i64s (mix y n i))) (hi : i = n) : IntsAt w p n y := by
  have q := h.ints
  rw [mix_len] at q
  exact q.cong (fun k hk => by simp [mix, List.getD, hk]; intro z; omega)
theorem row_made (w : World) (n : Nat) (hn : n ≤ 65536) (y : Nat → Int) : RowAt 3 (w.alloc (.cells (i64s (List.replicate n 0)).toArray 3)) (some ⟨w.heap.size, 0, none⟩) n (i64s (mix y n 0)) := by
  rw [mix_zero y n]
  refine ⟨?_⟩
  rw [i64s_len, mix_len]
  exact World.ownsRow_lit w _ n (Nat.zero_le _) (by unfold maxLen; omega) (by rw [List.size_toArray, i64s_len, mix_len, Nat.mul_one])
section
variable {w : World} {p : Option Addr} {n c : Nat} {x : Nat → Int} {t : Int}
set_option maxRecDepth 100000 in
theorem Fold_no (t : Int) (ht : mayT t = false) (v : Value) : Calls Tryz.prog 39 #[v, .int .i64 t] w fun e w' => e = .returned (.tuple #[.slice none 0 0, .int .i64 1]) ∧ w' = w := by
  have H1 := Lib.hid (mayBe_any t)
  rw [ht] at H1
  clear ht
  go_enter Tryz.func39, Tryz.ntmps39
  go_wp2_with (go_at_call 78; refine (H1.out _).mono ?_; rintro e w1 ⟨rfl, hw⟩; subst w1)
  go_ret2
  exact ⟨rfl, rfl⟩
set_option maxRecDepth 100000 in
theorem Fold_long (t : Int) (ht : mayT t = true) (hn : 65536 < n) : Calls Tryz.prog 39 #[.slice p n c, .int .i64 t] w fun e w' => e = .returned (.tuple #[.slice none 0 0, .int .i64 2]) ∧ w' = w := by
  have H1 := Lib.hid (mayBe_any t)
  rw [ht] at H1
  clear ht
  have hn' : (65536 : Int) < (n : Int) := by omega
  go_enter Tryz.func39, Tryz.ntmps39
  go_wp2_with (go_at_call 78; refine (H1.out _).mono ?_; rintro e w1 ⟨rfl, hw⟩; subst w1)
  go_ret2
  exact ⟨rfl, rfl⟩
set_option maxHeartbeats 1000000 in
set_option maxRecDepth 100000 in
theorem Fold_yes (h1 : 1 ≤ t) (h8 : t ≤ 8) (hn : n ≤ 65536) (hx : IntsAt w p n x) : Calls Tryz.prog 39 #[.slice p n c, .int .i64 t] w fun e w' => ∃ g, e = .returned (.tuple #[.slice (some ⟨g, 0, none⟩) n n, .int .i64 0]) ∧ g = w.heap.size ∧ RowAt 3 w' (some ⟨g, 0, none⟩) n (i64s (mix (fun i => x i % t) n n)) ∧ Below w.heap.size w w' := by
  have H1 := Lib.hid (mayBe_any t)
  have ht : mayT t = true := decide_eq_true ⟨h1, h8⟩
  rw [ht] at H1
  clear ht
  have hn' : ¬ (65536 : Int) < (n : Int) := by omega
  have HX := Lib.hid hx
  have hmk := iMake n hn w
  have HR := Lib.hid (row_made w n hn (fun i => x i % t))
  have HB := Lib.hid ((Below.refl w.heap.size w).alloc (Nat.le_refl _) (.cells (i64s (List.replicate n 0)).toArray 3))
  have HF := Lib.hid (fun a w => fold_any a t h1 h8 w)
  clear hx
  generalize hWW : w.alloc (.cells (i64s (List.replicate n 0)).toArray 3) = w0 at hmk HR HB
  clear hWW
  obtain ⟨g, hg⟩ : ∃ g, g = w.heap.size := ⟨_, rfl⟩
  rw [← hg] at hmk HR
  have HG := Lib.hid hg
  clear hg
  go_enter Tryz.func39, Tryz.ntmps39
  go_wp2_with (go_at_call 78; refine (H1.out _).mono ?_; rintro e w1 ⟨rfl, hw⟩; subst w1)
  go_loopw [20] (fun vi wr => ∃ i : Nat, vi = .int .i64 i ∧ i ≤ n ∧ Hid (RowAt 3 wr (some ⟨g, 0, none⟩) n (i64s (mix (fun i => x i % t) n i)) ∧ Below w.heap.size w wr)) (fun vi _ => n - (intOf vi).toNat)
  case atStart => exact ⟨0, rfl, Nat.zero_le _, HR.out, HB.out⟩
  case round =>
    obtain ⟨i, rfl, hi, HQ⟩ := hrel
    by_cases hlt : i < n
    · have hlt' : (i : Int) < (n : Int) := by omega
      obtain ⟨ga, oa, hpa, ga1, hca⟩ := HX.out i hlt
      subst hpa
      rw [← HQ.out.2.cell (p := ⟨ga, oa + i, none⟩) ga1] at hca
      have ga2 := Nat.lt_of_lt_of_le ga1 HQ.out.2.size
      obtain ⟨j1, j2, j3⟩ := row_get HQ.out.1 (j := i) (v := .int .i64 0) (by simp [i64s, mix, hlt])
      have HN : Hid (RowAt 3 (wr.setCell ⟨g, i, none⟩ (.int .i64 (x i % t))) (some ⟨g, 0, none⟩) n (i64s (mix (fun i => x i % t) n (i + 1))) ∧ Below w.heap.size w (wr.setCell ⟨g, i, none⟩ (.int .i64 (x i % t)))) := by
        obtain ⟨q1, q2⟩ := row_put HQ.out.1 i (.int .i64 (x i % t))
        rw [i64s_set, mix_set (fun i => x i % t)] at q1
        exact ⟨q1, HQ.out.2.trans (q2.below (fun k hk => by simp at hk; have := HG.out; omega) HQ.out.2.size)⟩
      clear HQ HR HB hmk HX ga1
      generalize x i = y at hca HN
      go_wp2_with (go_at_call 79; refine (HF.out _ _).mono ?_; rintro e w1 ⟨rfl, hw⟩; subst w1)
      exact ⟨⟨i + 1, by first | rfl | (congr 1), by omega, HN⟩, by simp [intOf]; omega⟩
    · have hlt' : ¬ (i : Int) < (n : Int) := by omega
      obtain rfl : i = n := by omega
      clear hmk
      go_wp2
      go_ret2
      exact ⟨_, rfl, HG.out, HQ.out.1, HQ.out.2⟩
end
end Go.Proofs.YtlkldgopliablaaGreatDoor.Sd
