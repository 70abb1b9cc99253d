import Derived.Test.YtifiebgmjpjakaaD6
namespace Go.Proofs.Ytifiebgmjpjakaa
open Go.ChangeShapes Go.WideShapes Go.ChangeAt Go.RowKit

section
variable {w : World} {p : Option Addr} {n c : Nat} {x : Nat → Int} {t : Int}
set_option maxRecDepth 100000 in
theorem rFold_no (t : Int) (ht : mayT t = false) (v : Value) : Calls Try.prog 12 #[v, .int .i64 t] w fun e w' => e = .returned (.tuple #[.slice none 0 0, .int .i64 1]) ∧ w' = w := by
  have ht := of_decide_eq_false ht
  by_cases h1 : t < 1
  · clear ht
    go_enter Try.func12, Try.ntmps12
    go_wp2
    go_ret2
    exact ⟨rfl, rfl⟩
  · have h2 : 8 < t := by omega
    clear ht
    go_enter Try.func12, Try.ntmps12
    go_wp2
    go_ret2
    exact ⟨rfl, rfl⟩
set_option maxRecDepth 100000 in
theorem rFold_long (t : Int) (h1 : 1 ≤ t) (h8 : t ≤ 8) (hn : 65536 < n) : Calls Try.prog 12 #[.slice p n c, .int .i64 t] w fun e w' => e = .returned (.tuple #[.slice none 0 0, .int .i64 2]) ∧ w' = w := by
  have hn' : (65536 : Int) < (n : Int) := by omega
  go_enter Try.func12, Try.ntmps12
  go_wp2
  go_ret2
  exact ⟨rfl, rfl⟩
def upto (x : Nat → Int) (n : Nat) : List Int := (List.range n).map x
theorem upto_len (x : Nat → Int) (n : Nat) : (upto x n).length = n := by simp [upto]
theorem upto_snoc (x : Nat → Int) (n : Nat) : upto x (n + 1) = upto x n ++ [x n] := by simp [upto, List.range_succ]
theorem upto_at (x : Nat → Int) (n i : Nat) (h : i < n) : (upto x n)[i]? = some (x i) := by simp [upto, h]
theorem mix_full (y : Nat → Int) (n : Nat) : mix y n n = upto y n := by
  apply List.ext_getElem
  · simp [mix, upto]
  · intro k h1 h2
    simp [mix] at h1
    simp [mix, upto, h1]
theorem RowAt.upto {w : World} {p : Option Addr} {c n : Nat} {x : Nat → Int} (h : RowAt 3 w p c (i64s (upto x n))) : IntsAt w p n x := by
  have q := h.ints
  rw [upto_len] at q
  exact q.cong (fun i hi => by simp [List.getD, upto_at x n i hi])
set_option maxHeartbeats 1000000 in
set_option maxRecDepth 100000 in
theorem rFold_yes (h1 : 1 ≤ t) (h8 : t ≤ 8) (hn : n ≤ 65536) (hx : IntsAt w p n x) : Calls Try.prog 12 #[.slice p n c, .int .i64 t] w fun e w' => ∃ q d, e = .returned (.tuple #[.slice q n d, .int .i64 0]) ∧ RowAt 3 w' q d (i64s (upto (fun i => x i % t) n)) ∧ Abv w.heap.size (fpR q) ∧ Below w.heap.size w w' := by
  have hn' : ¬ (65536 : Int) < (n : Int) := by omega
  have HX := Lib.hid hx
  obtain ⟨i0, hi, hz0, hz1, hz2⟩ := info_parts iInfo
  have HZI := Lib.hid (And.intro hi (And.intro hz0 (And.intro hz1 hz2)))
  clear hx hi hz0 hz1 hz2
  go_enter Try.func12, Try.ntmps12
  go_wp2
  go_loopw [6, 7] (fun vl vi wr => ∃ (i : Nat) (q : Option Addr) (k d : Nat), vl = .slice q k d ∧ vi = .int .i64 i ∧ i ≤ n ∧ k = (upto (fun i => x i % t) i).length ∧ Hid (Grow w.heap.size w wr q d (upto (fun i => x i % t) i))) (fun _ vi _ => n - (intOf vi).toNat)
  case atStart => exact ⟨0, none, 0, 0, rfl, rfl, Nat.zero_le _, rfl, grow_nil (Below.refl _ _)⟩
  case round =>
    obtain ⟨i, q, k, d, rfl, rfl, hi, hkk, HQ⟩ := hrel
    by_cases hlt : i < n
    · have hlt' : (i : Int) < (n : Int) := by omega
      obtain ⟨ga, oa, hpa, ga1, hca⟩ := HX.out i hlt
      subst hpa
      rw [← HQ.out.below.cell (p := ⟨ga, oa + i, none⟩) ga1] at hca
      have ga2 := Nat.lt_of_lt_of_le ga1 HQ.out.below.size
      have e : upto (fun i => x i % t) (i + 1) = upto (fun i => x i % t) i ++ [x i % t] := upto_snoc _ _
      have HLE : Hid ((upto (fun i => x i % t) i).length ≤ 65536) := Lib.hid (by rw [upto_len]; omega)
      have HSZ : Hid (w.heap.size ≤ wr.heap.size) := HQ.out.below.size
      generalize upto (fun i => x i % t) i = l at HQ HLE e hkk
      subst hkk
      generalize x i = y at hca e
      have HO : Hid (∀ u, Same wr u → u.ownsRow w.heap.size 3 1 (.slice q l.length d) l.length (i64s l)) := fun u hu => (HQ.out.same hu).own
      clear HX ga1
      by_cases hy : y.tmod t < 0
      · have HE : Hid (wrap64 (y.tmod t + t) = y % t) := by
          have r := tmod_range y t h1
          show wrap64 (y.tmod t + t) = y % t
          rw [Go.IntWalk.wrap64_in _ ⟨by omega, by omega⟩]
          exact tmod_neg y t h1 hy
        go_wp2_with (at_builtin; refine wpList_append_own_at _ rfl _ _ 26 rfl w.heap.size 3 i0 (.int .i64 0) 1 8 Try.underlying26 HZI.out.1 HZI.out.2.1 HZI.out.2.2.1 HZI.out.2.2.2 rfl (by decide) _ l.length (i64s l) rfl (World.ownsRow.alloc (HO.out _ (by first | exact Same.refl _ | exact Same.drew _ | exact Same.drewN _ _)) _) ⟨wr.heap.size, 0, none⟩ 1 1 [Value.int .i64 (wrap64 (y.tmod t + t))] rfl rfl (cell_one_new _ _ _) (fun u hu => by simp at hu; subst hu; rfl) (by have := HLE.out; unfold maxLen; omega) (by have := HLE.out; omega) (by have := HSZ.out; simp; omega) ?_; intro v3 w3 hown3 hgrow3 hnil3 hat3; obtain ⟨p', c', hv3, q1⟩ := HQ.out.app HSZ.out hown3 hgrow3; subst hv3; rw [HE.out] at q1; have HQ3 := Lib.hid q1; clear hown3 hgrow3 hnil3 hat3 q1 HO)
        exact ⟨⟨i + 1, p', _, c', rfl, by first | rfl | (congr 1), by omega, by rw [e]; simp, by rw [e]; exact HQ3⟩, by simp [intOf]; omega⟩
      · have HE : Hid (y.tmod t = y % t) := tmod_pos y t h1 (by omega)
        go_wp2_with (at_builtin; refine wpList_append_own_at _ rfl _ _ 26 rfl w.heap.size 3 i0 (.int .i64 0) 1 8 Try.underlying26 HZI.out.1 HZI.out.2.1 HZI.out.2.2.1 HZI.out.2.2.2 rfl (by decide) _ l.length (i64s l) rfl (World.ownsRow.alloc (HO.out _ (by first | exact Same.refl _ | exact Same.drew _ | exact Same.drewN _ _)) _) ⟨wr.heap.size, 0, none⟩ 1 1 [Value.int .i64 (y.tmod t)] rfl rfl (cell_one_new _ _ _) (fun u hu => by simp at hu; subst hu; rfl) (by have := HLE.out; unfold maxLen; omega) (by have := HLE.out; omega) (by have := HSZ.out; simp; omega) ?_; intro v3 w3 hown3 hgrow3 hnil3 hat3; obtain ⟨p', c', hv3, q1⟩ := HQ.out.app HSZ.out hown3 hgrow3; subst hv3; rw [HE.out] at q1; have HQ3 := Lib.hid q1; clear hown3 hgrow3 hnil3 hat3 q1 HO)
        exact ⟨⟨i + 1, p', _, c', rfl, by first | rfl | (congr 1), by omega, by rw [e]; simp, by rw [e]; exact HQ3⟩, by simp [intOf]; omega⟩
    · have hlt' : ¬ (i : Int) < (n : Int) := by omega
      obtain rfl : i = n := by omega
      rw [upto_len] at hkk
      subst hkk
      go_wp2
      go_ret2
      exact ⟨_, _, rfl, HQ.out.row.1, HQ.out.row.2, HQ.out.below⟩
end
/-! append, whatever it comes to -/
section
variable {P : Program} {w : World}
theorem wp_append_ex {o : Oper} {a : Act} {K : Act → World → Prop} {Q : Exit → Act → World → Prop} (s x : Operand) (t tx : TypeId)
    (ho : o.op = .call { callee := .builtin .append, args := #[s, x], argTypes := #[t, tx] }) (vs vx : Value) (hs : a.eval s = vs) (hx : a.eval x = vx) {R : Value → World → Prop}
    (hr : ∃ v w', (Builtin.append_ #[t, tx] o.type #[vs, vx]).run P w = .ok v w' ∧ R v w') (h : ∀ v w', R v w' → K (a.put o.dst v) w') : o.wp P a w K Q := by
  obtain ⟨v, w', hr, hR⟩ := hr
  unfold Oper.wp execOp
  simp only [ho, resolve, invoke, builtin, Sem.run_bind, Sem.run_pure, Result.andThen_ok, List.map_toArray, List.map_cons, List.map_nil, hs, hx, hr]
  exact h v w' hR
theorem wpList_append_ex {ops : Array Oper} {rest : List Oper} {o : Oper} {a : Act} {Q : Exit → Act → World → Prop} (hgd : o.guard = none) (s x : Operand) (t tx : TypeId)
    (ho : o.op = .call { callee := .builtin .append, args := #[s, x], argTypes := #[t, tx] }) (vs vx : Value) (hs : a.eval s = vs) (hx : a.eval x = vx) {R : Value → World → Prop}
    (hr : ∃ v w', (Builtin.append_ #[t, tx] o.type #[vs, vx]).run P w = .ok v w' ∧ R v w') (h : ∀ v w', R v w' → wpList P ops Q rest (a.put o.dst v) w') : wpList P ops Q (o :: rest) a w :=
  wpList_plain hgd fun _ hK => wp_append_ex s x t tx ho vs vx hs hx hr fun v w' hR => hK _ _ (h v w' hR)
end
theorem ownsRow_row {w : World} {B : Nat} {p : Option Addr} {c : Nat} (h : w.ownsRow B 3 1 (.slice p 0 c) 0 []) : RowAt 3 w p c (i64s []) := ⟨⟨h.1, h.2.imp id (fun ⟨g, cap, cur, a1, _, a3⟩ => ⟨g, cap, cur, a1, Nat.zero_le _, a3⟩)⟩⟩
/-- append([]int{}, script...) -/
theorem app_ints {w : World} {p : Option Addr} {n c b : Nat} {x : Nat → Int} (hx : IntsAt w p n x) (hp : p = none → n = 0) (hz : n * 8 ≤ 140737488355328) (hb : b = w.heap.size) (ty : TypeId) : ∃ v w', (Builtin.append_ #[26, 26] ty #[.slice (some ⟨b, 0, none⟩) 0 0, .slice p n c]).run Try.prog (w.alloc (.cells #[] 3)) = .ok v w' ∧ (∃ p' c', v = .slice p' n c' ∧ RowAt 3 w' p' c' (i64s (upto x n)) ∧ Abv w.heap.size (fpR p') ∧ Below w.heap.size w w') := by
  obtain ⟨i, hi, hz0, hz1, hz2⟩ := info_parts iInfo
  subst hb
  have hB := (Below.refl w.heap.size w).alloc (Nat.le_refl _) (.cells #[] 3)
  have h0 : (w.alloc (.cells #[] 3)).ownsRow w.heap.size 3 1 (.slice (some ⟨w.heap.size, 0, none⟩) 0 0) 0 [] := World.ownsRow_lit (base := w.heap.size) w #[] 0 (Nat.le_refl _) (Nat.zero_le _) rfl
  cases p with
  | none =>
    obtain rfl : n = 0 := hp rfl
    refine ⟨.slice (some ⟨w.heap.size, 0, none⟩) 0 0, _, ?_, some ⟨w.heap.size, 0, none⟩, 0, rfl, (ownsRow_row h0), fun x hx => by simp [fpR] at hx; omega, hB⟩
    simp [Builtin.append_, run_underlying Try.underlying26, Builtin.lenOf, Builtin.firstCells, sizeOf, typeInfo, hi, storeCells]
  | some ad =>
    obtain ⟨v, w', h1, h2, h3, _, h5⟩ := run_append_own_at (P := Try.prog) (w := w.alloc (.cells #[] 3)) w.heap.size 26 ty 3 i (.int .i64 0) 1 8 Try.underlying26 hi hz0 hz1 hz2 rfl (by decide) (.slice (some ⟨w.heap.size, 0, none⟩) 0 0) 0 [] h0 ad n c (i64s (upto x n)) (by rw [i64s_len, upto_len, Nat.mul_one]) (fun j u hu => by
      have hj : j < n := by
        have := (List.getElem?_eq_some_iff.1 hu).1
        rwa [i64s_len, upto_len] at this
      have hu' : u = .int .i64 (x j) := by
        simp [i64s, upto_at x n j hj] at hu
        exact hu.symm
      obtain ⟨g, o, e, hg, hc⟩ := hx j hj
      cases e
      rw [Go.WideShapes.add_plain, hu']
      exact (hB.cell (p := ⟨g, o + j, none⟩) hg).trans hc) (fun v hv => by
      unfold i64s at hv
      obtain ⟨z, _, rfl⟩ := List.mem_map.1 hv
      rfl) (by unfold maxLen; omega) (by omega) (by simp)
    rw [List.nil_append, Nat.zero_add] at h2
    obtain ⟨p', c', rfl, hr, ha⟩ := ownsRow_based h2
    refine ⟨_, w', h1, p', c', by rw [i64s_len, upto_len], hr, ha, ?_⟩
    exact hB.grown h3 (by simp) (fun j hj => by simp [Value.ownBlock] at hj; omega)
end Go.Proofs.Ytifiebgmjpjakaa
