import Derived.Test.YtifiebgmjpjakaaD2
namespace Go.Proofs.Ytifiebgmjpjakaa
open Go.ChangeShapes Go.WideShapes Go.ChangeAt Go.RowKit

theorem iInfo : (Try.prog.info? 3).map (fun i => (i.zero, i.size, i.bytes)) = some (some (.int .i64 0), 1, 8) := by kernel_rfl
/-- a list of numbers that grows, new since B -/
structure Grow (B : Nat) (W w : World) (p : Option Addr) (c : Nat) (l : List Int) : Prop where
  own : w.ownsRow B 3 1 (.slice p l.length c) l.length (i64s l)
  below : Below B W w
section
variable {B : Nat} {W w : World} {p : Option Addr} {c : Nat} {l : List Int}
theorem grow_nil (h : Below B W w) : Grow B W w none 0 [] := ⟨World.ownsRow_nil _ _ _ _, h⟩
theorem Grow.app {o : Obj} {w3 : World} {v : Value} {x : Int} (h : Grow B W w p c l) (hB : B ≤ w.heap.size) (hown : w3.ownsRow B 3 1 v (l.length + 1) (i64s l ++ [.int .i64 x])) (hg : (w.alloc o).grownBy w3 (Value.slice p l.length c).ownBlock) : ∃ p' c', v = .slice p' (l.length + 1) c' ∧ Grow B W w3 p' c' (l ++ [x]) := by
  have e : l.length + 1 = (l ++ [x]).length := by simp
  have hown' := hown
  rw [← i64s_snoc] at hown'
  obtain ⟨p', c', rfl, hr, ha⟩ := ownsRow_based hown'
  rw [i64s_len] at hown' ⊢
  rw [e] at hown' ⊢
  refine ⟨p', c', rfl, hown', ?_⟩
  exact (h.below.alloc hB o).grown hg (by simp; omega) (fun j hj => (h.own.lt j hj).1)
theorem Grow.row (h : Grow B W w p c l) : RowAt 3 w p c (i64s l) ∧ Abv B (fpR p) := by
  have q := h.own
  obtain ⟨p', c', e, hr, ha⟩ := ownsRow_based q
  injection e with e1 e2 e3
  subst e1 e3
  exact ⟨hr, ha⟩
theorem Grow.on {w' : World} (h : Grow B W w p c l) (k : Below w.heap.size w w') (hB : B ≤ w.heap.size) : Grow B W w' p c l := by
  refine ⟨⟨h.own.1, ?_⟩, h.below.trans (k.mono hB)⟩
  rcases h.own.2 with q | ⟨g, cap, cur, hv, hb, hg, rest⟩
  · exact .inl q
  · exact .inr ⟨g, cap, cur, hv, hb, (k.block g (lt_of_block hg)).trans hg, rest⟩
theorem Grow.same {w' : World} (h : Grow B W w p c l) (k : Same w w') : Grow B W w' p c l := by
  refine ⟨⟨h.own.1, ?_⟩, h.below.trans (k.below _)⟩
  rcases h.own.2 with q | ⟨g, cap, cur, hv, hb, hg, rest⟩
  · exact .inl q
  · exact .inr ⟨g, cap, cur, hv, hb, by rw [k.heap]; exact hg, rest⟩
end
set_option maxRecDepth 100000 in
set_option maxHeartbeats 1000000 in
theorem due_any {w : World} {b : Nat} {m : Rd} (h : RdAt w b m) (hn : m.n ≤ 8) : Calls Try.prog 9 #[.pointer (some ⟨b, 0, none⟩)] w fun e w' => ∃ p c, e = .returned (.slice p (dueL m).length c) ∧ RowAt 3 w' p c (i64s (dueL m)) ∧ Abv w.heap.size (fpR p) ∧ Below w.heap.size w w' := by
  have h0 := h.cellN
  have hb := h.lt
  have HA := Lib.hid h
  obtain ⟨i0, hi, hz0, hz1, hz2⟩ := info_parts iInfo
  have HZI := Lib.hid (And.intro hi (And.intro hz0 (And.intro hz1 hz2)))
  clear hi hz0 hz1 hz2 h
  go_enter Try.func9, Try.ntmps9
  go_wp2
  go_loopw [3, 9] (fun vd vi wr => ∃ (i : Nat) (p : Option Addr) (n c : Nat), vd = .slice p n c ∧ vi = .int .i64 i ∧ i ≤ m.n ∧ n = (dueU m i).length ∧ Hid (Grow w.heap.size w wr p c (dueU m i))) (fun _ vi _ => m.n - (intOf vi).toNat)
  case atStart => exact ⟨0, none, 0, 0, rfl, rfl, Nat.zero_le _, rfl, grow_nil (Below.refl _ _)⟩
  case round =>
    obtain ⟨i, p, n, c, rfl, rfl, hi, hnn, HQ⟩ := hrel
    by_cases hlt : i < m.n
    · have hlt' : (i : Int) < (m.n : Int) := by omega
      have k8 : (i : Int) < 8 := by omega
      have hbr : b < wr.heap.size := Nat.lt_of_lt_of_le hb HQ.out.below.size
      have HA' := HA.out.on HQ.out.below
      have hg := HA'.cellG i (by omega)
      have hs := HA'.cellS i (by omega)
      clear HA' HA
      have hle := dueU_len m i
      have HLE : Hid ((dueU m i).length ≤ 8) := Lib.hid (by omega)
      have HSZ : Hid (w.heap.size ≤ wr.heap.size) := HQ.out.below.size
      clear hle
      cases hgv : m.g i
      · have e : dueU m (i + 1) = dueU m i := by rw [dueU_succ]; simp [dueB, hgv]
        rw [hgv] at hg
        clear hgv hs
        go_wp2
        exact ⟨⟨i + 1, p, n, c, rfl, by first | rfl | (congr 1), by omega, by rw [e]; exact hnn, by rw [e]; exact HQ⟩, by simp [intOf]; omega⟩
      · cases hsv : m.s i
        · have e : dueU m (i + 1) = dueU m i ++ [(i : Int)] := by rw [dueU_succ]; simp [dueB, hgv, hsv]
          rw [hgv] at hg
          rw [hsv] at hs
          clear hgv hsv
          generalize dueU m i = l at HQ HLE e hnn
          subst hnn
          have HO : Hid (∀ u, Same wr u → u.ownsRow w.heap.size 3 1 (.slice p l.length c) l.length (i64s l)) := fun u hu => (HQ.out.same hu).own
          go_wp2_with (at_builtin; refine wpList_append_own_at _ rfl _ _ 26 rfl w.heap.size 3 i0 (.int .i64 0) 1 8 Try.underlying26 HZI.out.1 HZI.out.2.1 HZI.out.2.2.1 HZI.out.2.2.2 rfl (by decide) _ l.length (i64s l) rfl (World.ownsRow.alloc (HO.out _ (by first | exact Same.refl _ | exact Same.drew _ | exact Same.drewN _ _)) _) ⟨wr.heap.size, 0, none⟩ 1 1 [Value.int .i64 (i : Int)] rfl rfl (cell_one_new _ _ _) (fun u hu => by simp at hu; subst hu; rfl) (by have := HLE.out; unfold maxLen; omega) (by have := HLE.out; omega) (by have := HSZ.out; simp; omega) ?_; intro v3 w3 hown3 hgrow3 hnil3 hat3; obtain ⟨p', c', hv3, q1⟩ := HQ.out.app HSZ.out hown3 hgrow3; subst hv3; have HQ3 := Lib.hid q1; clear hown3 hgrow3 hnil3 hat3 q1 HO)
          exact ⟨⟨i + 1, p', _, c', rfl, by first | rfl | (congr 1), by omega, by rw [e]; simp, by rw [e]; exact HQ3⟩, by simp [intOf]; omega⟩
        · have e : dueU m (i + 1) = dueU m i := by rw [dueU_succ]; simp [dueB, hgv, hsv]
          rw [hgv] at hg
          rw [hsv] at hs
          clear hgv hsv
          go_wp2
          exact ⟨⟨i + 1, p, n, c, rfl, by first | rfl | (congr 1), by omega, by rw [e]; exact hnn, by rw [e]; exact HQ⟩, by simp [intOf]; omega⟩
    · have hlt' : ¬ (i : Int) < (m.n : Int) := by omega
      obtain rfl : i = m.n := by omega
      subst hnn
      go_wp2
      go_ret
      exact ⟨_, _, rfl, HQ.out.row.1, HQ.out.row.2, HQ.out.below⟩
end Go.Proofs.Ytifiebgmjpjakaa
