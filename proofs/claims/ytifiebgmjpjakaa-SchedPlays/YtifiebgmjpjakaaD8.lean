import Derived.Test.YtifiebgmjpjakaaD6
namespace Go.Proofs.Ytifiebgmjpjakaa
open Go.ChangeShapes Go.WideShapes Go.ChangeAt Go.RowKit

def bls (l : List Bool) : List Value := l.map Value.bool
theorem bls_len (l : List Bool) : (bls l).length = l.length := by unfold bls; rw [List.length_map]
theorem bInfo : (Try.prog.info? 4).map (fun i => (i.zero, i.size, i.bytes)) = some (some (.bool false), 1, 1) := by kernel_rfl
theorem bMake (n : Nat) (hn : n ≤ 65536) (w : World) : (Instr.makeSlice 51 (.int .i64 (n : Int)) (.int .i64 (n : Int))).run Try.prog w = .ok (.slice (some ⟨w.heap.size, 0, none⟩) n n) (w.alloc (.cells (bls (List.replicate n false)).toArray 4)) := by
  obtain ⟨i, hi, hz0, hz1, hz2⟩ := info_parts bInfo
  rw [run_make w 51 4 i (.bool false) Try.underlying51 hi hz0 .i64 .i64 n n (by omega) (Int.le_refl _) (by rw [hz2]; omega) (by omega)]
  have e : (madeCells (.bool false : Value).cells (((n : Int)).toNat * i.size)) = (bls (List.replicate n false)).toArray := by
    rw [hz1, Nat.mul_one, Int.toNat_natCast]
    apply Array.toList_inj.1
    rw [show (.bool false : Value).cells = #[.bool false] from rfl, toList_madeCells_one]
    simp [bls]
  rw [e, Int.toNat_natCast]

def uptoB (f : Nat → Bool) (n : Nat) : List Bool := (List.range n).map f
theorem uptoB_len (f : Nat → Bool) (n : Nat) : (uptoB f n).length = n := by simp [uptoB]
theorem uptoB_at (f : Nat → Bool) (n i : Nat) (h : i < n) : (bls (uptoB f n))[i]? = some (.bool (f i)) := by simp [bls, uptoB, h]
theorem uptoB_set (f : Nat → Bool) (n t : Nat) (x : Bool) : (bls (uptoB f n)).set t (.bool x) = bls (uptoB (putF f t x) n) := by
  apply List.ext_getElem
  · simp [bls, uptoB]
  · intro k h1 h2
    rw [List.getElem_set]
    by_cases h : t = k
    · simp [bls, uptoB, h, putF]
    · have h' : ¬ k = t := fun e => h e.symm
      simp [bls, uptoB, h, h', putF]
theorem uptoB_none (n : Nat) : List.replicate n false = uptoB noneF n := by
  apply List.ext_getElem
  · simp [uptoB]
  · intro k h1 h2
    simp [uptoB, noneF]
/-- the document's rounds as numbers -/
structure Rf where
  n : Nat
  f : Nat → Bool
  l : List Int
  o : Nat
/-- as they lie -/
structure RfAt (w : World) (b gf : Nat) (ps : Option Addr) (cs : Nat) (r : Rf) : Prop where
  box : w.heap[b]? = some (.cells #[.slice (some ⟨gf, 0, none⟩) r.n r.n, .slice ps r.l.length cs, .int .i64 r.o] 53 (0, 0))
  rf : RowAt 4 w (some ⟨gf, 0, none⟩) r.n (bls (uptoB r.f r.n))
  rs : RowAt 3 w ps cs (i64s r.l)
  ne1 : b ≠ gf
  ne2 : b ∉ fpR ps
  ne3 : gf ∉ fpR ps
def Ref (w : World) (b : Nat) (F : List Nat) (r : Rf) : Prop := ∃ gf ps cs, RfAt w b gf ps cs r ∧ F = b :: gf :: fpR ps
section
variable {w w' : World} {b gf cs : Nat} {ps : Option Addr} {r : Rf} {F : List Nat}
theorem RfAt.lt (h : RfAt w b gf ps cs r) : b < w.heap.size := lt_of_block h.box
theorem RfAt.ltF (h : RfAt w b gf ps cs r) : gf < w.heap.size := h.rf.blw gf (by simp [fpR])
theorem RfAt.free (h : RfAt w b gf ps cs r) (j : Nat) : w.frozen? ⟨b, j, none⟩ = false := frozen_of_row w b j _ _ h.box
theorem RfAt.cell0 (h : RfAt w b gf ps cs r) : w.cell? ⟨b, 0, none⟩ = some (.slice (some ⟨gf, 0, none⟩) r.n r.n) := by rw [cell_of_row w b 0 _ _ _ h.box]; rfl
theorem RfAt.cell1 (h : RfAt w b gf ps cs r) : w.cell? ⟨b, 1, none⟩ = some (.slice ps r.l.length cs) := by rw [cell_of_row w b 1 _ _ _ h.box]; rfl
theorem RfAt.cell2 (h : RfAt w b gf ps cs r) : w.cell? ⟨b, 2, none⟩ = some (.int .i64 r.o) := by rw [cell_of_row w b 2 _ _ _ h.box]; rfl
theorem RfAt.blw (h : RfAt w b gf ps cs r) : Blw w (b :: gf :: fpR ps) := fun k hk => by
  rcases List.mem_cons.1 hk with rfl | q
  · exact h.lt
  · rcases List.mem_cons.1 q with rfl | q
    · exact h.ltF
    · exact h.rs.blw k q
theorem RfAt.keep (h : RfAt w b gf ps cs r) (k : Kept (b :: gf :: fpR ps) w w') : RfAt w' b gf ps cs r :=
  ⟨(k.2 b (by simp)).trans h.box, h.rf.keep ⟨k.1, fun i hi => k.2 i (by simp [fpR] at hi; simp [hi])⟩, h.rs.keep ⟨k.1, fun i hi => k.2 i (by simp [hi])⟩, h.ne1, h.ne2, h.ne3⟩
theorem Ref.blw (h : Ref w b F r) : Blw w F := by obtain ⟨gf, ps, cs, hs, rfl⟩ := h; exact hs.blw
theorem Ref.keep (h : Ref w b F r) (k : Kept F w w') : Ref w' b F r := by
  obtain ⟨gf, ps, cs, hs, rfl⟩ := h
  exact ⟨gf, ps, cs, hs.keep k, rfl⟩
theorem Ref.same (h : Ref w b F r) (k : Same w w') : Ref w' b F r := h.keep (k.kept F)
theorem Ref.on (h : Ref w b F r) (k : Below w.heap.size w w') : Ref w' b F r := h.keep (kept_below k h.blw)
theorem Ref.turn {G G' : List Nat} (h : Ref w b F r) (k : Turn G G' w w') (s : Sep F G) : Ref w' b F r := h.keep (k.kept s h.blw)
theorem RfAt.on (h : RfAt w b gf ps cs r) (k : Below w.heap.size w w') : RfAt w' b gf ps cs r := h.keep (kept_below k h.blw)
theorem RfAt.same (h : RfAt w b gf ps cs r) (k : Same w w') : RfAt w' b gf ps cs r := h.keep (k.kept _)
end
def wasB (r : Rf) (t : Int) : Bool := r.l.contains t
set_option maxHeartbeats 1000000 in
set_option maxRecDepth 100000 in
theorem was_any {w : World} {b gf cs : Nat} {ps : Option Addr} {r : Rf} (h : RfAt w b gf ps cs r) (t : Int) : Calls Try.prog 28 #[.pointer (some ⟨b, 0, none⟩), .int .i64 t] w fun e w' => e = .returned (.bool (wasB r t)) ∧ w' = w := by
  have h1 := h.cell1
  have hb := h.lt
  have HI := Lib.hid h.rs.ints
  have hl : r.l.length ≤ 9223372036854775807 := by
    have q := h.rs.own
    rw [i64s_len] at q
    rcases q.2 with ⟨_, z⟩ | ⟨g, cap, cur, hv, _, _, hc, hm, _⟩
    · omega
    · exact Nat.le_trans hc hm
  unfold wasB
  clear h
  generalize r.l = l at h1 HI hl
  obtain ⟨B, hB⟩ : ∃ B, B = l.contains t := ⟨_, rfl⟩
  rw [← hB]
  have HBB := Lib.hid hB
  clear hB
  go_enter Try.func28, Try.ntmps28
  go_wp2
  go_loopw [5] (fun vi wr => ∃ i : Nat, vi = .int .i64 i ∧ wr = w ∧ i ≤ l.length ∧ Hid (∀ j, j < i → l.getD j 0 ≠ t)) (fun vi _ => l.length - (intOf vi).toNat)
  case atStart => exact ⟨0, rfl, rfl, Nat.zero_le _, fun j hj => absurd hj (Nat.not_lt_zero _)⟩
  case round =>
    obtain ⟨i, rfl, rfl, hi, HQ⟩ := hrel
    by_cases hlt : i < l.length
    · have hlt' : (i : Int) < (l.length : Int) := by omega
      obtain ⟨ga, oa, hpa, ga1, hca⟩ := HI.out i hlt
      subst hpa
      replace hca : wr.cell? ⟨ga, oa + i, none⟩ = some (.int .i64 (l.getD i 0)) := hca
      by_cases hy : l.getD i 0 = t
      · have HC : B = true := by
          rw [HBB.out, ← hy]
          simp [List.getD, hlt]
        subst HC
        rw [hy] at hca
        clear hy
        go_wp2
        go_ret
        exact ⟨rfl, rfl⟩
      · have HN : Hid (∀ j, j < i + 1 → l.getD j 0 ≠ t) := fun j hj => by
          by_cases e : j = i
          · rw [e]; exact hy
          · exact HQ.out j (by omega)
        generalize l.getD i 0 = y at hca hy
        have hy' : (y == t) = false := by simpa using hy
        clear HQ
        go_wp2
        exact ⟨⟨i + 1, by first | rfl | (congr 1), by first | rfl | trivial, by omega, HN⟩, by simp [intOf]; omega⟩
    · have hlt' : ¬ (i : Int) < (l.length : Int) := by omega
      have HC : B = false := by
        rw [HBB.out, Bool.eq_false_iff]
        intro hc
        obtain ⟨j, hj, e⟩ := List.mem_iff_getElem.1 (List.contains_iff_mem.1 hc)
        exact HQ.out j (by omega) (by simp [List.getD, hj, e])
      subst HC
      go_wp2
      go_ret
      exact ⟨rfl, rfl⟩
def pickU (P : Nat → Bool) (i : Nat) : List Int := ((List.range i).filter P).map Int.ofNat
theorem pickU_succ (P : Nat → Bool) (i : Nat) : pickU P (i + 1) = if P i then pickU P i ++ [(i : Int)] else pickU P i := by
  unfold pickU
  rw [List.range_succ, List.filter_append]
  cases h : P i <;> simp [h]
theorem pickU_len (P : Nat → Bool) (i : Nat) : (pickU P i).length ≤ i := by
  unfold pickU
  rw [List.length_map]
  exact Nat.le_trans (List.length_filter_le _ _) (by simp)
def rdueB (r : Rf) (k : Nat) : Bool := !r.f k && !wasB r (k : Int)
set_option maxRecDepth 100000 in
set_option maxHeartbeats 1000000 in
theorem rdue_any {w : World} {b gf cs : Nat} {ps : Option Addr} {r : Rf} (h : RfAt w b gf ps cs r) (hn : r.n ≤ 8) : Calls Try.prog 19 #[.pointer (some ⟨b, 0, none⟩)] w fun e w' => ∃ p c, e = .returned (.slice p (pickU (rdueB r) r.n).length c) ∧ RowAt 3 w' p c (i64s (pickU (rdueB r) r.n)) ∧ Abv w.heap.size (fpR p) ∧ Below w.heap.size w w' := by
  have HA := Lib.hid h
  obtain ⟨i0, hi, hz0, hz1, hz2⟩ := info_parts iInfo
  have HZI := Lib.hid (And.intro hi (And.intro hz0 (And.intro hz1 hz2)))
  clear hi hz0 hz1 hz2 h
  go_enter Try.func19, Try.ntmps19
  go_wp2
  go_loopw [3, 4] (fun vd vi wr => ∃ (i : Nat) (p : Option Addr) (n c : Nat), vd = .slice p n c ∧ vi = .int .i64 i ∧ i ≤ r.n ∧ n = (pickU (rdueB r) i).length ∧ Hid (Grow w.heap.size w wr p c (pickU (rdueB r) i))) (fun _ vi _ => r.n - (intOf vi).toNat)
  case atStart => exact ⟨0, none, 0, 0, rfl, rfl, Nat.zero_le _, rfl, grow_nil (Below.refl _ _)⟩
  case round =>
    obtain ⟨i, p, n, c, rfl, rfl, hi, hnn, HQ⟩ := hrel
    have HA' := HA.out.on HQ.out.below
    have h0 := HA'.cell0
    have hbr := HA'.lt
    by_cases hlt : i < r.n
    · have hlt' : (i : Int) < (r.n : Int) := by omega
      obtain ⟨j1, _, j3⟩ := row_get HA'.rf (uptoB_at r.f r.n i hlt)
      have HW := Lib.hid (was_any HA' (i : Int))
      clear HA' HA
      have hle := pickU_len (rdueB r) i
      have HLE : Hid ((pickU (rdueB r) i).length ≤ 8) := Lib.hid (by omega)
      have HSZ : Hid (w.heap.size ≤ wr.heap.size) := HQ.out.below.size
      clear hle
      cases hgv : r.f i
      · cases hsv : wasB r (i : Int)
        · have e : pickU (rdueB r) (i + 1) = pickU (rdueB r) i ++ [(i : Int)] := by rw [pickU_succ]; simp [rdueB, hgv, hsv]
          rw [hgv] at j1
          rw [hsv] at HW
          clear hgv hsv
          generalize pickU (rdueB r) i = l at HQ HLE e hnn
          subst hnn
          have HO : Hid (∀ u, Same wr u → u.ownsRow w.heap.size 3 1 (.slice p l.length c) l.length (i64s l)) := fun u hu => (HQ.out.same hu).own
          go_wp2_with (first
            | (go_at_call 28; refine HW.out.mono ?_; rintro e1 w1 ⟨rfl, hw⟩; subst w1)
            | (at_builtin; refine wpList_append_own_at _ rfl _ _ 26 rfl w.heap.size 3 i0 (.int .i64 0) 1 8 Try.underlying26 HZI.out.1 HZI.out.2.1 HZI.out.2.2.1 HZI.out.2.2.2 rfl (by decide) _ l.length (i64s l) rfl (World.ownsRow.alloc (HO.out _ (by first | exact Same.refl _ | exact Same.drew _ | exact Same.drewN _ _)) _) ⟨wr.heap.size, 0, none⟩ 1 1 [Value.int .i64 (i : Int)] rfl rfl (cell_one_new _ _ _) (fun u hu => by simp at hu; subst hu; rfl) (by have := HLE.out; unfold maxLen; omega) (by have := HLE.out; omega) (by have := HSZ.out; simp; omega) ?_; intro v3 w3 hown3 hgrow3 hnil3 hat3; obtain ⟨p', c', hv3, q1⟩ := HQ.out.app HSZ.out hown3 hgrow3; subst hv3; have HQ3 := Lib.hid q1; clear hown3 hgrow3 hnil3 hat3 q1 HO))
          exact ⟨⟨i + 1, p', _, c', rfl, by first | rfl | (congr 1), by omega, by rw [e]; simp, by rw [e]; exact HQ3⟩, by simp [intOf]; omega⟩
        · have e : pickU (rdueB r) (i + 1) = pickU (rdueB r) i := by rw [pickU_succ]; simp [rdueB, hsv]
          rw [hgv] at j1
          rw [hsv] at HW
          clear hgv hsv
          go_wp2_with (go_at_call 28; refine HW.out.mono ?_; rintro e1 w1 ⟨rfl, hw⟩; subst w1)
          exact ⟨⟨i + 1, p, _, c, rfl, by first | rfl | (congr 1), by omega, by rw [e], by rw [e]; exact HQ⟩, by simp [intOf]; omega⟩
      · have e : pickU (rdueB r) (i + 1) = pickU (rdueB r) i := by rw [pickU_succ]; simp [rdueB, hgv]
        rw [hgv] at j1
        clear hgv
        go_wp2_with (go_at_call 28; refine HW.out.mono ?_; rintro e1 w1 ⟨rfl, hw⟩; subst w1)
        exact ⟨⟨i + 1, p, _, c, rfl, by first | rfl | (congr 1), by omega, by rw [e], by rw [e]; exact HQ⟩, by simp [intOf]; omega⟩
    · have hlt' : ¬ (i : Int) < (r.n : Int) := by omega
      obtain rfl : i = r.n := by omega
      subst hnn
      clear HA'
      go_wp2
      go_ret
      exact ⟨_, _, rfl, HQ.out.row.1, HQ.out.row.2, HQ.out.below⟩
end Go.Proofs.Ytifiebgmjpjakaa
