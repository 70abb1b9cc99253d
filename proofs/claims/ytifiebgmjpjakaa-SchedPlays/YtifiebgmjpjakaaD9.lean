import Derived.Test.YtifiebgmjpjakaaD8
namespace Go.Proofs.Ytifiebgmjpjakaa
open Go.ChangeShapes Go.WideShapes Go.ChangeAt Go.RowKit

def newF (n : Nat) : Rf := { n := n, f := noneF, l := [], o := 0 }
set_option maxRecDepth 100000 in
theorem rnew_no (t : Int) (ht : mayT t = false) (w : World) : Calls Try.prog 14 #[.int .i64 t] w fun e w' => e = .returned (.tuple #[.pointer none, .int .i64 1]) ∧ w' = w := by
  have ht := of_decide_eq_false ht
  by_cases h1 : t < 1
  · clear ht
    go_enter Try.func14, Try.ntmps14
    go_wp2
    go_ret2
    exact ⟨rfl, rfl⟩
  · have h2 : 8 < t := by omega
    clear ht
    go_enter Try.func14, Try.ntmps14
    go_wp2
    go_ret2
    exact ⟨rfl, rfl⟩
theorem ref_new (w : World) (n : Nat) (h8 : n ≤ 8) : Ref ((w.alloc (.cells (bls (List.replicate n false)).toArray 4)).alloc (.cells #[.slice (some ⟨w.heap.size, 0, none⟩) n n, .slice none 0 0, .int .i64 0] 53)) (w.heap.size + 1) [w.heap.size + 1, w.heap.size] (newF n) := by
  have hs : (w.alloc (.cells (bls (List.replicate n false)).toArray 4)).heap.size = w.heap.size + 1 := by simp
  have hr : RowAt 4 (w.alloc (.cells (bls (List.replicate n false)).toArray 4)) (some ⟨w.heap.size, 0, none⟩) n (bls (uptoB noneF n)) := by
    rw [uptoB_none]
    refine ⟨?_⟩
    rw [bls_len, uptoB_len]
    exact World.ownsRow_lit w _ n (Nat.zero_le _) (by unfold maxLen; omega) (by rw [List.size_toArray, bls_len, uptoB_len, Nat.mul_one])
  refine ⟨w.heap.size, none, 0, ⟨?_, hr.on ((Below.refl _ _).alloc (Nat.le_refl _) _), ⟨World.ownsRow_nil _ _ _ _⟩, by omega, by simp [fpR], by simp [fpR]⟩, by simp [fpR]⟩
  have := heap_alloc_new (w.alloc (.cells (bls (List.replicate n false)).toArray 4)) (.cells #[.slice (some ⟨w.heap.size, 0, none⟩) n n, .slice none 0 0, .int .i64 0] 53)
  rw [hs] at this
  exact this
set_option maxHeartbeats 1000000 in
set_option maxRecDepth 100000 in
theorem rnew_yes (n : Nat) (h1 : 1 ≤ n) (h8 : n ≤ 8) (w : World) : Calls Try.prog 14 #[.int .i64 (n : Int)] w fun e w' => ∃ b F, e = .returned (.tuple #[.pointer (some ⟨b, 0, none⟩), .int .i64 0]) ∧ Ref w' b F (newF n) ∧ Abv w.heap.size F ∧ Below w.heap.size w w' := by
  have hmk := bMake n (by omega)
  have HR := Lib.hid (ref_new w n h8)
  have HB : Hid (∀ o o', Below w.heap.size w ((w.alloc o).alloc o')) := fun o o' => ((Below.refl w.heap.size w).alloc (Nat.le_refl _) o).alloc (by simp) o'
  have k1 : ¬ (n : Int) < 1 := by omega
  have k2 : ¬ (8 : Int) < (n : Int) := by omega
  go_enter Try.func14, Try.ntmps14
  go_wp2
  go_ret2
  exact ⟨_, rfl, _, HR.out, fun k hk => by simp at hk; omega, HB.out _ _⟩
theorem rover_any {w : World} {b : Nat} {F : List Nat} {r : Rf} (h : Ref w b F r) : Calls Try.prog 21 #[.pointer (some ⟨b, 0, none⟩)] w fun e w' => e = .returned (.int .i64 r.o) ∧ w' = w := by
  obtain ⟨gf, ps, cs, hs, rfl⟩ := h
  have h0 := hs.cell2
  have hb := hs.lt
  clear hs
  go_enter Try.func21, Try.ntmps21
  go_wp2
  go_ret
  exact ⟨rfl, rfl⟩
/-- is there one that has not finished? -/
def someU (r : Rf) (i : Nat) : Bool := (List.range i).any fun k => !r.f k
theorem someU_succ (r : Rf) (i : Nat) : someU r (i + 1) = (someU r i || !r.f i) := by
  unfold someU
  rw [List.range_succ, List.any_append]
  simp
def endB (r : Rf) : Bool := someU r r.n && decide ((pickU (rdueB r) r.n).length = 0)
def lookR (r : Rf) : Rf := if endB r then { r with l := [], o := r.o + 1 } else r
theorem rf_over {w : World} {b gf cs : Nat} {ps : Option Addr} {r : Rf} (h : RfAt w b gf ps cs r) : Ref ((w.setCell ⟨b, 2, none⟩ (.int .i64 ((r.o + 1 : Nat) : Int))).setCell ⟨b, 1, none⟩ (.slice none 0 0)) b [b, gf] { r with l := [], o := r.o + 1 } ∧ Turn (b :: gf :: fpR ps) [b, gf] w ((w.setCell ⟨b, 2, none⟩ (.int .i64 ((r.o + 1 : Nat) : Int))).setCell ⟨b, 1, none⟩ (.slice none 0 0)) := by
  have t := (turn_set w b 2 (.int .i64 ((r.o + 1 : Nat) : Int))).trans (turn_set _ b 1 (.slice none 0 0))
  refine ⟨⟨gf, none, 0, ⟨?_, h.rf.keep ⟨by simp, fun k hk => t.block k (h.rf.blw k hk) (fun q => ?_)⟩, ⟨World.ownsRow_nil _ _ _ _⟩, h.ne1, by simp [fpR], by simp [fpR]⟩, by simp [fpR]⟩, ?_⟩
  · exact (heap_setCell_same _ b 1 _ _ _ ((heap_setCell_same w b 2 _ _ _ h.box).trans rfl)).trans rfl
  · simp [fpR] at hk q
    have := h.ne1
    omega
  · exact ⟨t.os, t.tape, t.output, t.size, fun k hk hn => t.block k hk (fun q => hn (by simp at q; simp [q])), fun k hk => .inl (by simp at hk ⊢; rcases hk with rfl | rfl <;> simp)⟩
theorem _root_.Go.RowKit.Below.turn {w w' : World} (h : Below w.heap.size w w') {F : List Nat} : Turn F F w w' := ⟨h.os, h.tape, h.output, h.size, fun k hk _ => h.block k hk, fun _ q => .inl q⟩
set_option maxHeartbeats 1000000 in
set_option maxRecDepth 100000 in
theorem look_any {w : World} {b : Nat} {F : List Nat} {r : Rf} (h : Ref w b F r) (hn : r.n ≤ 8) (ho : r.o < 9223372036854775807) : Calls Try.prog 29 #[.pointer (some ⟨b, 0, none⟩)] w fun e w' => ∃ F', e = .returned (.tuple #[]) ∧ Ref w' b F' (lookR r) ∧ Turn F F' w w' := by
  obtain ⟨gf, ps, cs, h, rfl⟩ := h
  have HA := Lib.hid h
  have h0 := h.cell0
  have hb := h.lt
  have HD := Lib.hid (rdue_any h hn)
  clear h
  obtain ⟨R, hR⟩ : ∃ R, R = lookR r := ⟨_, rfl⟩
  rw [← hR]
  have HRR := Lib.hid hR
  clear hR
  go_enter Try.func29, Try.ntmps29
  go_wp2
  go_loopw [2, 3] (fun vs vi wr => ∃ (i : Nat) (B : Bool), vs = .bool B ∧ vi = .int .i64 i ∧ wr = w ∧ i ≤ r.n ∧ Hid (B = someU r i)) (fun _ vi _ => r.n - (intOf vi).toNat)
  case atStart => exact ⟨0, false, rfl, rfl, rfl, Nat.zero_le _, rfl⟩
  case round =>
    obtain ⟨i, B, rfl, rfl, rfl, hi, HQ⟩ := hrel
    by_cases hlt : i < r.n
    · have hlt' : (i : Int) < (r.n : Int) := by omega
      obtain ⟨j1, _, j3⟩ := row_get HA.out.rf (uptoB_at r.f r.n i hlt)
      have HN : Hid ((B || !r.f i) = someU r (i + 1)) := by
        show (B || !r.f i) = someU r (i + 1)
        rw [someU_succ, HQ.out]
      generalize r.f i = y at j1 HN
      clear HQ HD
      cases B
      · go_wp2
        exact ⟨⟨i + 1, _, rfl, by first | rfl | (congr 1), by first | rfl | trivial, by omega, by simpa using HN⟩, by simp [intOf]; omega⟩
      · go_wp2
        exact ⟨⟨i + 1, _, rfl, by first | rfl | (congr 1), by first | rfl | trivial, by omega, by simpa using HN⟩, by simp [intOf]; omega⟩
    · have hlt' : ¬ (i : Int) < (r.n : Int) := by omega
      obtain rfl : i = r.n := by omega
      have HO : Hid (∀ u, Below wr.heap.size wr u → u.cell? ⟨b, 2, none⟩ = some (.int .i64 r.o) ∧ u.cell? ⟨b, 1, none⟩ = some (.slice ps r.l.length cs) ∧ u.frozen? ⟨b, 1, none⟩ = false ∧ u.frozen? ⟨b, 2, none⟩ = false ∧ b < u.heap.size) := fun u hu => ⟨(HA.out.on hu).cell2, (HA.out.on hu).cell1, (HA.out.on hu).free 1, (HA.out.on hu).free 2, (HA.out.on hu).lt⟩
      cases B
      · have e : lookR r = r := by
          unfold lookR endB
          rw [← HQ.out]
          rfl
        have HE := Lib.hid (HRR.out.trans e)
        clear e
        go_wp2_with (go_at_call 19; refine HD.out.mono ?_; rintro e1 w1 ⟨p, c, rfl, q1, q2, q3⟩; have HB := Lib.hid q3; clear q1 q2 q3)
        go_end0
        exact ⟨_, rfl, by rw [HE.out]; exact ⟨_, _, _, HA.out.on HB.out, rfl⟩, HB.out.turn⟩
      · by_cases hz : (pickU (rdueB r) r.n).length = 0
        · have e : lookR r = { r with l := [], o := r.o + 1 } := by
            unfold lookR endB
            rw [← HQ.out, hz]
            rfl
          have HE := Lib.hid (HRR.out.trans e)
          rw [hz] at HD
          clear e
          go_wp2_with (go_at_call 19; refine HD.out.mono ?_; rintro e1 w1 ⟨p, c, rfl, q1, q2, q3⟩; have HB := Lib.hid q3; obtain ⟨z1, z2, z3, z4, z5⟩ := HO.out w1 q3; clear q1 q2 q3)
          go_end0
          exact ⟨_, rfl, by rw [HE.out]; exact (rf_over (HA.out.on HB.out)).1, HB.out.turn.trans (rf_over (HA.out.on HB.out)).2⟩
        · have e : lookR r = r := by
            unfold lookR endB
            rw [decide_eq_false hz]
            simp
          have HE := Lib.hid (HRR.out.trans e)
          clear e
          have hz' : (((pickU (rdueB r) r.n).length : Int) == 0) = false := by
            rw [beq_eq_false_iff_ne]
            omega
          generalize pickU (rdueB r) r.n = l at HD hz hz'
          go_wp2_with (go_at_call 19; refine HD.out.mono ?_; rintro e1 w1 ⟨p, c, rfl, q1, q2, q3⟩; have HB := Lib.hid q3; clear q1 q2 q3)
          go_end0
          exact ⟨_, rfl, by rw [HE.out]; exact ⟨_, _, _, HA.out.on HB.out, rfl⟩, HB.out.turn⟩
end Go.Proofs.Ytifiebgmjpjakaa
