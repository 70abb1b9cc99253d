import Derived.Test.YtifiebgmjpjakaaD9
namespace Go.Proofs.Ytifiebgmjpjakaa
open Go.ChangeShapes Go.WideShapes Go.ChangeAt Go.RowKit

def rhas (r : Rf) (t : Int) : Bool := decide (0 ≤ t ∧ t < (r.n : Int))
def rerr (r : Rf) (t : Int) : Int := if rhas r t then 0 else 100
def rstepN (r : Rf) (k : Nat) : Rf := if r.f k || wasB r (k : Int) then r else lookR { r with l := r.l ++ [(k : Int)] }
def rfinN (r : Rf) (k : Nat) : Rf := if r.f k then r else lookR { r with f := putF r.f k true }
def rstepM (r : Rf) (t : Int) : Rf := if rhas r t then rstepN r t.toNat else r
def rfinM (r : Rf) (t : Int) : Rf := if rhas r t then rfinN r t.toNat else r
section
variable {w : World} {b gf cs : Nat} {ps : Option Addr} {r : Rf} {F : List Nat}
theorem RfAt.more {w3 : World} {v : Value} {x : Int} {o : Obj} (h : RfAt w b gf ps cs r) (hown : w3.ownsRow 0 3 1 v (r.l.length + 1) (i64s r.l ++ [.int .i64 x])) (hg : (w.alloc o).grownBy w3 (Value.slice ps r.l.length cs).ownBlock) (hat : v.ownBlock = (Value.slice ps r.l.length cs).ownBlock ∨ v.ownBlock = some (w.alloc o).heap.size) :
    ∃ p' c', v = .slice p' (r.l.length + 1) c' ∧ w3.cell? ⟨b, 1, none⟩ = some (.slice ps r.l.length cs) ∧ w3.frozen? ⟨b, 1, none⟩ = false ∧ b < w3.heap.size ∧ RfAt (w3.setCell ⟨b, 1, none⟩ (.slice p' (r.l.length + 1) c')) b gf p' c' { r with l := r.l ++ [x] } ∧ Turn (b :: gf :: fpR ps) (b :: gf :: fpR p') w (w3.setCell ⟨b, 1, none⟩ (.slice p' (r.l.length + 1) c')) := by
  have hown' := hown
  rw [← i64s_snoc] at hown'
  obtain ⟨p', c', rfl, hr⟩ := ownsRow_slice hown'
  have hl : (i64s (r.l ++ [x])).length = r.l.length + 1 := by rw [i64s_len]; simp
  rw [hl] at hat ⊢
  have g : w.grownBy w3 (Value.slice ps r.l.length cs).ownBlock := (World.grownBy_alloc w o _).trans hg
  have ho := own_at (n := r.l.length) (c := cs) hat (show w.heap.size ≤ (w.alloc o).heap.size by simp)
  have hbk : w3.heap[b]? = w.heap[b]? := g.block b h.lt (fun q => h.ne2 (own_fpR.2 q.symm))
  have hbox := hbk.trans h.box
  have hfk : w3.heap[gf]? = w.heap[gf]? := g.block gf h.ltF (fun q => h.ne3 (own_fpR.2 q.symm))
  have hne : b ∉ fpR p' := fun q => (ho b q).elim h.ne2 (fun z => absurd h.lt (Nat.not_lt.2 z))
  have hne3 : gf ∉ fpR p' := fun q => (ho gf q).elim h.ne3 (fun z => absurd h.ltF (Nat.not_lt.2 z))
  refine ⟨p', c', rfl, ?_, frozen_of_row w3 b 1 _ _ hbox, lt_of_block hbox, ⟨?_, ?_, ?_, h.ne1, hne, hne3⟩, ?_⟩
  · rw [cell_of_row w3 b 1 _ _ _ hbox]; rfl
  · have e : (r.l ++ [x]).length = r.l.length + 1 := by simp
    show _ = some (Obj.cells #[.slice (some ⟨gf, 0, none⟩) r.n r.n, .slice p' (r.l ++ [x]).length c', .int .i64 r.o] _ _)
    rw [e]
    exact (heap_setCell_same w3 b 1 _ _ _ hbox).trans rfl
  · refine h.rf.keep ⟨by simpa using g.size, fun k hk => ?_⟩
    simp [fpR] at hk
    subst hk
    exact (heap_setCell_other _ _ _ _ (fun q => h.ne1 q.symm)).trans hfk
  · exact hr.keep ⟨by simp, fun k hk => heap_setCell_other _ _ _ _ (by rintro rfl; exact hne hk)⟩
  · refine ⟨g.os, g.tape, g.output, by simpa using g.size, fun k hk hn => ?_, fun k hk => ?_⟩
    · simp only [List.mem_cons, not_or] at hn
      exact (heap_setCell_other _ _ _ _ (by simpa using hn.1)).trans (g.block k hk (fun q => hn.2.2 (own_fpR.2 q.symm)))
    · rcases List.mem_cons.1 hk with rfl | q
      · exact .inl (by simp)
      · rcases List.mem_cons.1 q with rfl | q
        · exact .inl (by simp)
        · exact (ho k q).imp (fun z => by simp [z]) id
theorem RfAt.fin (h : RfAt w b gf ps cs r) (k : Nat) : RfAt (w.setCell ⟨gf, k, none⟩ (.bool true)) b gf ps cs { r with f := putF r.f k true } ∧ Turn (b :: gf :: fpR ps) (b :: gf :: fpR ps) w (w.setCell ⟨gf, k, none⟩ (.bool true)) := by
  obtain ⟨q1, q2⟩ := row_put h.rf k (.bool true)
  rw [uptoB_set] at q1
  refine ⟨⟨(q2.block b h.lt (by simpa using h.ne1)).trans h.box, q1, h.rs.keep ⟨q2.size, fun i hi => q2.block i (h.rs.blw i hi) (fun z => ?_)⟩, h.ne1, h.ne2, h.ne3⟩, ⟨q2.os, q2.tape, q2.output, q2.size, fun i hi hn => q2.block i hi (fun z => hn (by simp at z; simp [z])), fun _ q => .inl q⟩⟩
  simp at z
  exact h.ne3 (z ▸ hi)
theorem rhas_nat {r : Rf} {t : Int} (h : rhas r t = true) : ∃ k : Nat, t = k ∧ k < r.n := by
  have := of_decide_eq_true h
  exact ⟨t.toNat, by omega, by omega⟩
set_option maxRecDepth 100000 in
theorem rstep_no (h : Ref w b F r) (t : Int) (ht : rhas r t = false) : Calls Try.prog 16 #[.pointer (some ⟨b, 0, none⟩), .int .i64 t] w fun e w' => e = .returned (.int .i64 100) ∧ w' = w := by
  obtain ⟨gf, ps, cs, h, rfl⟩ := h
  have h0 := h.cell0
  have hb := h.lt
  have ht := of_decide_eq_false ht
  clear h
  generalize r.n = n at h0 ht
  by_cases h1 : t < 0
  · clear ht
    go_enter Try.func16, Try.ntmps16
    go_wp2
    go_ret
    exact ⟨rfl, rfl⟩
  · have h2 : (n : Int) ≤ t := by omega
    clear ht
    go_enter Try.func16, Try.ntmps16
    go_wp2
    go_ret
    exact ⟨rfl, rfl⟩
set_option maxRecDepth 100000 in
theorem rfin_no (h : Ref w b F r) (t : Int) (ht : rhas r t = false) : Calls Try.prog 18 #[.pointer (some ⟨b, 0, none⟩), .int .i64 t] w fun e w' => e = .returned (.int .i64 100) ∧ w' = w := by
  obtain ⟨gf, ps, cs, h, rfl⟩ := h
  have h0 := h.cell0
  have hb := h.lt
  have ht := of_decide_eq_false ht
  clear h
  generalize r.n = n at h0 ht
  by_cases h1 : t < 0
  · clear ht
    go_enter Try.func18, Try.ntmps18
    go_wp2
    go_ret
    exact ⟨rfl, rfl⟩
  · have h2 : (n : Int) ≤ t := by omega
    clear ht
    go_enter Try.func18, Try.ntmps18
    go_wp2
    go_ret
    exact ⟨rfl, rfl⟩
set_option maxHeartbeats 1000000 in
set_option maxRecDepth 100000 in
theorem rfin_in (h : Ref w b F r) (k : Nat) (hk : k < r.n) (hn : r.n ≤ 8) (ho : r.o < 9223372036854775807) : Calls Try.prog 18 #[.pointer (some ⟨b, 0, none⟩), .int .i64 (k : Int)] w fun e w' => ∃ F', e = .returned (.int .i64 0) ∧ Ref w' b F' (rfinN r k) ∧ Turn F F' w w' := by
  have HH := Lib.hid h
  obtain ⟨gf, ps, cs, h, rfl⟩ := h
  have h0 := h.cell0
  have hb := h.lt
  obtain ⟨j1, j2, j3⟩ := row_get h.rf (uptoB_at r.f r.n k hk)
  have k1 : (k : Int) < (r.n : Int) := by omega
  have k2 : ¬ (r.n : Int) ≤ (k : Int) := by omega
  cases hf : r.f k
  · have e : rfinN r k = lookR { r with f := putF r.f k true } := by simp [rfinN, hf]
    rw [e]
    rw [hf] at j1
    clear e
    obtain ⟨q1, q2⟩ := h.fin k
    have HL := Lib.hid (look_any ⟨_, _, _, q1, rfl⟩ hn ho)
    have HT := Lib.hid q2
    clear h q1 q2 hf hk hn ho
    go_enter Try.func18, Try.ntmps18
    go_wp2_with (go_at_call 29; refine HL.out.mono ?_; rintro e1 w1 ⟨F1, rfl, q1, q2⟩; have HQ := Lib.hid (And.intro q1 (HT.out.trans q2)); clear q1 q2)
    go_ret
    first | exact ⟨_, rfl, HQ.out.1, HQ.out.2⟩ | exact ⟨rfl, _, HQ.out.1, HQ.out.2⟩
  · have e : rfinN r k = r := by simp [rfinN, hf]
    rw [e]
    rw [hf] at j1
    clear e h hf hk hn ho
    go_enter Try.func18, Try.ntmps18
    go_wp2
    go_ret
    first | exact ⟨_, rfl, HH.out, Turn.refl _ _⟩ | exact ⟨rfl, _, HH.out, Turn.refl _ _⟩
set_option maxHeartbeats 1000000 in
set_option maxRecDepth 100000 in
theorem rstep_in (h : Ref w b F r) (k : Nat) (hk : k < r.n) (hn : r.n ≤ 8) (ho : r.o < 9223372036854775807) (hl : r.l.length ≤ 8) : Calls Try.prog 16 #[.pointer (some ⟨b, 0, none⟩), .int .i64 (k : Int)] w fun e w' => ∃ F', e = .returned (.int .i64 0) ∧ Ref w' b F' (rstepN r k) ∧ Turn F F' w w' := by
  have HH := Lib.hid h
  obtain ⟨gf, ps, cs, h, rfl⟩ := h
  have h0 := h.cell0
  have h1 := h.cell1
  have hb := h.lt
  have hfr := h.free 1
  obtain ⟨j1, j2, j3⟩ := row_get h.rf (uptoB_at r.f r.n k hk)
  have k1 : (k : Int) < (r.n : Int) := by omega
  have k2 : ¬ (r.n : Int) ≤ (k : Int) := by omega
  have HW := Lib.hid (was_any h (k : Int))
  cases hf : r.f k
  · cases hs : wasB r (k : Int)
    · have e : rstepN r k = lookR { r with l := r.l ++ [(k : Int)] } := by simp [rstepN, hf, hs]
      rw [e]
      rw [hf] at j1
      rw [hs] at HW
      clear e
      obtain ⟨i0, hi, hz0, hz1, hz2⟩ := info_parts iInfo
      have HZI := Lib.hid (And.intro hi (And.intro hz0 (And.intro hz1 hz2)))
      have HLE := Lib.hid hl
      have HO : Hid (∀ u, Same w u → u.ownsRow 0 3 1 (.slice ps r.l.length cs) r.l.length (i64s r.l)) := fun u hu => by
        have q := (h.same hu).rs.own
        rw [i64s_len] at q
        exact q
      have HM : Hid (∀ u o w3 v, Same w u → w3.ownsRow 0 3 1 v (r.l.length + 1) (i64s r.l ++ [.int .i64 (k : Int)]) → (u.alloc o).grownBy w3 (Value.slice ps r.l.length cs).ownBlock → (v.ownBlock = (Value.slice ps r.l.length cs).ownBlock ∨ v.ownBlock = some (u.alloc o).heap.size) → ∃ p' c', v = .slice p' (r.l.length + 1) c' ∧ w3.cell? ⟨b, 1, none⟩ = some (.slice ps r.l.length cs) ∧ w3.frozen? ⟨b, 1, none⟩ = false ∧ b < w3.heap.size ∧ Calls Try.prog 29 #[.pointer (some ⟨b, 0, none⟩)] (w3.setCell ⟨b, 1, none⟩ (.slice p' (r.l.length + 1) c')) fun e w' => ∃ F', e = .returned (.tuple #[]) ∧ Ref w' b F' (lookR { r with l := r.l ++ [(k : Int)] }) ∧ Turn (b :: gf :: fpR ps) F' w w') := by
        intro u o w3 v hu a1 a2 a3
        obtain ⟨p', c', e1, e2, e3, e4, e5, e6⟩ := (h.same hu).more a1 a2 a3
        exact ⟨p', c', e1, e2, e3, e4, (look_any ⟨_, _, _, e5, rfl⟩ hn ho).mono fun e w' ⟨F', z1, z2, z3⟩ => ⟨F', z1, z2, ((hu.turn _).trans e6).trans z3⟩⟩
      clear h hi hz0 hz1 hz2 hf hs hk hn ho hl HH
      generalize r.l = l at h1 HO HM HLE
      go_enter Try.func16, Try.ntmps16
      go_wp2_with (first
        | (go_at_call 29; refine HC.out.mono ?_; rintro e1 w1 ⟨F1, rfl, q1, q2⟩; have HQ := Lib.hid (And.intro q1 q2); clear q1 q2)
        | (go_at_call 28; refine HW.out.mono ?_; rintro e1 w1 ⟨rfl, hw⟩; subst w1)
        | (at_builtin; refine wpList_append_own_at _ rfl _ _ 26 rfl 0 3 i0 (.int .i64 0) 1 8 Try.underlying26 HZI.out.1 HZI.out.2.1 HZI.out.2.2.1 HZI.out.2.2.2 rfl (by decide) _ l.length (i64s l) rfl (World.ownsRow.alloc (HO.out _ (by first | exact Same.refl _ | exact Same.drew _ | exact Same.drewN _ _)) _) ⟨w.heap.size, 0, none⟩ 1 1 [Value.int .i64 (k : Int)] rfl rfl (cell_one_new _ _ _) (fun u hu => by simp at hu; subst hu; rfl) (by have := HLE.out; unfold maxLen; omega) (by have := HLE.out; omega) (Nat.zero_le _) ?_; intro v3 w3 hown3 hgrow3 hnil3 hat3; obtain ⟨p', c', hv3, q2, q3, q4, q5⟩ := HM.out _ _ _ _ (by first | exact Same.refl _ | exact Same.drew _ | exact Same.drewN _ _) hown3 hgrow3 hat3; subst hv3; have HC := Lib.hid q5; clear hown3 hgrow3 hnil3 hat3 q5 HM HO))
      go_ret
      first | exact ⟨_, rfl, HQ.out.1, HQ.out.2⟩ | exact ⟨rfl, _, HQ.out.1, HQ.out.2⟩
    · have e : rstepN r k = r := by simp [rstepN, hs]
      rw [e]
      rw [hf] at j1
      rw [hs] at HW
      clear e h hf hk hn ho hs
      go_enter Try.func16, Try.ntmps16
      go_wp2_with (go_at_call 28; refine HW.out.mono ?_; rintro e1 w1 ⟨rfl, hw⟩; subst w1)
      go_ret
      first | exact ⟨_, rfl, HH.out, Turn.refl _ _⟩ | exact ⟨rfl, _, HH.out, Turn.refl _ _⟩
  · have e : rstepN r k = r := by simp [rstepN, hf]
    rw [e]
    rw [hf] at j1
    clear e h hf hk hn ho
    go_enter Try.func16, Try.ntmps16
    go_wp2_with (go_at_call 28; refine HW.out.mono ?_; rintro e1 w1 ⟨rfl, hw⟩; subst w1)
    go_ret
    first | exact ⟨_, rfl, HH.out, Turn.refl _ _⟩ | exact ⟨rfl, _, HH.out, Turn.refl _ _⟩
theorem rstep_any (h : Ref w b F r) (t : Int) (hn : r.n ≤ 8) (ho : r.o < 9223372036854775807) (hl : r.l.length ≤ 8) : Calls Try.prog 16 #[.pointer (some ⟨b, 0, none⟩), .int .i64 t] w fun e w' => ∃ F', e = .returned (.int .i64 (rerr r t)) ∧ Ref w' b F' (rstepM r t) ∧ Turn F F' w w' := by
  cases ht : rhas r t
  · refine (rstep_no h t ht).mono fun e w' ⟨he, hw⟩ => ?_
    subst hw
    simp only [rerr, rstepM, ht]
    exact ⟨_, he, h, Turn.refl _ _⟩
  · obtain ⟨k, rfl, hk⟩ := rhas_nat ht
    simp only [rerr, rstepM, ht]
    exact rstep_in h k hk hn ho hl
theorem rfin_any (h : Ref w b F r) (t : Int) (hn : r.n ≤ 8) (ho : r.o < 9223372036854775807) : Calls Try.prog 18 #[.pointer (some ⟨b, 0, none⟩), .int .i64 t] w fun e w' => ∃ F', e = .returned (.int .i64 (rerr r t)) ∧ Ref w' b F' (rfinM r t) ∧ Turn F F' w w' := by
  cases ht : rhas r t
  · refine (rfin_no h t ht).mono fun e w' ⟨he, hw⟩ => ?_
    subst hw
    simp only [rerr, rfinM, ht]
    exact ⟨_, he, h, Turn.refl _ _⟩
  · obtain ⟨k, rfl, hk⟩ := rhas_nat ht
    simp only [rerr, rfinM, ht]
    exact rfin_in h k hk hn ho
end
end Go.Proofs.Ytifiebgmjpjakaa
