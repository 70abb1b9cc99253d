import Derived.Test.YtmlklnimkgnbkaaGreatDoorA3
import Derived.Test.YtmlklnimkgnbkaaGreatDoorA8
namespace Go.Proofs.YtmlklnimkgnbkaaGreatDoor
open Go.ChangeShapes Go.WideShapes Go.ChangeAt Go.RowKit Num

/-! with more fuel and room for more writes -/
def liftM (m : Mac) : Mac := { m with fuel := 1024, wmax := 32 }
theorem give_lift (m : Mac) (x : Nat) : giveM (liftM m) x = liftM (giveM m x) := by
  unfold giveM
  by_cases h : 0 ≤ m.wait
  · rw [if_pos h, if_pos (show 0 ≤ (liftM m).wait from h)]
    rfl
  · rw [if_neg h, if_neg (show ¬ 0 ≤ (liftM m).wait from h)]
theorem mayP_more {m : Int} {l : Wr} {c : Int} (h : mayP m l c = true) (hm : m ≤ 32) : mayP 32 l c = true := by
  unfold mayP at h ⊢
  rw [Bool.or_eq_true] at h ⊢
  rcases h with h | h
  · exact .inl h
  · refine .inr ?_
    have := of_decide_eq_true h
    exact decide_eq_true (by omega)
theorem do_lift {m : Mac} (hwm : m.wmax ≤ 32) {k : Nat} {n : Int} {x : Nat} (hk : 1 ≤ k ∧ k < 21) (he : (doM (begM m) ⟨k, n, x⟩).1.err ≠ 70) : doM (begM (liftM m)) ⟨k, n, x⟩ = (liftM (doM (begM m) ⟨k, n, x⟩).1, (doM (begM m) ⟨k, n, x⟩).2) := by
  have hkk : k = 1 ∨ k = 2 ∨ k = 3 ∨ k = 4 ∨ k = 5 ∨ k = 6 ∨ k = 7 ∨ k = 8 ∨ k = 9 ∨ k = 10 ∨ k = 11 ∨ k = 12 ∨ k = 13 ∨ k = 14 ∨ k = 15 ∨ k = 16 ∨ k = 17 ∨ k = 18 ∨ k = 19 ∨ k = 20 := by omega
  rcases hkk with rfl | rfl | rfl | rfl | rfl | rfl | rfl | rfl | rfl | rfl | rfl | rfl | rfl | rfl | rfl | rfl | rfl | rfl | rfl | rfl
  iterate 14 rfl
  · show retM (begM (liftM m)) = (liftM (retM (begM m)).1, (retM (begM m)).2)
    cases hc : (begM m).calls with
    | nil => rw [retM_nil hc, retM_nil (show (begM (liftM m)).calls = [] from hc)]; rfl
    | cons c q => rw [retM_cons hc, retM_cons (show (begM (liftM m)).calls = c :: q from hc)]; rfl
  · show readM (begM (liftM m)) = (liftM (readM (begM m)).1, (readM (begM m)).2)
    unfold readM
    cases ha : addrB (begM m) with
    | false => rw [if_neg (show ¬ addrB (begM (liftM m)) = true by rw [show addrB (begM (liftM m)) = addrB (begM m) from rfl, ha]; decide)]; rfl
    | true =>
      rw [if_pos (show addrB (begM (liftM m)) = true from ha)]
      cases hh : hasC (begM m).buf (addrV (begM m)) with
      | false => rw [if_neg (show ¬ hasC (begM (liftM m)).buf (addrV (begM (liftM m))) = true by rw [show hasC (begM (liftM m)).buf (addrV (begM (liftM m))) = hasC (begM m).buf (addrV (begM m)) from rfl, hh]; decide)]; rfl
      | true => rw [if_pos (show hasC (begM (liftM m)).buf (addrV (begM (liftM m))) = true from hh)]; rfl
  · replace he : (writeM (begM m)).1.err ≠ 70 := he
    show writeM (begM (liftM m)) = (liftM (writeM (begM m)).1, (writeM (begM m)).2)
    unfold writeM at he ⊢
    by_cases hu : (begM m).upd = true
    · rw [if_pos hu] at he ⊢
      rw [if_pos (show (begM (liftM m)).upd = true from hu)]
      by_cases ha : addrB (begM m) = true
      · rw [if_pos ha] at he ⊢
        rw [if_pos (show addrB (begM (liftM m)) = true from ha)]
        by_cases hp : mayP (begM m).wmax (begM m).buf (addrV (begM m)) = true
        · rw [if_pos hp, if_pos (show mayP (begM (liftM m)).wmax (begM (liftM m)).buf (addrV (begM (liftM m))) = true from mayP_more hp hwm)]
          rfl
        · rw [if_neg hp] at he
          exact absurd rfl he
      · rw [if_neg ha, if_neg (show ¬ addrB (begM (liftM m)) = true from ha)]
        rfl
    · rw [if_neg hu, if_neg (show ¬ (begM (liftM m)).upd = true from hu)]
      rfl
  · rfl
  · rfl
  · rfl
theorem step_lift {m : Mac} (h : Inv m) (hw : ¬ 0 ≤ m.wait) (h0 : m.how = 0) (he : (stepM m).1.err ≠ 80) (he2 : (stepM m).1.err ≠ 70) : stepM (liftM m) = (liftM (stepM m).1, (stepM m).2) := by
  unfold stepM at he he2 ⊢
  rw [if_neg hw, if_pos h0] at he he2 ⊢
  rw [if_neg (show ¬ 0 ≤ (liftM m).wait from hw), if_pos (show (liftM m).how = 0 from h0)]
  by_cases hf : m.used < m.fuel
  · rw [if_pos hf] at he he2 ⊢
    rw [if_pos (show (liftM m).used < (liftM m).fuel by have := h.fuel.2; show m.used < 1024; omega)]
    by_cases hp : m.place < (m.code.length : Int)
    · rw [if_pos hp] at he he2 ⊢
      rw [if_pos (show (liftM m).place < ((liftM m).code.length : Int) from hp)]
      have hk : m.place.toNat < m.code.length := by have := h.place; omega
      have hmay := h.may _ hk
      cases hr : roomB (begM m) (insM m) with
      | false => rw [if_neg (show ¬ roomB (begM (liftM m)) (insM (liftM m)) = true by rw [show roomB (begM (liftM m)) (insM (liftM m)) = roomB (begM m) (insM m) from rfl, hr]; decide)]; rfl
      | true =>
        rw [if_pos (show roomB (begM (liftM m)) (insM (liftM m)) = true from hr)]
        rw [hr, if_pos rfl] at he2
        rw [if_pos rfl]
        show doM (begM (liftM m)) (insM m) = _
        unfold insM at he2 ⊢
        rcases hci : ci m.code m.place.toNat with ⟨o, n, x⟩
        rw [hci] at hmay he2
        obtain ⟨q, hq⟩ : ∃ q : Nat, o = q := ⟨o.toNat, by have := hmay.1; unfold mayB knownB at this; simp at this; omega⟩
        subst hq
        exact do_lift h.wmax.2 (fits_parts hmay.1).1 he2
    · rw [if_neg hp, if_neg (show ¬ (liftM m).place < ((liftM m).code.length : Int) from hp)]
      rfl
  · rw [if_neg hf] at he
    exact absurd rfl he
theorem go_lift {s : List Nat} {m : Mac} (h : Inv m) (hw : ¬ 0 ≤ m.wait) (h0 : m.how = 0) (he : (stepM m).1.err ≠ 80) (he2 : (stepM m).1.err ≠ 70) : goM s (liftM m) = liftM (goM s m) := by
  unfold goM
  rw [step_lift h hw h0 he he2]
  show (if (stepM m).2.kind = 1 then giveM (liftM (stepM m).1) (Sx.getV s (stepM m).2.cell) else liftM (stepM m).1) = _
  split
  · exact give_lift _ _
  · rfl
theorem err_zero {m : Mac} (h : Inv m) (h0 : m.how = 0) : m.err = 0 := by
  by_cases he : m.err = 0
  · exact he
  · have := h.fail.2 he
    omega
theorem run_lift {s : List Nat} (hs : okS s) : ∀ (k : Nat) {m : Mac}, Rest m → (runN s k m).err ≠ 80 → (runN s k m).err ≠ 70 → runN s k (liftM m) = liftM (runN s k m)
  | 0, _, _, _, _ => rfl
  | k + 1, m, h, h8, h7 => by
    rw [runN_cons] at h8 h7 ⊢
    rw [runN_cons]
    by_cases h0 : m.how = 0
    · have hA : (stepM m).1.err ≠ 80 ∧ (stepM m).1.err ≠ 70 := by
        obtain ⟨_, g1, ⟨g2, g3⟩ | ⟨g2, g3, g4⟩⟩ := go_turns (s := s) h.inv h.nw h0
        · have e1 : goM s m = (stepM m).1 := go_kindN (by rw [g2]; decide)
          rw [runN_over g1 g3, e1] at h8 h7
          exact ⟨h8, h7⟩
        · have e1 : (stepM m).1.err = 0 := by
            have hi := inv_step h.inv
            refine err_zero hi ?_
            obtain ⟨_, ⟨k1, _⟩ | ⟨_, _, _, k4, _⟩ | ⟨_, _, k3, _⟩⟩ := step_turns h.inv h.nw h0
            · exact absurd k1 g2
            · exact k4
            · exact k3
          rw [e1]
          exact ⟨by decide, by decide⟩
      rw [go_lift h.inv h.nw h0 hA.1 hA.2]
      exact run_lift hs k (h.go hs) h8 h7
    · rw [go_over h.nw h0] at h8 h7 ⊢
      rw [go_over (show ¬ 0 ≤ (liftM m).wait from h.nw) (show (liftM m).how ≠ 0 from h0)]
      exact run_lift hs k h h8 h7
/-- what doesn't fail for want of either comes to the same with more of both -/
theorem end_lift {s : List Nat} (hs : okS s) {m : Mac} (h : Rest m) (h8 : (endM s m).err ≠ 80) (h7 : (endM s m).err ≠ 70) : endM s (liftM m) = liftM (endM s m) := run_lift hs 1025 h h8 h7
theorem new_lift (a f e t : Int) (c : List Ins) (l : List Nat) : newM a 1024 32 t c l = liftM (newM a f e t c l) := rfl
end Go.Proofs.YtmlklnimkgnbkaaGreatDoor
namespace Go.Proofs.YtmlklnimkgnbkaaGreatDoor
open Go.ChangeShapes Go.WideShapes Go.ChangeAt Go.RowKit Num
attribute [local go_sem] run_store_float

/-! AloneMore -/
/-- a run is nothing, or at its end -/
theorem runR_good {a b c e t : Int} {cs : List Ins} {l s : List Nat} (hg : goodB a b c e s.length l.length = true) : runR a b c e t cs l s = endM s (newM a c e t cs l) := by unfold runR; rw [if_pos hg]
theorem runR_bad {a b c e t : Int} {cs : List Ins} {l s : List Nat} (hg : goodB a b c e s.length l.length = false) : runR a b c e t cs l s = zeroM := by unfold runR; rw [hg, if_neg Bool.false_ne_true]
theorem runR_rest {a b c e t : Int} {cs : List Ins} {l s : List Nat} (hs : okS s) (hx : ∀ i ∈ cs, i.x < 18446744073709551616) (hl : ∀ x ∈ l, x < 18446744073709551616) : runR a b c e t cs l s = zeroM ∨ Rest (runR a b c e t cs l s) := by
  cases hg : goodB a b c e s.length l.length with
  | false => exact .inl (runR_bad hg)
  | true =>
    refine .inr ?_
    rw [runR_good hg]
    unfold goodB at hg
    simp only [Bool.and_eq_true] at hg
    exact endM_rest hs (new_rest hg.1.1 (fun j hj => hx _ (List.mem_of_getElem? (ci_lt hj))) hl)
theorem runR_told {a b c e t : Int} {cs : List Ins} {l s : List Nat} (hs : okS s) (hx : ∀ i ∈ cs, i.x < 18446744073709551616) (hl : ∀ x ∈ l, x < 18446744073709551616) : Told (runR a b c e t cs l s) := by
  rcases runR_rest (a := a) (b := b) (c := c) (e := e) (t := t) hs hx hl with h | h
  · rw [h]; exact told_zero
  · exact h.tolds
theorem aft_ok {a b c e t : Int} {cs : List Ins} {l s : List Nat} (hs : okS s) (hx : ∀ i ∈ cs, i.x < 18446744073709551616) (hl : ∀ x ∈ l, x < 18446744073709551616) : okS (aftS s (runR a b c e t cs l s)) := by
  rcases runR_rest (a := a) (b := b) (c := c) (e := e) (t := t) hs hx hl with h | h
  · rw [h]; exact hs
  · exact aftS_ok hs h
theorem more_run {a b c e t : Int} {cs : List Ins} {l s : List Nat} (hs : okS s) (hx : ∀ i ∈ cs, i.x < 18446744073709551616) (hl : ∀ x ∈ l, x < 18446744073709551616) (hg : goodB a b c e s.length l.length = true) (h8 : (runR a b c e t cs l s).err ≠ 80) (h7 : (runR a b c e t cs l s).err ≠ 70) : goodB a b 1024 32 s.length l.length = true ∧ runR a b 1024 32 t cs l s = liftM (runR a b c e t cs l s) := by
  have hg2 : goodB a b 1024 32 s.length l.length = true := by
    unfold goodB at hg ⊢
    simp only [Bool.and_eq_true] at hg ⊢
    refine ⟨⟨?_, hg.1.2⟩, hg.2⟩
    have := Md.cfgB_iff.1 hg.1.1
    exact Md.cfgB_iff.2 ⟨this.1, this.2.1, by omega, by omega⟩
  refine ⟨hg2, ?_⟩
  rw [runR_good hg] at h8 h7 ⊢
  rw [runR_good hg2]
  unfold goodB at hg
  simp only [Bool.and_eq_true] at hg
  rw [new_lift a c e t cs l]
  exact end_lift hs (new_rest hg.1.1 (fun j hj => hx _ (List.mem_of_getElem? (ci_lt hj))) hl) h8 h7
end Go.Proofs.YtmlklnimkgnbkaaGreatDoor
namespace Go.Proofs.YtmlklnimkgnbkaaGreatDoor
open Go.ChangeShapes Go.WideShapes Go.ChangeAt Go.RowKit Num
attribute [local go_sem] run_store_float

end Go.Proofs.YtmlklnimkgnbkaaGreatDoor
namespace Go.Proofs.YtmlklnimkgnbkaaGreatDoor
open Go.ChangeShapes Go.WideShapes Go.ChangeAt Go.RowKit Num
attribute [local go_sem] run_store_float

/-- a step of a run, by its kinds -/
theorem go_kinds {s : List Nat} {mk : Mac} (h : Rest mk) (h0 : mk.how = 0) (hc : mk.cells = (s.length : Int)) : ((stepM mk).2.kind = 1 ∧ ∃ j : Nat, (stepM mk).2.cell = (j : Int) ∧ j < s.length ∧ goM s mk = giveM (stepM mk).1 (s.getD j 0)) ∨ ((stepM mk).2.kind ≠ 1 ∧ goM s mk = (stepM mk).1) := by
  by_cases h1 : (stepM mk).2.kind = 1
  · refine .inl ⟨h1, ?_⟩
    obtain ⟨hl, ⟨k1, _⟩ | ⟨k1, k2, k3, k4, k5⟩ | ⟨k1, _⟩⟩ := step_turns h.inv h.nw h0
    · rw [k1] at h1
      exact absurd h1 (by decide)
    · have hw := (inv_step h.inv).wait
      rw [hl.cells, hc] at hw
      obtain ⟨j, hj⟩ : ∃ j : Nat, (stepM mk).2.cell = (j : Int) := ⟨(stepM mk).2.cell.toNat, by rw [k2]; omega⟩
      have hjs : j < s.length := by rw [k2] at hj; omega
      refine ⟨j, hj, hjs, ?_⟩
      rw [go_kind1 h1, hj]
      unfold Sx.getV
      rw [if_pos (by rw [Sx.hasN_nat]; exact decide_eq_true hjs), Int.toNat_natCast]
    · rw [h1] at k1
      rcases k1 with k | k | k <;> exact absurd k (by decide)
  · exact .inr ⟨h1, go_kindN h1⟩
set_option maxHeartbeats 4000000 in
set_option maxRecDepth 100000 in
theorem rrun_good {w : World} {a b c e t : Int} {ao : Option Addr} {cs : List Ins} {n cap : Nat} {po : Option Addr} {l : List Nat} {k co : Nat} {s : List Nat} {gn ns cn : Nat} (hn : cs.length = n) (hk : l.length = k) (hC : CodeAt w ao cs) (hx : ∀ i ∈ cs, i.x < 18446744073709551616) (hL : FlAt w po l) (hl : ∀ x ∈ l, x < 18446744073709551616) (hnl : n ≤ 9223372036854775807) (hns : s.length = ns) (hN : RowAt 50 w (some ⟨gn, 0, none⟩) cn (fls s)) (hs : okS s) (hg : goodB a b c e ns k = true) : Calls Tryz.prog 24 #[cfgV a b c e, .agg #[.int .i64 t, .slice ao n cap], .slice po k co, .slice (some ⟨gn, 0, none⟩) ns cn] w fun r w' => ∃ R, r = .returned (.tuple #[resV R (endM s (newM a c e t cs l)), .int .i64 0]) ∧ WantB w' w.heap.size R (endM s (newM a c e t cs l)) ∧ RowAt 50 w' (some ⟨gn, 0, none⟩) cn (fls (aftS s (endM s (newM a c e t cs l)))) ∧ Turn [gn] [gn] w w' := by
  have hgg : Md.cfgB a b c e = true ∧ (ns : Int) = a ∧ k ≤ 8 := by unfold goodB at hg; simp at hg; exact ⟨hg.1.1, hg.1.2, hg.2⟩
  have hRE : Rest (newM a c e t cs l) := new_rest hgg.1 (fun j hj => hx _ (List.mem_of_getElem? (ci_lt hj))) hl
  have HP := Lib.hid (Md.refPlace_any a b c e (runW w a b c e t ao n cap))
  rw [hgg.1, if_pos rfl] at HP
  have HX : Hid (∀ u, Below (runW w a b c e t ao n cap).heap.size (runW w a b c e t ao n cap) u → u.heap[w.heap.size + 1 + 1]? = some resZ ∧ Below w.heap.size w u) := fun u hb => (runW_boxes hb).2.2
  have HB4 : Hid (∀ u, Below (runW w a b c e t ao n cap).heap.size (runW w a b c e t ao n cap) u → (u.cell? ⟨w.heap.size, 0, none⟩ = some (.int .i64 a) ∧ u.cell? ⟨w.heap.size, 1, none⟩ = some (.int .i64 b) ∧ u.cell? ⟨w.heap.size, 2, none⟩ = some (.int .i64 c) ∧ u.cell? ⟨w.heap.size, 3, none⟩ = some (.int .i64 e) ∧ w.heap.size < u.heap.size) ∧ (u.cell? ⟨w.heap.size + 1, 0, none⟩ = some (.int .i64 t) ∧ u.cell? ⟨w.heap.size + 1, 1, none⟩ = some (.slice ao n cap) ∧ w.heap.size + 1 < u.heap.size)) := fun u hb => ⟨(runW_boxes hb).1, (runW_boxes hb).2.1⟩
  have HN : Hid (∀ u, Below w.heap.size w u → Calls Tryz.prog 39 #[cfgV a b c e, .agg #[.int .i64 t, .slice ao n cap], .slice po k co] u fun r w' => ∃ br bl F0 K, r = .returned (.pointer (some ⟨br, 0, none⟩)) ∧ Rg w' F0 br bl K w' (newM a c e t cs l) cs ∧ Abv u.heap.size F0 ∧ Abv u.heap.size [br, bl] ∧ Below u.heap.size u w') := fun u hb => rnew_rg hb hn hk hC hL hnl hgg.1 hgg.2.2
  have HST : Hid (∀ W F0 br bl K v m, Rg W F0 br bl K v m cs → Inv m → Calls Tryz.prog 40 #[.pointer (some ⟨br, 0, none⟩)] v fun r w' => r = .returned (.agg #[.int .i64 (stepM m).2.kind, .int .i64 (stepM m).2.cell, .float .f64 (stepM m).2.x, .bool (stepM m).2.first]) ∧ Rg W F0 br bl K w' (stepM m).1 cs) := fun W F0 br bl K v m h hI => rstep_any h hI
  have HGV : Hid (∀ W F0 br bl K v m x, Rg W F0 br bl K v m cs → Inv m → Calls Tryz.prog 41 #[.pointer (some ⟨br, 0, none⟩), .float .f64 x] v fun r w' => r = .returned (.int .i64 (giveE m)) ∧ Rg W F0 br bl K w' (giveM m x) cs) := fun W F0 br bl K v m x h hI => rgive_any h hI x
  have hlt : gn < w.heap.size := hN.blw gn (by simp [fpR])
  have HROW : Hid (∀ u W F0 br bl K v m, Below w.heap.size w u → Below u.heap.size u W → Abv u.heap.size [br, bl] → Rg W F0 br bl K v m cs → RowAt 50 v (some ⟨gn, 0, none⟩) cn (fls s) ∧ Below w.heap.size w v) := fun u W F0 br bl K v m h1 h2 h3 h4 => by
    obtain ⟨_, _, _, ht, _⟩ := h4
    have hb := h1.trans (h2.mono h1.size)
    exact ⟨(hN.on hb).turn ht (fun x hx y => by simp [fpR] at hx; subst hx; have := h3 _ y; have := h1.size; omega), hb.trans (ht.below (h3.mono h1.size) hb.size)⟩
  have HM : Hid (Rest (newM a c e t cs l) ∧ okS s ∧ s.length = ns ∧ (newM a c e t cs l).cells = ns) := ⟨hRE, hs, hns, hgg.2.1.symm⟩
  have hk8 : ¬ (8 : Int) < (k : Int) := by have := hgg.2.2; omega
  have hna : ((ns : Int) != a) = false := by have := hgg.2.1; simpa using this
  clear hn hk hC hx hL hl hnl hN hs hg hgg hRE hns
  generalize newM a c e t cs l = m0 at *
  go_enter Tryz.func24, Tryz.ntmps24
  go_wp2_with (first
    | (go_at_call 39; refine (HN.out _ (HX.out _ B1.out).2).mono ?_; rintro r u2 ⟨br, bl, F0, K, rfl, q1, q2, q3, q4⟩; have G2 := Lib.hid q1; have A2 := Lib.hid (And.intro q2 (And.intro q3 q4)); have B2 := Lib.hid (B1.out.trans (q4.mono B1.out.size)); clear q1 q2 q3 q4)
    | (go_at_call 23; refine HP.out.mono ?_; rintro r u0 ⟨rfl, q⟩; have q1 := q.alloc q.size (.cells #[.int .i64 0, .int .i64 1, .int .i64 2, .int .i64 3, .int .i64 (3 + b), .int .i64 (3 + b + 3 * a)] 71); obtain ⟨⟨z0, z1, z2, z3, z4⟩, t0, t1, t2⟩ := HB4.out _ q1; have B1 := Lib.hid q1; clear q q1))
  go_loopg [13] 1100 (fun gk _ wr => ∃ mk, Hid (Rg u2 F0 br bl K wr mk cs ∧ Rest mk ∧ endM s mk = endM s m0 ∧ mk.cells = ns ∧ (mk.how = 0 → 1025 - mk.used < (gk : Int))))
  case atStart => exact ⟨m0, G2.out, HM.out.1, rfl, HM.out.2.2.2, fun _ => by have := HM.out.1.inv.used; omega⟩
  case round =>
    obtain ⟨mk, HR⟩ := hrel
    obtain ⟨_, _, _, ⟨_, _, _, _, _, _, h14⟩, ⟨_, _, hbr⟩, _⟩ := HR.out.1.looks
    have HKP : Hid (RowAt 50 wr (some ⟨gn, 0, none⟩) cn (fls s) ∧ Below w.heap.size w wr) := HROW.out _ _ _ _ _ _ _ _ (HX.out _ B1.out).2 A2.out.2.2 A2.out.2.1 HR.out.1
    by_cases h0 : mk.how = 0
    · have hkk := go_kinds (s := s) HR.out.2.1 h0 (by rw [HM.out.2.2.1]; exact HR.out.2.2.2.1)
      have HSTk := Lib.hid (HST.out _ _ _ _ _ _ _ HR.out.1 HR.out.2.1.inv)
      have HIN := Lib.hid (inv_step HR.out.2.1.inv)
      have hus := HR.out.2.1.inv.used
      have hfu := HR.out.2.1.inv.fuel
      have hms := HR.out.2.2.2.2 h0
      have HG0 : Hid (Rest (goM s mk) ∧ endM s (goM s mk) = endM s m0 ∧ (goM s mk).cells = ns ∧ ((goM s mk).how = 0 → 1025 - (goM s mk).used < ((gk - 1 : Nat) : Int))) := by
        obtain ⟨hl, _, hd⟩ := go_turns (s := s) HR.out.2.1.inv HR.out.2.1.nw h0
        refine ⟨HR.out.2.1.go HM.out.2.1, (endM_go HM.out.2.1 HR.out.2.1).trans HR.out.2.2.1, hl.cells.trans HR.out.2.2.2.1, fun hh => ?_⟩
        rcases hd with ⟨_, g3⟩ | ⟨_, _, g4⟩
        · exact absurd hh g3
        · omega
      have hgk : gk - 1 < gk := by omega
      clear HR hus hfu hms
      generalize hmg : goM s mk = mg at HG0 hkk
      generalize stepM mk = r at HSTk HIN hkk
      obtain ⟨m', ⟨kd, cl, xx, fi⟩⟩ := r
      dsimp only at HSTk HIN hkk
      clear hmg
      rcases hkk with ⟨rfl, j, rfl, hj, rfl⟩ | ⟨h1, rfl⟩
      · have hj1 : (j : Int) < (ns : Int) := by have := HM.out.2.2.1; omega
        have HGVk : Hid (∀ v, Rg u2 F0 br bl K v m' cs → Calls Tryz.prog 41 #[.pointer (some ⟨br, 0, none⟩), .float .f64 (s.getD j 0)] v fun r w' => r = .returned (.int .i64 (giveE m')) ∧ Rg u2 F0 br bl K w' (giveM m' (s.getD j 0)) cs) := fun v h => HGV.out _ _ _ _ _ _ _ _ h HIN.out
        have HNUM : Hid (∀ v, Rg u2 F0 br bl K v m' cs → v.cell? ⟨gn, j, none⟩ = some (.float .f64 (s.getD j 0)) ∧ gn < v.heap.size) := fun v h => by
          have hrow := (HROW.out _ _ _ _ _ _ _ _ (HX.out _ B1.out).2 A2.out.2.2 A2.out.2.1 h).1
          obtain ⟨g, e1, e2, e3, _⟩ := Sx.row_num hrow j hj
          cases e1
          exact ⟨by rw [e3]; simp [hj], e2⟩
        generalize giveM m' (s.getD j 0) = mg at HGVk HG0
        generalize s.getD j 0 = y at HGVk HNUM
        clear HST HGV HROW HN HP HB4
        go_wp2_with (first
          | (go_at_call 41; refine (HGVk.out _ G3.out).mono ?_; rintro r u4 ⟨rfl, q⟩; have G4 := Lib.hid q; clear q)
          | (go_at_call 40; refine HSTk.out.mono ?_; rintro r u3 ⟨rfl, q⟩; have q1 := q.alloc (askO ⟨1, j, xx, fi⟩); obtain ⟨n0, n1⟩ := HNUM.out _ q1; have G3 := Lib.hid q1; clear q q1))
        go_roundg (gk - 1)
        case measure => exact hgk
        case rel => exact ⟨mg, G4.out, HG0.out⟩
      · clear HST HGV HROW HN HP HB4
        go_wp2_with (go_at_call 40; refine HSTk.out.mono ?_; rintro r u3 ⟨rfl, q⟩; have G3 := Lib.hid (q.alloc (askO ⟨kd, cl, xx, fi⟩)); clear q)
        go_roundg (gk - 1)
        case measure => exact hgk
        case rel => exact ⟨mg, G3.out, HG0.out⟩
    · have HC : Hid (mk.cells = ns) := HR.out.2.2.2.1
      have HE : Hid (endM s m0 = mk ∧ Rest mk) := ⟨by rw [← HR.out.2.2.1]; exact runN_over HR.out.2.1.nw h0 _, HR.out.2.1⟩
      have hAF : Abv (u0.alloc (.cells #[.int .i64 0, .int .i64 1, .int .i64 2, .int .i64 3, .int .i64 (3 + b), .int .i64 (3 + b + 3 * a)] 71)).heap.size F0 := A2.out.1
      obtain ⟨q, hd⟩ := HR.out.1.done hAF A2.out.2.2.size
      have hw1 : w.heap.size + 1 + 1 < (u0.alloc (.cells #[.int .i64 0, .int .i64 1, .int .i64 2, .int .i64 3, .int .i64 (3 + b), .int .i64 (3 + b + 3 * a)] 71)).heap.size := lt_of_block (HX.out _ B1.out).1
      have HBX : Hid (wr.heap[w.heap.size + 1 + 1]? = some resZ) := by
        obtain ⟨_, _, _, ht, _⟩ := HR.out.1
        refine (ht.block _ (lt_of_block (HX.out _ B2.out).1) (fun y => ?_)).trans (HX.out _ B2.out).1
        have := A2.out.2.1 _ y
        omega
      have HD := Lib.hid hd
      have HTW : Hid (Turn [gn] [gn] w wr) := Below.turn HKP.out.2 [gn]
      have HLW : Hid (gn < (u0.alloc (.cells #[.int .i64 0, .int .i64 1, .int .i64 2, .int .i64 3, .int .i64 (3 + b), .int .i64 (3 + b + 3 * a)] 71)).heap.size) := Nat.lt_of_lt_of_le hlt (HX.out _ B1.out).2.size
      have HW1 := Lib.hid hw1
      obtain ⟨⟨c12, c14, c15, c16⟩, c17, c18, c19, cbr⟩ := hd.cells
      clear hAF hd hw1 HST HGV HROW HN HP HB4 G2 A2 HR
      have hgg : gn ≠ w.heap.size + 1 + 1 := by omega
      have HGN := Lib.hid hgg
      by_cases h1 : mk.how = 1
      · obtain ⟨wo, rfl⟩ : ∃ wo : World, wo = wr := ⟨_, rfl⟩
        have HAF : Hid (aftS s mk = Sx.foldL s mk.buf) := if_pos h1
        have HRE := Lib.hid HE.out.2
        have HNS := Lib.hid HM.out.2.2.1
        have HCE : Hid (∀ j, j < mk.buf.length → ∃ i : Nat, (mk.buf.getD j (0, 0)).1 = (i : Int) ∧ i < s.length) := fun j hj => by
          have := HRE.out.cel (mk.buf.getD j (0, 0)) (by simp [hj])
          rw [HC.out] at this
          exact ⟨(mk.buf.getD j (0, 0)).1.toNat, by omega, by have := HNS.out; omega⟩
        have HTL : Hid (∀ v, Turn [gn] [gn] wo v → TlAt v q.pb mk.buf) := fun v t => (HD.out.turn t HLW.out).buf.tl
        have hnb : (mk.buf.length : Int) ≤ 32 := by have := HRE.out.inv.few; have := HRE.out.inv.wmax; omega
        generalize hpb : q.pb = pb at HTL c19
        generalize hnn : mk.buf.length = nb at HTL c19 hnb HCE
        have HPB : Hid (q.pb = pb ∧ mk.buf.length = nb) := ⟨hpb, hnn⟩
        clear hpb hnn c15 c16 c17 c18 c12
        go_wp2
        go_loopw [69] (fun vi wq => ∃ j : Nat, vi = .int .i64 j ∧ j ≤ nb ∧ Hid (RowAt 50 wq (some ⟨gn, 0, none⟩) cn (fls (Sx.foldL s (mk.buf.take j))) ∧ Turn [gn] [gn] wo wq)) (fun vi _ => nb - (intOf vi).toNat)
        case atStart => exact ⟨0, rfl, Nat.zero_le _, HKP.out.1, Turn.refl _ _⟩
        case round =>
          obtain ⟨j, rfl, hj, HQ⟩ := hrel
          by_cases hlt2 : j < nb
          · have hlt3 : (j : Int) < (nb : Int) := by omega
            obtain ⟨g, o, rfl, hgl, k0, k1⟩ := HTL.out _ HQ.out.2 j (by rw [HPB.out.2]; exact hlt2)
            obtain ⟨i, hi1, hi2⟩ := HCE.out j hlt2
            have hi3 : (i : Int) < (ns : Int) := by have := HNS.out; omega
            obtain ⟨g2, e1, e2, e3, e4⟩ := Sx.row_num HQ.out.1 i (by rw [Sx.foldL_len]; exact hi2)
            cases e1
            have HNX : Hid (∀ ob, RowAt 50 ((wr.setCell ⟨gn, i, none⟩ (.float .f64 (mk.buf.getD j (0, 0)).2)).alloc ob) (some ⟨gn, 0, none⟩) cn (fls (Sx.foldL s (mk.buf.take (j + 1)))) ∧ Turn [gn] [gn] wo ((wr.setCell ⟨gn, i, none⟩ (.float .f64 (mk.buf.getD j (0, 0)).2)).alloc ob)) := fun ob => by
              have hp := row_put HQ.out.1 i (.float .f64 (mk.buf.getD j (0, 0)).2)
              rw [fls_set, foldL_take HRE.out s (by rw [HPB.out.2]; exact hlt2) hi2 hi1] at hp
              exact ⟨hp.1.on (below_alloc _ ob), HQ.out.2.trans (hp.2.trans (Below.turn (below_alloc _ ob) [gn]))⟩
            rw [hi1] at k0
            generalize (mk.buf.getD j (0, 0)).2 = y at k1 HNX
            generalize (Sx.foldL s (mk.buf.take j))[i]'(by rw [Sx.foldL_len]; exact hi2) = y0 at e3
            clear hi1 hi2
            go_wp2
            exact ⟨⟨j + 1, by first | rfl | (congr 1), by omega, HNX.out _⟩, by simp [intOf]; omega⟩
          · have hlt3 : ¬ (j : Int) < (nb : Int) := by omega
            have e : j = nb := by omega
            subst e
            have HRW : Hid (RowAt 50 wr (some ⟨gn, 0, none⟩) cn (fls (Sx.foldL s mk.buf))) := by
              have := HQ.out.1
              rwa [← HPB.out.2, List.take_length] at this
            have HD2 := Lib.hid (HD.out.turn HQ.out.2 HLW.out)
            have HBX2 : Hid (wr.heap[w.heap.size + 1 + 1]? = some resZ) := (HQ.out.2.block _ (lt_of_block HBX.out) (by simp; have := HGN.out; omega)).trans HBX.out
            have HTW2 := Lib.hid (HTW.out.trans HQ.out.2)
            obtain ⟨⟨c12, c14, c15, c16⟩, c17, c18, c19, cbr⟩ := HD2.out.cells
            obtain ⟨⟨x0, x1, x2, x3, x4, x5, x6, x7⟩, y0, y1, y2, y3, y4, y5, y6⟩ := cells7_of HBX2.out
            clear HTL HCE
            go_wp2
            go_region
            all_goals (try go_wp2)
            have hcl := rrun_close HTW2.out HRW.out HD2.out HBX2.out (Nat.le_add_right _ 2) HW1.out HGN.out (Same.drew _)
            rw [HE.out.1, HAF.out]
            rw [h1] at hcl
            exact res_back2 rfl (w.heap.size + 1 + 1) ⟨q.pt, q.ct, q.pr, q.cr, q.pb, q.cb⟩ mk 0 rfl rfl hcl.1 rfl ⟨_, rfl, hcl.2.1.mono (HX.out _ B1.out).2.size, hcl.2.2.1, hcl.2.2.2⟩
      · have HAF : Hid (aftS s mk = s) := if_neg h1
        obtain ⟨⟨x0, x1, x2, x3, x4, x5, x6, x7⟩, y0, y1, y2, y3, y4, y5, y6⟩ := cells7_of HBX.out
        go_wp2
        go_region
        all_goals (try go_wp2)
        have hcl := rrun_close HTW.out HKP.out.1 HD.out HBX.out (Nat.le_add_right _ 2) HW1.out HGN.out (Same.drew _)
        rw [HE.out.1, HAF.out]
        exact res_back2 rfl (w.heap.size + 1 + 1) ⟨q.pt, q.ct, q.pr, q.cr, q.pb, q.cb⟩ mk 0 rfl rfl hcl.1 rfl ⟨_, rfl, hcl.2.1.mono (HX.out _ B1.out).2.size, hcl.2.2.1, hcl.2.2.2⟩
/-- the document's Run, whatever it is called with -/
theorem rrun_any {w : World} {a b c e t : Int} {ao : Option Addr} {cs : List Ins} {n cap : Nat} {po : Option Addr} {l : List Nat} {k co : Nat} {s : List Nat} {gn ns cn : Nat} (hn : cs.length = n) (hk : l.length = k) (hC : CodeAt w ao cs) (hx : ∀ i ∈ cs, i.x < 18446744073709551616) (hL : FlAt w po l) (hl : ∀ x ∈ l, x < 18446744073709551616) (hnl : n ≤ 9223372036854775807) (hns : s.length = ns) (hN : RowAt 50 w (some ⟨gn, 0, none⟩) cn (fls s)) (hs : okS s) : Calls Tryz.prog 24 #[cfgV a b c e, .agg #[.int .i64 t, .slice ao n cap], .slice po k co, .slice (some ⟨gn, 0, none⟩) ns cn] w fun r w' => ∃ R, r = .returned (.tuple #[resV R (runR a b c e t cs l s), .int .i64 (runE a b c e ns k)]) ∧ WantB w' w.heap.size R (runR a b c e t cs l s) ∧ RowAt 50 w' (some ⟨gn, 0, none⟩) cn (fls (aftS s (runR a b c e t cs l s))) ∧ Turn [gn] [gn] w w' := by
  unfold runR runE
  rw [hk, hns]
  cases hg : goodB a b c e ns k with
  | true =>
    rw [if_pos rfl, if_pos rfl]
    exact rrun_good hn hk hC hx hL hl hnl hns hN hs hg
  | false =>
    rw [if_neg Bool.false_ne_true, if_neg Bool.false_ne_true]
    exact (rrun_bad hg).mono fun r w' ⟨q1, q2⟩ => ⟨_, q1, want_noneB w' _, hN.on q2, Below.turn q2 [gn]⟩
end Go.Proofs.YtmlklnimkgnbkaaGreatDoor
namespace Go.Proofs.YtmlklnimkgnbkaaGreatDoor
open Go.ChangeShapes Go.WideShapes Go.ChangeAt Go.RowKit Num
attribute [local go_sem] run_store_float

/-! a result written over -/
/-- rows that may be written over, the list of two of them, the result's box -/
structure Spl (B w0 w : World) (gs bx : Nat) (o : Obj) (L : List (Option Addr × Nat × Nat)) (t0 : Option Addr × Nat × Nat) : Prop where
  bel : Below B.heap.size w0 w
  wide : ∀ t ∈ L, Wide B w 56 2 t
  new : ∀ t ∈ L, ∀ g, t.1 = some ⟨g, 0, none⟩ → g ≠ gs ∧ g ≠ bx
  row : w.heap[gs]? = some (.cells (L.map fun t => Value.slice t.1 t.2.1 t.2.2).toArray 42 (0, 0))
  box : w.heap[bx]? = some o
  wo : Wide B w 50 1 t0
theorem Spl.put {B w0 w : World} {gs bx : Nat} {o : Obj} {L : List (Option Addr × Nat × Nat)} {t0 : Option Addr × Nat × Nat} (h : Spl B w0 w gs bx o L t0) {g : Nat} (hg : B.heap.size ≤ g) (hn : g ≠ gs ∧ g ≠ bx) (i : Nat) (v : Value) : Spl B w0 (w.setCell ⟨g, i, none⟩ v) gs bx o L t0 :=
  ⟨h.bel.setCell hg v, fun t ht => (h.wide t ht).put g i v, h.new, (heap_setCell_other _ _ _ _ (by simpa using hn.1.symm)).trans h.row, (heap_setCell_other _ _ _ _ (by simpa using hn.2.symm)).trans h.box, h.wo.put g i v⟩
theorem Spl.get {B w0 w : World} {gs bx : Nat} {o : Obj} {L : List (Option Addr × Nat × Nat)} {t0 : Option Addr × Nat × Nat} (h : Spl B w0 w gs bx o L t0) {j : Nat} {t : Option Addr × Nat × Nat} (hj : L[j]? = some t) : w.cell? ⟨gs, j, none⟩ = some (.slice t.1 t.2.1 t.2.2) ∧ gs < w.heap.size := by
  refine ⟨?_, lt_of_block h.row⟩
  rw [cell_of_row _ _ _ _ _ _ h.row]
  simp [hj]
theorem Wide.lt {B w : World} {T : TypeId} {sz : Nat} {t : Option Addr × Nat × Nat} (h : Wide B w T sz t) {g : Nat} (hg : t.1 = some ⟨g, 0, none⟩) : g < w.heap.size := by
  rcases h with ⟨z, _⟩ | ⟨g', arr, z, _, hb, _⟩
  · rw [hg] at z; cases z
  · rw [hg] at z; cases z; exact lt_of_block hb
end Go.Proofs.YtmlklnimkgnbkaaGreatDoor
namespace Go.Proofs.YtmlklnimkgnbkaaGreatDoor
open Go.ChangeShapes Go.WideShapes Go.ChangeAt Go.RowKit Num
attribute [local go_sem] run_store_float

/-! AloneRuns -/
theorem FlAt.keep {w w' : World} {p : Option Addr} {l : List Nat} (h : FlAt w p l) (k : Kept (fpR p) w w') : FlAt w' p l := fun j hj => by
  obtain ⟨g, o, e, hg, hc⟩ := h j hj
  subst e
  exact ⟨g, o, rfl, Nat.lt_of_lt_of_le hg k.1, (World.cell?_of_block (a := ⟨g, o + j, none⟩) (k.2 g (by simp [fpR]))).trans hc⟩
theorem make_one (k : Nat) {kk : Nat} (hkk : kk = k + 1) (hb : kk * 8 ≤ 281474976710656) : ∃ arr : Array Value, arr.size = kk ∧ ∀ w : World, (Instr.makeSlice 26 (.int .i64 0) (.int .i64 ((k : Int) + 1))).run Tryz.prog w = .ok (.slice (some ⟨w.heap.size, 0, none⟩) 0 kk) (w.alloc (.cells arr 50)) := by
  obtain ⟨i, hi, hz0, hz1, hz2⟩ := info_parts fInfo
  subst hkk
  refine ⟨madeCells (Value.float .f64 0).cells ((k + 1) * i.size), by rw [size_madeCells, hz1, Nat.mul_one], fun w => ?_⟩
  rw [run_make w 26 50 i (.float .f64 0) Tryz.underlying26 hi hz0 .i64 .i64 0 ((k : Int) + 1) (Int.le_refl _) (by omega) (by rw [hz2]; omega) (by omega)]
  rw [show ((k : Int) + 1).toNat = k + 1 by omega]
  rfl
theorem copy_row9 {w : World} {p : Option Addr} {l : List Nat} {k c kk : Nat} {arr : Array Value} (hkk : kk = k + 1) (hk : l.length = k) (hL : FlAt w p l) (ha : arr.size = kk) (ty : TypeId) : ∃ v u, (Builtin.append_ #[26, 26] ty #[.slice (some ⟨w.heap.size, 0, none⟩) 0 kk, .slice p k c]).run Tryz.prog (w.alloc (.cells arr 50)) = .ok v u ∧ (v = .slice (some ⟨w.heap.size, 0, none⟩) k kk ∧ FlAt u (some ⟨w.heap.size, 0, none⟩) l ∧ Below w.heap.size w u ∧ w.heap.size < u.heap.size) := by
  obtain ⟨i, hi, hz0, hz1, hz2⟩ := info_parts fInfo
  subst hk
  have hb := below_alloc w (.cells arr 50)
  have hbx := heap_alloc_new w (.cells arr 50)
  have hs := src_fl c (hL.on hb)
  have hth : ∀ a, a < (fls l).length → ((w.alloc (.cells arr 50)).cell? ⟨w.heap.size, a, none⟩).isSome = true ∧ (w.alloc (.cells arr 50)).frozen? ⟨w.heap.size, a, none⟩ = false := fun a hal => by
    rw [fls_len] at hal
    refine ⟨?_, frozen_of_row _ _ _ _ _ hbx⟩
    rw [cell_of_row _ _ _ _ _ _ hbx, Array.getElem?_eq_getElem (by omega)]
    rfl
  rw [← hz1] at hs
  have r := run_append_room_src (P := Tryz.prog) (w.alloc (.cells arr 50)) 26 26 ty 50 i Tryz.underlying26 hi w.heap.size 0 0 kk (.slice p l.length c) l.length (fls l) hs (by omega) (fun a hal => by rw [Nat.zero_mul, Nat.zero_add]; exact (hth a hal).1) (fun a hal => by rw [Nat.zero_mul, Nat.zero_add]; exact (hth a hal).2)
  rw [Nat.zero_add, Nat.zero_mul] at r
  have t3 := turn_setCells w.heap.size (fls l) 0 (w.alloc (.cells arr 50))
  have hb3 := hb.trans (t3.below (B := w.heap.size) (fun x hx => by simp at hx; omega) hb.size)
  refine ⟨_, _, r, rfl, fun j hj => ⟨w.heap.size, 0, rfl, Nat.lt_of_lt_of_le (lt_of_block hbx) t3.size, ?_⟩, hb3, Nat.lt_of_lt_of_le (lt_of_block hbx) t3.size⟩
  have := World.rangeAt_setCells_same (w.alloc (.cells arr 50)) w.heap.size 0 (fls l) (fun a hal => by rw [Nat.zero_add]; exact hth a hal) j _ (fls_get hj)
  exact this
structure Rnd (N0 wr : World) (b1 : Nat) (F : List Nat) (gn cn ns : Nat) (s : List Nat) : Prop where
  ok : okS s
  len : s.length = ns
  cel : Sx.Cel 77 wr b1 F s
  row : RowAt 50 wr (some ⟨gn, 0, none⟩) cn (fls s)
  bel : Below N0.heap.size N0 wr
theorem Rnd.on {N0 wr u : World} {b1 : Nat} {F : List Nat} {gn cn ns : Nat} {s : List Nat} (h : Rnd N0 wr b1 F gn cn ns s) (k : Below wr.heap.size wr u) : Rnd N0 u b1 F gn cn ns s := ⟨h.ok, h.len, h.cel.on k, h.row.on k, h.bel.trans (k.mono h.bel.size)⟩
theorem Rnd.past {N0 wr u : World} {b1 : Nat} {F : List Nat} {gn cn ns n : Nat} {s : List Nat} (h : Rnd N0 wr b1 F gn cn ns s) (k : Below n wr u) (hF : ∀ x ∈ F, x < n) (hg : gn < n) (hN : N0.heap.size ≤ n) : Rnd N0 u b1 F gn cn ns s :=
  ⟨h.ok, h.len, h.cel.keep ⟨k.size, fun i hi => k.block i (hF i hi)⟩, h.row.keep ⟨k.size, fun i hi => by simp [fpR] at hi; subst hi; exact k.block _ hg⟩, h.bel.trans (k.mono hN)⟩
/-- both ran: the state and the list are the same again -/
theorem Rnd.ran {N0 ua u3 u4 : World} {b1 : Nat} {F : List Nat} {gn cn ns : Nat} {s sa : List Nat} {o : Obj} (h : Rnd N0 ua b1 F gn cn ns s) (hA : Abv N0.heap.size F) (hg : N0.heap.size ≤ gn) (hnf : gn ∉ F) (hok : okS sa) (hl : sa.length = ns) (hc : Sx.Cel 77 u3 b1 F sa) (t3 : Turn F F ua u3) (hr : RowAt 50 u4 (some ⟨gn, 0, none⟩) cn (fls sa)) (t4 : Turn [gn] [gn] (u3.alloc o) u4) : Rnd N0 u4 b1 F gn cn ns sa := by
  have hb := t3.shaped h.bel hA
  have hb2 := hb.alloc hb.size o
  exact ⟨hok, hl, (hc.on (below_alloc _ o)).turn t4 (fun x hx y => by simp at y; subst y; exact hnf hx), hr, hb2.trans (t4.below (fun x hx => by simp at hx; omega) hb2.size)⟩
theorem pow_ok {n : Nat} (h : n * 8 ≤ reachBytes) : n * 8 ≤ 140737488355328 := by
  have h2 := reachBytes_lt
  have e3 : (2 : Nat) ^ 47 = 140737488355328 := by decide
  omega
end Go.Proofs.YtmlklnimkgnbkaaGreatDoor
