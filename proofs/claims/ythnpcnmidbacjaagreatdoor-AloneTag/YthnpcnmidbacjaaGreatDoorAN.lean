import Derived.Test.YthnpcnmidbacjaaGreatDoorA3
import Derived.Test.YthnpcnmidbacjaaGreatDoorA8
namespace Go.Proofs.YthnpcnmidbacjaaGreatDoor
open Go.ChangeShapes Go.WideShapes Go.ChangeAt Go.RowKit Num

/-! with more fuel and room for more writes -/
def liftM (m : Mac) : Mac := { m with fuel := 1024, wmax := 32 }
theorem give_lift (m : Mac) (x : Nat) : giveM (liftM m) x = liftM (giveM m x) := by
  unfold giveM
  by_cases h : 0 ≤ m.wait
  · rw [if_pos h, if_pos (show 0 ≤ (liftM m).wait from h)]
    rfl
  · rw [if_neg h, if_neg (show ¬ 0 ≤ (liftM m).wait from h)]
theorem mayP_more {m : Int} {l : Wr} {c : Int} (h : mayP m l c = true) (hm : m ≤ 32) : mayP 32 l c = true := by
  unfold mayP at h ⊢
  rw [Bool.or_eq_true] at h ⊢
  rcases h with h | h
  · exact .inl h
  · refine .inr ?_
    have := of_decide_eq_true h
    exact decide_eq_true (by omega)
theorem do_lift {m : Mac} (hwm : m.wmax ≤ 32) {k : Nat} {n : Int} {x : Nat} (hk : 1 ≤ k ∧ k < 21) (he : (doM (begM m) ⟨k, n, x⟩).1.err ≠ 70) : doM (begM (liftM m)) ⟨k, n, x⟩ = (liftM (doM (begM m) ⟨k, n, x⟩).1, (doM (begM m) ⟨k, n, x⟩).2) := by
  have hkk : k = 1 ∨ k = 2 ∨ k = 3 ∨ k = 4 ∨ k = 5 ∨ k = 6 ∨ k = 7 ∨ k = 8 ∨ k = 9 ∨ k = 10 ∨ k = 11 ∨ k = 12 ∨ k = 13 ∨ k = 14 ∨ k = 15 ∨ k = 16 ∨ k = 17 ∨ k = 18 ∨ k = 19 ∨ k = 20 := by omega
  rcases hkk with rfl | rfl | rfl | rfl | rfl | rfl | rfl | rfl | rfl | rfl | rfl | rfl | rfl | rfl | rfl | rfl | rfl | rfl | rfl | rfl
  iterate 14 rfl
  · show retM (begM (liftM m)) = (liftM (retM (begM m)).1, (retM (begM m)).2)
    cases hc : (begM m).calls with
    | nil => rw [retM_nil hc, retM_nil (show (begM (liftM m)).calls = [] from hc)]; rfl
    | cons c q => rw [retM_cons hc, retM_cons (show (begM (liftM m)).calls = c :: q from hc)]; rfl
  · show readM (begM (liftM m)) = (liftM (readM (begM m)).1, (readM (begM m)).2)
    unfold readM
    cases ha : addrB (begM m) with
    | false => rw [if_neg (show ¬ addrB (begM (liftM m)) = true by rw [show addrB (begM (liftM m)) = addrB (begM m) from rfl, ha]; decide)]; rfl
    | true =>
      rw [if_pos (show addrB (begM (liftM m)) = true from ha)]
      cases hh : hasC (begM m).buf (addrV (begM m)) with
      | false => rw [if_neg (show ¬ hasC (begM (liftM m)).buf (addrV (begM (liftM m))) = true by rw [show hasC (begM (liftM m)).buf (addrV (begM (liftM m))) = hasC (begM m).buf (addrV (begM m)) from rfl, hh]; decide)]; rfl
      | true => rw [if_pos (show hasC (begM (liftM m)).buf (addrV (begM (liftM m))) = true from hh)]; rfl
  · replace he : (writeM (begM m)).1.err ≠ 70 := he
    show writeM (begM (liftM m)) = (liftM (writeM (begM m)).1, (writeM (begM m)).2)
    unfold writeM at he ⊢
    by_cases hu : (begM m).upd = true
    · rw [if_pos hu] at he ⊢
      rw [if_pos (show (begM (liftM m)).upd = true from hu)]
      by_cases ha : addrB (begM m) = true
      · rw [if_pos ha] at he ⊢
        rw [if_pos (show addrB (begM (liftM m)) = true from ha)]
        by_cases hp : mayP (begM m).wmax (begM m).buf (addrV (begM m)) = true
        · rw [if_pos hp, if_pos (show mayP (begM (liftM m)).wmax (begM (liftM m)).buf (addrV (begM (liftM m))) = true from mayP_more hp hwm)]
          rfl
        · rw [if_neg hp] at he
          exact absurd rfl he
      · rw [if_neg ha, if_neg (show ¬ addrB (begM (liftM m)) = true from ha)]
        rfl
    · rw [if_neg hu, if_neg (show ¬ (begM (liftM m)).upd = true from hu)]
      rfl
  · rfl
  · rfl
  · rfl
theorem step_lift {m : Mac} (h : Inv m) (hw : ¬ 0 ≤ m.wait) (h0 : m.how = 0) (he : (stepM m).1.err ≠ 80) (he2 : (stepM m).1.err ≠ 70) : stepM (liftM m) = (liftM (stepM m).1, (stepM m).2) := by
  unfold stepM at he he2 ⊢
  rw [if_neg hw, if_pos h0] at he he2 ⊢
  rw [if_neg (show ¬ 0 ≤ (liftM m).wait from hw), if_pos (show (liftM m).how = 0 from h0)]
  by_cases hf : m.used < m.fuel
  · rw [if_pos hf] at he he2 ⊢
    rw [if_pos (show (liftM m).used < (liftM m).fuel by have := h.fuel.2; show m.used < 1024; omega)]
    by_cases hp : m.place < (m.code.length : Int)
    · rw [if_pos hp] at he he2 ⊢
      rw [if_pos (show (liftM m).place < ((liftM m).code.length : Int) from hp)]
      have hk : m.place.toNat < m.code.length := by have := h.place; omega
      have hmay := h.may _ hk
      cases hr : roomB (begM m) (insM m) with
      | false => rw [if_neg (show ¬ roomB (begM (liftM m)) (insM (liftM m)) = true by rw [show roomB (begM (liftM m)) (insM (liftM m)) = roomB (begM m) (insM m) from rfl, hr]; decide)]; rfl
      | true =>
        rw [if_pos (show roomB (begM (liftM m)) (insM (liftM m)) = true from hr)]
        rw [hr, if_pos rfl] at he2
        rw [if_pos rfl]
        show doM (begM (liftM m)) (insM m) = _
        unfold insM at he2 ⊢
        rcases hci : ci m.code m.place.toNat with ⟨o, n, x⟩
        rw [hci] at hmay he2
        obtain ⟨q, hq⟩ : ∃ q : Nat, o = q := ⟨o.toNat, by have := hmay.1; unfold mayB knownB at this; simp at this; omega⟩
        subst hq
        exact do_lift h.wmax.2 (fits_parts hmay.1).1 he2
    · rw [if_neg hp, if_neg (show ¬ (liftM m).place < ((liftM m).code.length : Int) from hp)]
      rfl
  · rw [if_neg hf] at he
    exact absurd rfl he
theorem go_lift {s : List Nat} {m : Mac} (h : Inv m) (hw : ¬ 0 ≤ m.wait) (h0 : m.how = 0) (he : (stepM m).1.err ≠ 80) (he2 : (stepM m).1.err ≠ 70) : goM s (liftM m) = liftM (goM s m) := by
  unfold goM
  rw [step_lift h hw h0 he he2]
  show (if (stepM m).2.kind = 1 then giveM (liftM (stepM m).1) (Sx.getV s (stepM m).2.cell) else liftM (stepM m).1) = _
  split
  · exact give_lift _ _
  · rfl
theorem err_zero {m : Mac} (h : Inv m) (h0 : m.how = 0) : m.err = 0 := by
  by_cases he : m.err = 0
  · exact he
  · have := h.fail.2 he
    omega
theorem run_lift {s : List Nat} (hs : okS s) : ∀ (k : Nat) {m : Mac}, Rest m → (runN s k m).err ≠ 80 → (runN s k m).err ≠ 70 → runN s k (liftM m) = liftM (runN s k m)
  | 0, _, _, _, _ => rfl
  | k + 1, m, h, h8, h7 => by
    rw [runN_cons] at h8 h7 ⊢
    rw [runN_cons]
    by_cases h0 : m.how = 0
    · have hA : (stepM m).1.err ≠ 80 ∧ (stepM m).1.err ≠ 70 := by
        obtain ⟨_, g1, ⟨g2, g3⟩ | ⟨g2, g3, g4⟩⟩ := go_turns (s := s) h.inv h.nw h0
        · have e1 : goM s m = (stepM m).1 := go_kindN (by rw [g2]; decide)
          rw [runN_over g1 g3, e1] at h8 h7
          exact ⟨h8, h7⟩
        · have e1 : (stepM m).1.err = 0 := by
            have hi := inv_step h.inv
            refine err_zero hi ?_
            obtain ⟨_, ⟨k1, _⟩ | ⟨_, _, _, k4, _⟩ | ⟨_, _, k3, _⟩⟩ := step_turns h.inv h.nw h0
            · exact absurd k1 g2
            · exact k4
            · exact k3
          rw [e1]
          exact ⟨by decide, by decide⟩
      rw [go_lift h.inv h.nw h0 hA.1 hA.2]
      exact run_lift hs k (h.go hs) h8 h7
    · rw [go_over h.nw h0] at h8 h7 ⊢
      rw [go_over (show ¬ 0 ≤ (liftM m).wait from h.nw) (show (liftM m).how ≠ 0 from h0)]
      exact run_lift hs k h h8 h7
/-- what doesn't fail for want of either comes to the same with more of both -/
theorem end_lift {s : List Nat} (hs : okS s) {m : Mac} (h : Rest m) (h8 : (endM s m).err ≠ 80) (h7 : (endM s m).err ≠ 70) : endM s (liftM m) = liftM (endM s m) := run_lift hs 1025 h h8 h7
theorem new_lift (a f e t : Int) (c : List Ins) (l : List Nat) : newM a 1024 32 t c l = liftM (newM a f e t c l) := rfl
end Go.Proofs.YthnpcnmidbacjaaGreatDoor
namespace Go.Proofs.YthnpcnmidbacjaaGreatDoor
open Go.ChangeShapes Go.WideShapes Go.ChangeAt Go.RowKit Num
attribute [local go_sem] run_store_float

/-! AloneMore -/
set_option maxRecDepth 100000 in
theorem short_yes {w : World} {R : Rs} {m : Mac} (h : m.err = 80 ∨ m.err = 70) : Calls Tryz.prog 22 #[resV R m] w fun e w' => e = .returned (.bool true) ∧ Below w.heap.size w w' := by
  have HB := Lib.hid (below_alloc w (.cells (resC R m) 38))
  rcases h with h | h
  · have h1 : (m.err == 80) = true := by simp [h]
    clear h
    go_enter Tryz.func22, Tryz.ntmps22
    go_wp2
    go_ret
    exact ⟨rfl, HB.out⟩
  · have h1 : (m.err == 80) = false := by simp [h]
    have h2 : (m.err == 70) = true := by simp [h]
    clear h
    go_enter Tryz.func22, Tryz.ntmps22
    go_wp2
    go_ret
    exact ⟨rfl, HB.out⟩
set_option maxRecDepth 100000 in
theorem short_no {w : World} {R : Rs} {m : Mac} (h8 : m.err ≠ 80) (h7 : m.err ≠ 70) : Calls Tryz.prog 22 #[resV R m] w fun e w' => e = .returned (.bool false) ∧ Below w.heap.size w w' := by
  have HB := Lib.hid (below_alloc w (.cells (resC R m) 38))
  have h1 : (m.err == 80) = false := by simp [h8]
  have h2 : (m.err == 70) = false := by simp [h7]
  clear h8 h7
  go_enter Tryz.func22, Tryz.ntmps22
  go_wp2
  go_ret
  exact ⟨rfl, HB.out⟩
/-- a run is nothing, or at its end -/
theorem runR_good {a b c e t : Int} {cs : List Ins} {l s : List Nat} (hg : goodB a b c e s.length l.length = true) : runR a b c e t cs l s = endM s (newM a c e t cs l) := by unfold runR; rw [if_pos hg]
theorem runR_bad {a b c e t : Int} {cs : List Ins} {l s : List Nat} (hg : goodB a b c e s.length l.length = false) : runR a b c e t cs l s = zeroM := by unfold runR; rw [hg, if_neg Bool.false_ne_true]
theorem runR_rest {a b c e t : Int} {cs : List Ins} {l s : List Nat} (hs : okS s) (hx : ∀ i ∈ cs, i.x < 18446744073709551616) (hl : ∀ x ∈ l, x < 18446744073709551616) : runR a b c e t cs l s = zeroM ∨ Rest (runR a b c e t cs l s) := by
  cases hg : goodB a b c e s.length l.length with
  | false => exact .inl (runR_bad hg)
  | true =>
    refine .inr ?_
    rw [runR_good hg]
    unfold goodB at hg
    simp only [Bool.and_eq_true] at hg
    exact endM_rest hs (new_rest hg.1.1 (fun j hj => hx _ (List.mem_of_getElem? (ci_lt hj))) hl)
theorem runR_told {a b c e t : Int} {cs : List Ins} {l s : List Nat} (hs : okS s) (hx : ∀ i ∈ cs, i.x < 18446744073709551616) (hl : ∀ x ∈ l, x < 18446744073709551616) : Told (runR a b c e t cs l s) := by
  rcases runR_rest (a := a) (b := b) (c := c) (e := e) (t := t) hs hx hl with h | h
  · rw [h]; exact told_zero
  · exact h.tolds
theorem aft_ok {a b c e t : Int} {cs : List Ins} {l s : List Nat} (hs : okS s) (hx : ∀ i ∈ cs, i.x < 18446744073709551616) (hl : ∀ x ∈ l, x < 18446744073709551616) : okS (aftS s (runR a b c e t cs l s)) := by
  rcases runR_rest (a := a) (b := b) (c := c) (e := e) (t := t) hs hx hl with h | h
  · rw [h]; exact hs
  · exact aftS_ok hs h
theorem more_run {a b c e t : Int} {cs : List Ins} {l s : List Nat} (hs : okS s) (hx : ∀ i ∈ cs, i.x < 18446744073709551616) (hl : ∀ x ∈ l, x < 18446744073709551616) (hg : goodB a b c e s.length l.length = true) (h8 : (runR a b c e t cs l s).err ≠ 80) (h7 : (runR a b c e t cs l s).err ≠ 70) : goodB a b 1024 32 s.length l.length = true ∧ runR a b 1024 32 t cs l s = liftM (runR a b c e t cs l s) := by
  have hg2 : goodB a b 1024 32 s.length l.length = true := by
    unfold goodB at hg ⊢
    simp only [Bool.and_eq_true] at hg ⊢
    refine ⟨⟨?_, hg.1.2⟩, hg.2⟩
    have := Md.cfgB_iff.1 hg.1.1
    exact Md.cfgB_iff.2 ⟨this.1, this.2.1, by omega, by omega⟩
  refine ⟨hg2, ?_⟩
  rw [runR_good hg] at h8 h7 ⊢
  rw [runR_good hg2]
  unfold goodB at hg
  simp only [Bool.and_eq_true] at hg
  rw [new_lift a c e t cs l]
  exact end_lift hs (new_rest hg.1.1 (fun j hj => hx _ (List.mem_of_getElem? (ci_lt hj))) hl) h8 h7
end Go.Proofs.YthnpcnmidbacjaaGreatDoor
namespace Go.Proofs.YthnpcnmidbacjaaGreatDoor
open Go.ChangeShapes Go.WideShapes Go.ChangeAt Go.RowKit Num
attribute [local go_sem] run_store_float

set_option maxHeartbeats 8000000 in
set_option maxRecDepth 100000 in
theorem lawMore_any {W : World} {a b c e t : Int} {ao : Option Addr} {cs : List Ins} {n cap : Nat} {po : Option Addr} {l : List Nat} {k co : Nat} {ps : Option Addr} {st : List Nat} {ns cst : Nat} (hT : Shaped5 W) (hn : cs.length = n) (hk : l.length = k) (hC : CodeAt W ao cs) (hx : ∀ i ∈ cs, i.x < 18446744073709551616) (hL : FlAt W po l) (hl : ∀ x ∈ l, x < 18446744073709551616) (hnl : n ≤ 9223372036854775807) (hns : st.length = ns) (hS : FlAt W ps st) (hst : ∀ x ∈ st, x < 18446744073709551616) : Calls Tryz.prog 7 #[cfgV a b c e, .agg #[.int .i64 t, .slice ao n cap], .slice po k co, .slice ps ns cst] W fun r w' => r = .returned (.bool true) ∧ Below W.heap.size W w' := by
  have HLV := Lib.hid (live_any (hT.on (newW_below W a b c e t ao n cap)))
  cases hmay : Sx.mayN (ns : Int)
  · have HGN : Hid (∀ u, Calls Tryz.prog 10 #[.slice ps ns cst] u fun e w' => e = .returned (.tuple #[.pointer none, .bool true]) ∧ w' = u) := fun u => given_none hns hmay
    clear hT hC hx hL hl hS hst hnl hmay hn hk hns
    go_enter Tryz.func7, Tryz.ntmps7
    go_wp2_with (first
      | (go_at_call 10; refine (HGN.out _).mono ?_; rintro r w' ⟨rfl, hw⟩; subst w')
      | (go_at_call 9; refine HLV.out.mono ?_; rintro r u0 ⟨rfl, q⟩; obtain ⟨v0, v1, v2, v3, v4⟩ := newW_boxes4 q; obtain ⟨_, ⟨y0, y1, y2⟩, _⟩ := newW_boxes q; have B0 := Lib.hid q; clear q))
    go_ret
    exact ⟨rfl, (newW_boxes B0.out).2.2⟩
  · have HGI : Hid (∀ u, Below W.heap.size W u → Calls Tryz.prog 10 #[.slice ps ns cst] u fun e w' => ∃ b F, e = .returned (.tuple #[.pointer (some ⟨b, 0, none⟩), .bool true]) ∧ Sx.Cel 91 w' b F (st.map fixB) ∧ Abv u.heap.size F ∧ Below u.heap.size u w') := fun u hb => given_some hns (hS.on hb) hmay
    have hok : okS (st.map fixB) := okS_map hst
    have hsl : (st.map fixB).length = ns := by rw [List.length_map]; exact hns
    have HRN : Hid (∀ u b1 F, Below W.heap.size W u → Sx.Cel 91 u b1 F (st.map fixB) → Calls Tryz.prog 12 #[cfgV a b c e, .agg #[.int .i64 t, .slice ao n cap], .slice po k co, .pointer (some ⟨b1, 0, none⟩)] u fun r w' => ∃ R, r = .returned (.tuple #[resV R (runR a b c e t cs l (st.map fixB)), .int .i64 (runE a b c e (st.map fixB).length k)]) ∧ ResAt w' u.heap.size R (runR a b c e t cs l (st.map fixB)) ∧ Sx.Cel 91 w' b1 F (aftS (st.map fixB) (runR a b c e t cs l (st.map fixB))) ∧ Turn F F u w') := fun u b1 F hb hc => run_any (hT.on hb) hn hk (hC.on hb) hx (hL.on hb) hl hnl hc hok
    cases hg : goodB a b c e (st.map fixB).length k
    · have he : runE a b c e (st.map fixB).length k = 1 := by unfold runE; rw [hg]; rfl
      rw [he] at HRN
      generalize runR a b c e t cs l (st.map fixB) = m at HRN
      clear hT hC hx hL hl hS hst hnl hmay hn hk hns hok hsl he hg
      go_enter Tryz.func7, Tryz.ntmps7
      go_wp2_with (first
        | (go_at_call 12; refine (HRN.out _ _ _ (newW_boxes B2.out).2.2 D2.out).mono ?_; rintro r u3 ⟨R, rfl, q1, q2, q3⟩; have q4 := q3.shaped B2.out (A1.out.mono B0.out.size); have q5 := q4.alloc q4.size (.cells (resC R m) 38); obtain ⟨v0, v1, v2, v3, v4⟩ := newW_boxes4 q5; obtain ⟨_, ⟨y0, y1, y2⟩, _⟩ := newW_boxes q5; have E3 := Lib.hid q1; have C3 := Lib.hid q2; have T3 := Lib.hid q3; have B3 := Lib.hid q5; clear q1 q2 q3 q4 q5)
        | (go_at_call 21; refine (Sx.clone_any C1.out).mono ?_; rintro r u2 ⟨b2, F2, rfl, q1, q2, q3⟩; have q4 := B1.out.trans (q3.mono B1.out.size); obtain ⟨v0, v1, v2, v3, v4⟩ := newW_boxes4 q4; obtain ⟨_, ⟨y0, y1, y2⟩, _⟩ := newW_boxes q4; have C2 := Lib.hid q1; have A2 := Lib.hid q2; have D2 := Lib.hid (C1.out.on q3); have B2 := Lib.hid q4; clear q1 q2 q3 q4)
        | (go_at_call 10; refine (HGI.out _ (newW_boxes B0.out).2.2).mono ?_; rintro r u1 ⟨b1, F, rfl, q1, q2, q3⟩; have q4 := B0.out.trans (q3.mono B0.out.size); obtain ⟨v0, v1, v2, v3, v4⟩ := newW_boxes4 q4; obtain ⟨_, ⟨y0, y1, y2⟩, _⟩ := newW_boxes q4; have C1 := Lib.hid q1; have A1 := Lib.hid q2; have B1 := Lib.hid q4; clear q1 q2 q3 q4)
        | (go_at_call 9; refine HLV.out.mono ?_; rintro r u0 ⟨rfl, q⟩; obtain ⟨v0, v1, v2, v3, v4⟩ := newW_boxes4 q; obtain ⟨_, ⟨y0, y1, y2⟩, _⟩ := newW_boxes q; have B0 := Lib.hid q; clear q))
      go_ret
      exact ⟨rfl, (newW_boxes B3.out).2.2⟩
    · have he : runE a b c e (st.map fixB).length k = 0 := by unfold runE; rw [hg]; rfl
      rw [he] at HRN
      by_cases hsh : (runR a b c e t cs l (st.map fixB)).err = 80 ∨ (runR a b c e t cs l (st.map fixB)).err = 70
      · have HSO := Lib.hid (fun w R => short_yes (w := w) (R := R) hsh)
        generalize runR a b c e t cs l (st.map fixB) = m at HRN HSO
        clear hT hC hx hL hl hS hst hnl hmay hn hk hns hok hsl he hg hsh
        go_enter Tryz.func7, Tryz.ntmps7
        go_wp2_with (first
          | (go_at_call 22; refine (HSO.out _ _).mono ?_; rintro r u4 ⟨rfl, q⟩; have B4 := Lib.hid (B3.out.trans (q.mono B3.out.size)); clear q)
          | (go_at_call 12; refine (HRN.out _ _ _ (newW_boxes B2.out).2.2 D2.out).mono ?_; rintro r u3 ⟨R, rfl, q1, q2, q3⟩; have q4 := q3.shaped B2.out (A1.out.mono B0.out.size); have q5 := q4.alloc q4.size (.cells (resC R m) 38); obtain ⟨v0, v1, v2, v3, v4⟩ := newW_boxes4 q5; obtain ⟨_, ⟨y0, y1, y2⟩, _⟩ := newW_boxes q5; have E3 := Lib.hid q1; have C3 := Lib.hid q2; have T3 := Lib.hid q3; have B3 := Lib.hid q5; clear q1 q2 q3 q4 q5)
          | (go_at_call 21; refine (Sx.clone_any C1.out).mono ?_; rintro r u2 ⟨b2, F2, rfl, q1, q2, q3⟩; have q4 := B1.out.trans (q3.mono B1.out.size); obtain ⟨v0, v1, v2, v3, v4⟩ := newW_boxes4 q4; obtain ⟨_, ⟨y0, y1, y2⟩, _⟩ := newW_boxes q4; have C2 := Lib.hid q1; have A2 := Lib.hid q2; have D2 := Lib.hid (C1.out.on q3); have B2 := Lib.hid q4; clear q1 q2 q3 q4)
          | (go_at_call 10; refine (HGI.out _ (newW_boxes B0.out).2.2).mono ?_; rintro r u1 ⟨b1, F, rfl, q1, q2, q3⟩; have q4 := B0.out.trans (q3.mono B0.out.size); obtain ⟨v0, v1, v2, v3, v4⟩ := newW_boxes4 q4; obtain ⟨_, ⟨y0, y1, y2⟩, _⟩ := newW_boxes q4; have C1 := Lib.hid q1; have A1 := Lib.hid q2; have B1 := Lib.hid q4; clear q1 q2 q3 q4)
          | (go_at_call 9; refine HLV.out.mono ?_; rintro r u0 ⟨rfl, q⟩; obtain ⟨v0, v1, v2, v3, v4⟩ := newW_boxes4 q; obtain ⟨_, ⟨y0, y1, y2⟩, _⟩ := newW_boxes q; have B0 := Lib.hid q; clear q))
        go_ret
        exact ⟨rfl, (newW_boxes B4.out).2.2⟩
      · have h8 : (runR a b c e t cs l (st.map fixB)).err ≠ 80 := fun h => hsh (.inl h)
        have h7 : (runR a b c e t cs l (st.map fixB)).err ≠ 70 := fun h => hsh (.inr h)
        have HSO := Lib.hid (fun w R => short_no (w := w) (R := R) h8 h7)
        have hmr := more_run (t := t) hok hx hl (by rw [hk]; exact hg) h8 h7
        have hTo := runR_told (a := a) (b := b) (c := c) (e := e) (t := t) hok hx hl
        have HR2 : Hid (∀ u b1 F, Below W.heap.size W u → Sx.Cel 91 u b1 F (st.map fixB) → Calls Tryz.prog 12 #[cfgV a b 1024 32, .agg #[.int .i64 t, .slice ao n cap], .slice po k co, .pointer (some ⟨b1, 0, none⟩)] u fun r w' => ∃ R, r = .returned (.tuple #[resV R (runR a b c e t cs l (st.map fixB)), .int .i64 0]) ∧ ResAt w' u.heap.size R (runR a b c e t cs l (st.map fixB)) ∧ Sx.Cel 91 w' b1 F (aftS (st.map fixB) (runR a b c e t cs l (st.map fixB))) ∧ Turn F F u w') := fun u b1 F hb hc => by
          have h := run_any (a := a) (b := b) (c := 1024) (e := 32) (t := t) (cap := cap) (co := co) (hT.on hb) hn hk (hC.on hb) hx (hL.on hb) hl hnl hc hok
          unfold runE at h
          rw [hmr.2, ← hk, hmr.1, if_pos rfl, hk] at h
          exact h.mono fun r w' ⟨R, q1, q2, q3, q4⟩ => ⟨R, q1, ⟨q2.out, q2.reads, q2.writes, q2.ao, q2.ar, q2.aw⟩, q3, q4⟩
        have hal : (aftS (st.map fixB) (runR a b c e t cs l (st.map fixB))).length ≤ 256 := by
          rw [aftS_len, hsl]
          unfold Sx.mayN at hmay
          simp at hmay
          omega
        have HRS : Hid (∀ u R Q, WantAt u R (runR a b c e t cs l (st.map fixB)) → WantAt u Q (runR a b c e t cs l (st.map fixB)) → Calls Tryz.prog 14 #[resV R (runR a b c e t cs l (st.map fixB)), resV Q (runR a b c e t cs l (st.map fixB))] u fun e w' => e = .returned (.bool true) ∧ Below u.heap.size u w') := fun u R Q h1 h2 => result_any hTo h1 h2
        generalize runR a b c e t cs l (st.map fixB) = m at HRN HSO HR2 HRS hal
        generalize aftS (st.map fixB) m = sa at HRN HR2 hal
        have HEX : Hid (∀ u p q c1 c2, FlAt u p sa → FlAt u q sa → Calls Tryz.prog 15 #[.slice p sa.length c1, .slice q sa.length c2] u fun e w' => e = .returned (.bool true) ∧ Same u w') := fun u p q c1 c2 h1 h2 => exact_at rfl (by omega) h1 h2
        clear hT hC hx hL hl hS hst hnl hmay hn hk hns hok hsl he hg hsh h8 h7 hmr hTo hal
        go_enter Tryz.func7, Tryz.ntmps7
        go_wp2_with (first
          | (go_at_call 15; refine (HEX.out _ _ _ _ _ R8.out.1.fl R8.out.2.fl).mono ?_; rintro r u9 ⟨rfl, q⟩; have B9 := Lib.hid (B8.out.trans (q.below _)); clear q)
          | (go_at_call 16; refine (Sx.all_any D7.out).mono ?_; rintro r u8 ⟨rfl, q1, q2⟩; have R8 := Lib.hid (And.intro (R7.out.on q2) q1); have B8 := Lib.hid (B7.out.trans (q2.mono B7.out.size)); clear q1 q2)
          | (go_at_call 16; refine (Sx.all_any C6.out).mono ?_; rintro r u7 ⟨rfl, q1, q2⟩; have R7 := Lib.hid q1; have D7 := Lib.hid (D6.out.on q2); have B7 := Lib.hid (B6.out.trans (q2.mono B6.out.size)); clear q1 q2)
          | (go_at_call 14; refine (HRS.out _ _ _ E5.out.want E6.out.want).mono ?_; rintro r u6 ⟨rfl, q⟩; have C6 := Lib.hid (C5.out.on q); have D6 := Lib.hid (D5.out.on q); have B6 := Lib.hid ((B5.out.alloc B5.out.size _).trans (q.mono (Nat.le_trans B5.out.size (by simp)))); clear q)
          | (go_at_call 12; refine (HR2.out (u4.alloc (cfgO a b 1024 32)) _ _ ((newW_boxes B4.out).2.2.alloc (newW_boxes B4.out).2.2.size _) (D4.out.on (below_alloc _ _))).mono ?_; rintro r u5 ⟨R2, rfl, q1, q2, q3⟩; have h2 : Hid (∀ x ∈ F2, x < u2.heap.size) := C2.out.blw; have q4 := Below.turn (below_alloc u4 (cfgO a b 1024 32)) F2 |>.trans q3; have q6 := q4.keeps Z4.out (fun hx => by have := h2.out _ hx; have := T3.out.size; omega); have Z5 := Lib.hid ((heap_alloc_old _ (.cells (resC R2 m) 38) (lt_of_block q6)).trans q6); have E5 := Lib.hid ((E4.out.turn q4 h2.out).on (below_alloc _ (.cells (resC R2 m) 38))); have E6 := Lib.hid (q1.on (below_alloc _ (.cells (resC R2 m) 38))); have C5 := Lib.hid ((C4.out.turn q4 (fun x hx y => by have := A2.out x y; have := G1.out x hx; omega)).on (below_alloc _ (.cells (resC R2 m) 38))); have D5 := Lib.hid (q2.on (below_alloc _ (.cells (resC R2 m) 38))); have q7 := q4.below (A2.out.mono (Nat.le_trans (newW_boxes B1.out).2.2.size (Nat.le_refl _))) (newW_boxes B4.out).2.2.size; have B5 := Lib.hid (((newW_boxes B4.out).2.2.trans q7)); obtain ⟨⟨x0, x1, x2, x3, x4, x5, x6, x7⟩, _⟩ := cells7_of Z5.out; clear q1 q2 q3 q4 q6 q7)
          | (go_at_call 22; refine (HSO.out _ _).mono ?_; rintro r u4 ⟨rfl, q⟩; have q5 := B3.out.trans (q.mono B3.out.size); obtain ⟨v0, v1, v2, v3, v4⟩ := newW_boxes4 q5; obtain ⟨_, ⟨y0, y1, y2⟩, _⟩ := newW_boxes q5; have B4 := Lib.hid q5; have E4 := Lib.hid ((E3.out.on (below_alloc _ _)).on q); have C4 := Lib.hid ((C3.out.on (below_alloc _ _)).on q); have D4 := Lib.hid (((C2.out.turn T3.out (fun x hx y => by have := A2.out x hx; have := G1.out x y; omega)).on (below_alloc _ _)).on q); have Z4 : Hid (u4.heap[u3.heap.size]? = some (.cells (resC R m) 38)) := (q.block _ (by simp)).trans (heap_alloc_new _ _); clear q q5)
          | (go_at_call 12; refine (HRN.out _ _ _ (newW_boxes B2.out).2.2 D2.out).mono ?_; rintro r u3 ⟨R, rfl, q1, q2, q3⟩; have q4 := q3.shaped B2.out (A1.out.mono B0.out.size); have q5 := q4.alloc q4.size (.cells (resC R m) 38); obtain ⟨v0, v1, v2, v3, v4⟩ := newW_boxes4 q5; obtain ⟨_, ⟨y0, y1, y2⟩, _⟩ := newW_boxes q5; have E3 := Lib.hid q1; have C3 := Lib.hid q2; have T3 := Lib.hid q3; have B3 := Lib.hid q5; clear q1 q2 q3 q4 q5)
          | (go_at_call 21; refine (Sx.clone_any C1.out).mono ?_; rintro r u2 ⟨b2, F2, rfl, q1, q2, q3⟩; have q4 := B1.out.trans (q3.mono B1.out.size); obtain ⟨v0, v1, v2, v3, v4⟩ := newW_boxes4 q4; obtain ⟨_, ⟨y0, y1, y2⟩, _⟩ := newW_boxes q4; have C2 := Lib.hid q1; have A2 := Lib.hid q2; have G1 : Hid (∀ x ∈ F, x < u1.heap.size) := C1.out.blw; have D2 := Lib.hid (C1.out.on q3); have B2 := Lib.hid q4; clear q1 q2 q3 q4)
          | (go_at_call 10; refine (HGI.out _ (newW_boxes B0.out).2.2).mono ?_; rintro r u1 ⟨b1, F, rfl, q1, q2, q3⟩; have q4 := B0.out.trans (q3.mono B0.out.size); obtain ⟨v0, v1, v2, v3, v4⟩ := newW_boxes4 q4; obtain ⟨_, ⟨y0, y1, y2⟩, _⟩ := newW_boxes q4; have C1 := Lib.hid q1; have A1 := Lib.hid q2; have B1 := Lib.hid q4; clear q1 q2 q3 q4)
          | (go_at_call 9; refine HLV.out.mono ?_; rintro r u0 ⟨rfl, q⟩; obtain ⟨v0, v1, v2, v3, v4⟩ := newW_boxes4 q; obtain ⟨_, ⟨y0, y1, y2⟩, _⟩ := newW_boxes q; have B0 := Lib.hid q; clear q))
        go_ret
        exact ⟨rfl, B9.out⟩
end Go.Proofs.YthnpcnmidbacjaaGreatDoor
