import Derived.Test.YtpboiggakehpoaaGreatDoorJF1
import Derived.Test.YtpboiggakehpoaaGreatDoorJF3
namespace Go.Proofs.YtpboiggakehpoaaGreatDoor.Tr
open Num
def liftF (f w : Int) (m : Mac) : Mac := { m with fuel := f, wmax := w }
variable {f w : Int}
theorem giveF (m : Mac) (x : Nat) : giveM (liftF f w m) x = liftF f w (giveM m x) := by
  unfold giveM
  by_cases h : 0 ≤ m.wait
  · rw [if_pos h, if_pos (show 0 ≤ (liftF f w m).wait from h)]
    rfl
  · rw [if_neg h, if_neg (show ¬ 0 ≤ (liftF f w m).wait from h)]
theorem mayPF {m : Int} {l : Wr} {c : Int} (h : mayP m l c = true) (hm : m ≤ w) : mayP w l c = true := by
  unfold mayP at h ⊢
  rw [Bool.or_eq_true] at h ⊢
  rcases h with h | h
  · exact .inl h
  · refine .inr ?_
    have := of_decide_eq_true h
    exact decide_eq_true (by omega)
theorem kindsM {k : Nat} (hk : 1 ≤ k ∧ k < 21) : k = 1 ∨ k = 2 ∨ k = 3 ∨ k = 4 ∨ k = 5 ∨ k = 6 ∨ k = 7 ∨ k = 8 ∨ k = 9 ∨ k = 10 ∨ k = 11 ∨ k = 12 ∨ k = 13 ∨ k = 14 ∨ k = 15 ∨ k = 16 ∨ k = 17 ∨ k = 18 ∨ k = 19 ∨ k = 20 := by omega
theorem doF {m : Mac} (hwm : m.wmax ≤ w) {k : Nat} {n : Int} {x : Nat} (hk : 1 ≤ k ∧ k < 21) (he : (doM (begM m) ⟨k, n, x⟩).1.err ≠ 70 ∨ m.wmax = w) : doM (begM (liftF f w m)) ⟨k, n, x⟩ = (liftF f w (doM (begM m) ⟨k, n, x⟩).1, (doM (begM m) ⟨k, n, x⟩).2) := by
  rcases kindsM hk with rfl | rfl | rfl | rfl | rfl | rfl | rfl | rfl | rfl | rfl | rfl | rfl | rfl | rfl | rfl | rfl | rfl | rfl | rfl | rfl
  iterate 14 rfl
  · show retM (begM (liftF f w m)) = (liftF f w (retM (begM m)).1, (retM (begM m)).2)
    cases hc : (begM m).calls with
    | nil => rw [retM_nil hc, retM_nil (show (begM (liftF f w m)).calls = [] from hc)]; rfl
    | cons c q => rw [retM_cons hc, retM_cons (show (begM (liftF f w m)).calls = c :: q from hc)]; rfl
  · show readM (begM (liftF f w m)) = (liftF f w (readM (begM m)).1, (readM (begM m)).2)
    unfold readM
    cases ha : addrB (begM m) with
    | false => rw [if_neg (show ¬ addrB (begM (liftF f w m)) = true by rw [show addrB (begM (liftF f w m)) = addrB (begM m) from rfl, ha]; decide)]; rfl
    | true =>
      rw [if_pos (show addrB (begM (liftF f w m)) = true from ha)]
      cases hh : hasC (begM m).buf (addrV (begM m)) with
      | false => rw [if_neg (show ¬ hasC (begM (liftF f w m)).buf (addrV (begM (liftF f w m))) = true by rw [show hasC (begM (liftF f w m)).buf (addrV (begM (liftF f w m))) = hasC (begM m).buf (addrV (begM m)) from rfl, hh]; decide)]; rfl
      | true => rw [if_pos (show hasC (begM (liftF f w m)).buf (addrV (begM (liftF f w m))) = true from hh)]; rfl
  · replace he : (writeM (begM m)).1.err ≠ 70 ∨ m.wmax = w := he
    show writeM (begM (liftF f w m)) = (liftF f w (writeM (begM m)).1, (writeM (begM m)).2)
    unfold writeM at he ⊢
    by_cases hu : (begM m).upd = true
    · rw [if_pos hu] at he ⊢
      rw [if_pos (show (begM (liftF f w m)).upd = true from hu)]
      by_cases ha : addrB (begM m) = true
      · rw [if_pos ha] at he ⊢
        rw [if_pos (show addrB (begM (liftF f w m)) = true from ha)]
        by_cases hp : mayP (begM m).wmax (begM m).buf (addrV (begM m)) = true
        · rw [if_pos hp, if_pos (show mayP (begM (liftF f w m)).wmax (begM (liftF f w m)).buf (addrV (begM (liftF f w m))) = true from mayPF hp hwm)]
          rfl
        · rw [if_neg hp] at he
          rcases he with he | he
          · exact absurd rfl he
          · rw [if_neg hp, if_neg (show ¬ mayP (begM (liftF f w m)).wmax (begM (liftF f w m)).buf (addrV (begM (liftF f w m))) = true from fun q => hp (by rw [show (begM m).wmax = w from he]; exact q))]
            rfl
      · rw [if_neg ha, if_neg (show ¬ addrB (begM (liftF f w m)) = true from ha)]
        rfl
    · rw [if_neg hu, if_neg (show ¬ (begM (liftF f w m)).upd = true from hu)]
      rfl
  · rfl
  · rfl
  · rfl
theorem do_same {m : Mac} {k : Nat} {n : Int} {x : Nat} (hk : 1 ≤ k ∧ k < 21) : (doM m ⟨k, n, x⟩).1.fuel = m.fuel ∧ (doM m ⟨k, n, x⟩).1.wmax = m.wmax := by
  rcases kindsM hk with rfl | rfl | rfl | rfl | rfl | rfl | rfl | rfl | rfl | rfl | rfl | rfl | rfl | rfl | rfl | rfl | rfl | rfl | rfl | rfl
  iterate 14 exact ⟨rfl, rfl⟩
  · show (retM m).1.fuel = m.fuel ∧ (retM m).1.wmax = m.wmax
    cases hc : m.calls with
    | nil => rw [retM_nil hc]; exact ⟨rfl, rfl⟩
    | cons c q => rw [retM_cons hc]; exact ⟨rfl, rfl⟩
  · show (readM m).1.fuel = m.fuel ∧ (readM m).1.wmax = m.wmax
    unfold readM
    split
    · split <;> exact ⟨rfl, rfl⟩
    · exact ⟨rfl, rfl⟩
  · show (writeM m).1.fuel = m.fuel ∧ (writeM m).1.wmax = m.wmax
    unfold writeM
    split
    · split
      · split <;> exact ⟨rfl, rfl⟩
      · exact ⟨rfl, rfl⟩
    · exact ⟨rfl, rfl⟩
  · exact ⟨rfl, rfl⟩
  · exact ⟨rfl, rfl⟩
  · exact ⟨rfl, rfl⟩
theorem ins_of {m : Mac} (h : Inv m) (hp : m.place < (m.code.length : Int)) : ∃ (q : Nat) (n : Int) (x : Nat), insM m = ⟨q, n, x⟩ ∧ 1 ≤ q ∧ q < 21 := by
  have hk : m.place.toNat < m.code.length := by have := h.place; omega
  have hmay := h.may _ hk
  unfold insM
  rcases hci : ci m.code m.place.toNat with ⟨o, n, x⟩
  rw [hci] at hmay
  obtain ⟨q, hq⟩ : ∃ q : Nat, o = q := ⟨o.toNat, by have := hmay.1; unfold mayB knownB at this; simp at this; omega⟩
  subst hq
  exact ⟨q, n, x, rfl, (fits_parts hmay.1).1⟩
theorem step_same {m : Mac} (h : Inv m) : (stepM m).1.fuel = m.fuel ∧ (stepM m).1.wmax = m.wmax := by
  unfold stepM
  by_cases hw : 0 ≤ m.wait
  · rw [if_pos hw]; exact ⟨rfl, rfl⟩
  · rw [if_neg hw]
    by_cases h0 : m.how = 0
    · rw [if_pos h0]
      by_cases hf : m.used < m.fuel
      · rw [if_pos hf]
        by_cases hp : m.place < (m.code.length : Int)
        · rw [if_pos hp]
          obtain ⟨q, n, x, e, hq⟩ := ins_of h hp
          rw [e]
          split
          · obtain ⟨a, b⟩ := do_same (m := begM m) (n := n) (x := x) hq
            exact ⟨a, b⟩
          · exact ⟨rfl, rfl⟩
        · rw [if_neg hp]; exact ⟨rfl, rfl⟩
      · rw [if_neg hf]; exact ⟨rfl, rfl⟩
    · rw [if_neg h0]; exact ⟨rfl, rfl⟩
theorem go_same {s : List Nat} {m : Mac} (h : Inv m) : (goM s m).fuel = m.fuel ∧ (goM s m).wmax = m.wmax := by
  have hs := step_same h
  unfold goM
  split
  · unfold giveM
    split <;> exact hs
  · exact hs
theorem stepF {m : Mac} (h : Inv m) (hw : ¬ 0 ≤ m.wait) (h0 : m.how = 0) (hf : m.fuel ≤ f) (hwm : m.wmax ≤ w) (he : (stepM m).1.err ≠ 80 ∨ m.fuel = f) (he2 : (stepM m).1.err ≠ 70 ∨ m.wmax = w) : stepM (liftF f w m) = (liftF f w (stepM m).1, (stepM m).2) := by
  unfold stepM at he he2 ⊢
  rw [if_neg hw, if_pos h0] at he he2 ⊢
  rw [if_neg (show ¬ 0 ≤ (liftF f w m).wait from hw), if_pos (show (liftF f w m).how = 0 from h0)]
  by_cases hu : m.used < m.fuel
  · rw [if_pos hu] at he he2 ⊢
    rw [if_pos (show (liftF f w m).used < (liftF f w m).fuel by show m.used < f; omega)]
    by_cases hp : m.place < (m.code.length : Int)
    · rw [if_pos hp] at he he2 ⊢
      rw [if_pos (show (liftF f w m).place < ((liftF f w m).code.length : Int) from hp)]
      cases hr : roomB (begM m) (insM m) with
      | false => rw [if_neg (show ¬ roomB (begM (liftF f w m)) (insM (liftF f w m)) = true by rw [show roomB (begM (liftF f w m)) (insM (liftF f w m)) = roomB (begM m) (insM m) from rfl, hr]; decide)]; rfl
      | true =>
        rw [if_pos (show roomB (begM (liftF f w m)) (insM (liftF f w m)) = true from hr)]
        rw [hr, if_pos rfl] at he2
        rw [if_pos rfl]
        show doM (begM (liftF f w m)) (insM m) = _
        obtain ⟨q, n, x, e, hq⟩ := ins_of h hp
        rw [e] at he2 ⊢
        exact doF hwm hq he2
    · rw [if_neg hp, if_neg (show ¬ (liftF f w m).place < ((liftF f w m).code.length : Int) from hp)]
      rfl
  · rw [if_neg hu] at he
    rcases he with he | he
    · exact absurd rfl he
    · rw [if_neg hu, if_neg (show ¬ (liftF f w m).used < (liftF f w m).fuel by show ¬ m.used < f; omega)]
      rfl
theorem goF {s : List Nat} {m : Mac} (h : Inv m) (hw : ¬ 0 ≤ m.wait) (h0 : m.how = 0) (hf : m.fuel ≤ f) (hwm : m.wmax ≤ w) (he : (stepM m).1.err ≠ 80 ∨ m.fuel = f) (he2 : (stepM m).1.err ≠ 70 ∨ m.wmax = w) : goM s (liftF f w m) = liftF f w (goM s m) := by
  unfold goM
  rw [stepF h hw h0 hf hwm he he2]
  show (if (stepM m).2.kind = 1 then giveM (liftF f w (stepM m).1) (Sx.getV s (stepM m).2.cell) else liftF f w (stepM m).1) = _
  split
  · exact giveF _ _
  · rfl
theorem errF {m : Mac} (h : Inv m) (h0 : m.how = 0) : m.err = 0 := by
  by_cases he : m.err = 0
  · exact he
  · have := h.fail.2 he
    omega
theorem runF {s : List Nat} (hs : okS s) : ∀ (k : Nat) {m : Mac}, Rest m → m.fuel ≤ f → m.wmax ≤ w → ((runN s k m).err ≠ 80 ∨ m.fuel = f) → ((runN s k m).err ≠ 70 ∨ m.wmax = w) → runN s k (liftF f w m) = liftF f w (runN s k m)
  | 0, _, _, _, _, _, _ => rfl
  | k + 1, m, h, hf, hwm, h8, h7 => by
    rw [runN_cons] at h8 h7 ⊢
    rw [runN_cons]
    by_cases h0 : m.how = 0
    · have hA : ((stepM m).1.err ≠ 80 ∨ m.fuel = f) ∧ ((stepM m).1.err ≠ 70 ∨ m.wmax = w) := by
        obtain ⟨_, g1, ⟨g2, g3⟩ | ⟨g2, g3, g4⟩⟩ := go_turns (s := s) h.inv h.nw h0
        · have e1 : goM s m = (stepM m).1 := go_kindN (by rw [g2]; decide)
          rw [runN_over g1 g3, e1] at h8 h7
          exact ⟨h8, h7⟩
        · have e1 : (stepM m).1.err = 0 := by
            have hi := inv_step h.inv
            refine errF hi ?_
            obtain ⟨_, ⟨k1, _⟩ | ⟨_, _, _, k4, _⟩ | ⟨_, _, k3, _⟩⟩ := step_turns h.inv h.nw h0
            · exact absurd k1 g2
            · exact k4
            · exact k3
          rw [e1]
          exact ⟨.inl (by decide), .inl (by decide)⟩
      rw [goF h.inv h.nw h0 hf hwm hA.1 hA.2]
      obtain ⟨g1, g2⟩ := go_same (s := s) h.inv
      exact runF hs k (h.go hs) (by omega) (by omega) (by rw [g1]; exact h8) (by rw [g2]; exact h7)
    · rw [go_over h.nw h0] at h8 h7 ⊢
      rw [go_over (show ¬ 0 ≤ (liftF f w m).wait from h.nw) (show (liftF f w m).how ≠ 0 from h0)]
      exact runF hs k h hf hwm h8 h7
theorem endF {s : List Nat} (hs : okS s) {m : Mac} (h : Rest m) (hf : m.fuel ≤ f) (hwm : m.wmax ≤ w) (h8 : (endM s m).err ≠ 80 ∨ m.fuel = f) (h7 : (endM s m).err ≠ 70 ∨ m.wmax = w) : endM s (liftF f w m) = liftF f w (endM s m) := runF hs 1025 h hf hwm h8 h7
theorem newF (a c e f w t : Int) (cs : List Ins) (l : List Nat) : newM a f w t cs l = liftF f w (newM a c e t cs l) := rfl
theorem lift_run {a b c e t : Int} {cs : List Ins} {l s : List Nat} (hs : okS s) (hx : ∀ i ∈ cs, i.x < 18446744073709551616) (hl : ∀ x ∈ l, x < 18446744073709551616) (hg : goodB a b c e s.length l.length = true) (hf : c ≤ f) (hf2 : f ≤ 1024) (hw : e ≤ w) (hw2 : w ≤ 32) (h8 : (runR a b c e t cs l s).err ≠ 80 ∨ c = f) (h7 : (runR a b c e t cs l s).err ≠ 70 ∨ e = w) : runR a b f w t cs l s = liftF f w (runR a b c e t cs l s) := by
  have hg2 : goodB a b f w s.length l.length = true := by
    unfold goodB at hg ⊢
    simp only [Bool.and_eq_true] at hg ⊢
    refine ⟨⟨?_, hg.1.2⟩, hg.2⟩
    have := Md.cfgB_iff.1 hg.1.1
    exact Md.cfgB_iff.2 ⟨this.1, this.2.1, by omega, by omega⟩
  have e1 : ∀ {f w : Int}, goodB a b f w s.length l.length = true → runR a b f w t cs l s = endM s (newM a f w t cs l) := fun h => by unfold runR; rw [if_pos h]
  rw [e1 hg] at h8 h7 ⊢
  rw [e1 hg2]
  unfold goodB at hg
  simp only [Bool.and_eq_true] at hg
  rw [newF a c e f w t cs l]
  exact endF hs (new_rest hg.1.1 (fun j hj => hx _ (List.mem_of_getElem? (ci_lt hj))) hl) hf hw h8 h7
theorem run_rest {a b c e t : Int} {cs : List Ins} {l s : List Nat} (hs : okS s) (hx : ∀ i ∈ cs, i.x < 18446744073709551616) (hl : ∀ x ∈ l, x < 18446744073709551616) (hg : goodB a b c e s.length l.length = true) : Rest (runR a b c e t cs l s) := by
  have e1 : runR a b c e t cs l s = endM s (newM a c e t cs l) := by unfold runR; rw [if_pos hg]
  rw [e1]
  unfold goodB at hg
  simp only [Bool.and_eq_true] at hg
  exact endM_rest hs (new_rest hg.1.1 (fun j hj => hx _ (List.mem_of_getElem? (ci_lt hj))) hl)
end Go.Proofs.YtpboiggakehpoaaGreatDoor.Tr
namespace Go.Proofs.YtpboiggakehpoaaGreatDoor.Tr
open Go.ChangeShapes Go.WideShapes Go.ChangeAt Go.RowKit Num Go.Maps As
open Go.ChangeMaps Go.MapKept
attribute [local go_sem] run_store_float frombits_run bits_run
theorem aft_not {s : List Nat} {m : Mac} (h : m.how ≠ 1) : aftS s m = s := by unfold aftS; rw [if_neg h]
section
variable {a : Int} {B R cells : Nat} {s l : List Nat} {L : Prs}
theorem Lies.more (h : Lies a 1 8 B R cells s.length) {e : Int} (h8 : 8 ≤ e) (he : e ≤ 32) : Lies a 1 e B R cells s.length := by
  have hc := Md.cfgB_iff.1 h.cfg
  exact ⟨Md.cfgB_iff.2 ⟨hc.1, hc.2.1, by omega, by omega⟩, h.n, h8, h.room, h.c7, h.fit⟩
theorem fail_or (h : Lies a 1 8 B R cells s.length) (hs : okS s) (hH : Has B R s L) (hl8 : l.length ≤ 8) (hl : ∀ x ∈ l, x < 18446744073709551616) {k : Int} (h1 : 1 ≤ k) (h7 : k ≤ 7) {c e : Int} (hc : 1 ≤ c ∧ c ≤ 1024) (he : 1 ≤ e ∧ e ≤ 32) {m : Mac} (hm : m = runR a 1 c e (tagS k) (codeOf B R (k - 1).toNat) l s) :
    goodB a 1 c e s.length l.length = true ∧ ((m.how = 3 ∧ ((m.err = 80 ∧ c < 1024) ∨ (m.err = 70 ∧ e < 8)) ∧ aftS s m = s) ∨
    (m.how = howS k L R (argF l 0) ∧ m.cod = codS k L R (argF l 0) ∧ m.err = 0 ∧ m.out = outS k L R (argF l 0) ∧ Has B R (aftS s m) (nxtS k L R (argF l 0) (argF l 1)) ∧ Outside s (aftS s m) B cells ∧ okS (aftS s m))) := by
  have hlt : (k - 1).toNat < 7 := by omega
  have hx := codes_small (B : Int) R hlt
  have hcf := Md.cfgB_iff.1 h.cfg
  have hg : goodB a 1 c e s.length l.length = true := by
    have hgd := h.good (l := l) hl8
    unfold goodB at hgd ⊢
    simp only [Bool.and_eq_true] at hgd ⊢
    exact ⟨⟨Md.cfgB_iff.2 ⟨hcf.1, hcf.2.1, by omega, by omega⟩, hgd.1.2⟩, hgd.2⟩
  refine ⟨hg, ?_⟩
  have hr : Rest m := by rw [hm]; exact run_rest hs hx hl hg
  have h3 : m.err ≠ 0 → m.how = 3 := hr.inv.fail.2
  by_cases e8 : m.err = 80
  · refine .inl ⟨h3 (by omega), .inl ⟨e8, ?_⟩, aft_not (by rw [h3 (by omega)]; decide)⟩
    rcases Int.lt_or_le c 1024 with q | q
    · exact q
    · exfalso
      have hl2 := lift_run (f := 1024) (w := 32) (t := tagS k) hs hx hl hg hc.2 (by omega) he.2 (by omega) (.inr (by omega)) (.inl (by rw [← hm]; omega))
      have hk := (kind_ran (h.more (e := 32) (by omega) (by omega)) hs hH hl8 hl h1 h7).1.err
      rw [hl2, ← hm] at hk
      have hk : m.err = 0 := hk
      omega
  · by_cases e7 : m.err = 70
    · refine .inl ⟨h3 (by omega), .inr ⟨e7, ?_⟩, aft_not (by rw [h3 (by omega)]; decide)⟩
      rcases Int.lt_or_le e 8 with q | q
      · exact q
      · exfalso
        have hl2 := lift_run (f := 1024) (w := e) (t := tagS k) hs hx hl hg hc.2 (by omega) (Int.le_refl e) he.2 (.inl (by rw [← hm]; omega)) (.inr rfl)
        have hk := (kind_ran (h.more (e := e) q he.2) hs hH hl8 hl h1 h7).1.err
        rw [hl2, ← hm] at hk
        have hk : m.err = 0 := hk
        omega
    · have hl2 := lift_run (f := 1024) (w := 32) (t := tagS k) hs hx hl hg hc.2 (by omega) he.2 (by omega) (.inl (by rw [← hm]; exact e8)) (.inl (by rw [← hm]; exact e7))
      obtain ⟨k1, k2, k3⟩ := kind_ran (h.more (e := 32) (by omega) (by omega)) hs hH hl8 hl h1 h7
      rw [hl2, ← hm] at k1 k2 k3
      exact .inr ⟨k1.how, k1.cod, k1.err, k1.out, k2, k3, aftS_ok hs hr⟩
end
structure Rsf (w : World) (B0 : Nat) (po : Option Addr) (co : Nat) (out : List Nat) : Prop where
  out : RowAt 74 w po co (fls out)
  ao : Abv B0 (fpR po)
section
variable {W w w' : World} {q : Nat → Ptr} {b : Nat} {F s : List Nat} {a : Int} {B R cells : Nat} {L : Prs}
def EndF (k : Int) (L : Prs) (R : Nat) (l : List Nat) (c e hh cd er : Int) (out : List Nat) (L2 : Prs) : Prop :=
  (hh = 3 ∧ ((er = 80 ∧ c < 1024) ∨ (er = 70 ∧ e < 8)) ∧ L2 = L) ∨ (hh = howS k L R (argF l 0) ∧ cd = codS k L R (argF l 0) ∧ er = 0 ∧ out = outS k L R (argF l 0) ∧ L2 = nxtS k L R (argF l 0) (argF l 1))
theorem TW.runF (h : TW W w q b F s a B R cells L) {k : Int} (h1 : 1 ≤ k) (h7 : k ≤ 7) {c e : Int} (hc : 1 ≤ c ∧ c ≤ 1024) (he : 1 ≤ e ∧ e ≤ 32) {po : Option Addr} {n co : Nat} {l : List Nat} (hn : l.length = n) (h8 : n ≤ 8) (hl : ∀ x ∈ l, x < 18446744073709551616) :
    ∃ (hh cd er : Int) (out : List Nat) (L2 : Prs) (s' : List Nat), EndF k L R l c e hh cd er out L2 ∧ (hh = 3 → s' = s) ∧ (FlAt w po l → Calls Tryz.prog 24 #[cfgV a 1 c e, .agg #[.int .i64 (tagS k), .slice (q (k - 1).toNat).p (q (k - 1).toNat).n (q (k - 1).toNat).c], .slice po n co, .pointer (some ⟨b, 0, none⟩)] w fun r w' => ∃ (qo : Option Addr) (c1 : Nat) (qr : Option Addr) (nr c2 : Nat) (qw : Option Addr) (nw c3 : Nat) (us : Int), r = .returned (.tuple #[.agg #[.int .i64 hh, .int .i64 cd, .int .i64 er, .slice qo out.length c1, .slice qr nr c2, .slice qw nw c3, .int .i64 us], .int .i64 0]) ∧
      Hid (Rsf w' w.heap.size qo c1 out ∧ TW W w' q b F s' a B R cells L2 ∧ Turn F F w w')) := by
  have hlt : (k - 1).toNat < 7 := by omega
  have hr := h.tr.row _ hlt
  obtain ⟨hg, hcs⟩ := fail_or h.lies h.ok h.has (l := l) (by omega) hl h1 h7 hc he rfl
  have hrun : FlAt w po l → _ := fun hL => run_any (a := a) (b := 1) (c := c) (e := e) (t := tagS k) (cap := (q (k - 1).toNat).c) (co := co) (h.sh.on h.bl) hr.1.symm hn (hr.2.code hr.1.symm) (codes_small B R hlt) hL hl (by rw [hr.1]; exact codes_len B R hlt) h.cel h.ok
  have e0 : runE a 1 c e s.length n = 0 := by unfold runE; rw [← hn, hg]; rfl
  rw [e0] at hrun
  obtain ⟨m, hm⟩ : ∃ m, runR a 1 c e (tagS k) (codeOf B R (k - 1).toNat) l s = m := ⟨_, rfl⟩
  rw [hm] at hrun hcs
  rcases hcs with ⟨g1, g2, g3⟩ | ⟨g1, g2, g3, g4, g5, g6, g7⟩
  · refine ⟨m.how, m.cod, m.err, m.out, L, s, .inl ⟨g1, g2, rfl⟩, fun _ => rfl, fun hL => (hrun hL).mono fun r w' ⟨Rr, q1, q2, q3, q4⟩ => ?_⟩
    rw [g3] at q3
    exact ⟨Rr.po, Rr.co, Rr.pr, m.reads.length, Rr.cr, Rr.pw, m.buf.length, Rr.cw, m.used, q1, ⟨q2.out, q2.ao⟩, ⟨h.sh, h.bl.trans (q4.below h.ab h.bl.size), h.ab, h.tr.turn h.cel q4, q3, h.ok, h.has, h.lies⟩, q4⟩
  · refine ⟨m.how, m.cod, m.err, m.out, _, aftS s m, .inr ⟨g1, g2, g3, g4, rfl⟩, fun z => ?_, fun hL => (hrun hL).mono fun r w' ⟨Rr, q1, q2, q3, q4⟩ => ?_⟩
    · exfalso
      rw [g1] at z
      unfold howS at z
      split at z <;> omega
    · exact ⟨Rr.po, Rr.co, Rr.pr, m.reads.length, Rr.cr, Rr.pw, m.buf.length, Rr.cw, m.used, q1, ⟨q2.out, q2.ao⟩, ⟨h.sh, h.bl.trans (q4.below h.ab h.bl.size), h.ab, h.tr.turn h.cel q4, q3, g7, g5, by rw [g6.1]; exact h.lies⟩, q4⟩
end
end Go.Proofs.YtpboiggakehpoaaGreatDoor.Tr
namespace Go.Proofs.YtpboiggakehpoaaGreatDoor.Tr
open Go.ChangeShapes Go.WideShapes Go.ChangeAt Go.RowKit Num Go.Maps As
open Go.ChangeMaps Go.MapKept
attribute [local go_sem] run_store_float frombits_run bits_run
structure Bf (d : Wd) (q : Nat → Ptr) (n0 g4 g9 : Nat) (a c e : Int) (w : World) : Prop where
  b1 : w.heap[n0]? = some (wdO d)
  b4 : w.heap[g4]? = some (tO q)
  b9 : w.heap[g9]? = some (cfgO a 1 c e)
def Tys (T : TypeId) : Prop := T = 48 ∨ T = 28 ∨ T = 40 ∨ T = 52 ∨ T = 26 ∨ T = 63
section
variable {W w w' : World} {d : Wd} {q : Nat → Ptr} {n0 g4 g9 : Nat} {a c e : Int}
theorem Bf.on (h : Bf d q n0 g4 g9 a c e w) (k : Below w.heap.size w w') : Bf d q n0 g4 g9 a c e w' :=
  ⟨(k.block _ (lt_of_block h.b1)).trans h.b1, (k.block _ (lt_of_block h.b4)).trans h.b4, (k.block _ (lt_of_block h.b9)).trans h.b9⟩
theorem Bf.turn {H H' : List Nat} (h : Bf d q n0 g4 g9 a c e w) (k : Turn H H' w w') (hn : ∀ (x : Nat) (arr : Array Value) (T : TypeId), w.heap[x]? = some (.cells arr T (0, 0)) → Tys T → x ∉ H) : Bf d q n0 g4 g9 a c e w' :=
  ⟨(k.block _ (lt_of_block h.b1) (hn _ _ _ h.b1 (.inr (.inr (.inl rfl))))).trans h.b1, (k.block _ (lt_of_block h.b4) (hn _ _ _ h.b4 (.inr (.inl rfl)))).trans h.b4, (k.block _ (lt_of_block h.b9) (hn _ _ _ h.b9 (.inl rfl))).trans h.b9⟩
theorem tys_f {b : Nat} {F s : List Nat} (h : Sx.Cel 94 w b F s) (x : Nat) (arr : Array Value) (T : TypeId) (hx : w.heap[x]? = some (.cells arr T (0, 0))) (hT : Tys T) : x ∉ F :=
  cel_no h hx (by rcases hT with rfl | rfl | rfl | rfl | rfl | rfl <;> decide) (by rcases hT with rfl | rfl | rfl | rfl | rfl | rfl <;> decide)
theorem tys_g {g : Nat} {G : List Nat} {M : Int} {L : Prs} (h : MpAt w g G M L) (x : Nat) (arr : Array Value) (T : TypeId) (hx : w.heap[x]? = some (.cells arr T (0, 0))) (hT : Tys T) : x ∉ G :=
  mp_no h hx (by rcases hT with rfl | rfl | rfl | rfl | rfl | rfl <;> decide) (by rcases hT with rfl | rfl | rfl | rfl | rfl | rfl <;> decide)
theorem turn_blk {H H' : List Nat} (k : Turn H H' w w') {x : Nat} {arr : Array Value} {T : TypeId} (hx : w.heap[x]? = some (.cells arr T (0, 0))) (hn : x ∉ H) : w'.heap[x]? = some (.cells arr T (0, 0)) := (k.block _ (lt_of_block hx) hn).trans hx
structure Rd (W w : World) (d : Wd) (q : Nat → Ptr) (n0 g4 g9 : Nat) (a c e : Int) (b : Nat) (F s : List Nat) (B R C g : Nat) (G : List Nat) (L : Prs) : Prop where
  bx : Bf d q n0 g4 g9 a c e w
  pl : Pl W w q b F s a B R C g G L
variable {b g B R C : Nat} {F G s : List Nat} {L : Prs}
theorem Rd.on (h : Rd W w d q n0 g4 g9 a c e b F s B R C g G L) (k : Below w.heap.size w w') : Rd W w' d q n0 g4 g9 a c e b F s B R C g G L := ⟨h.bx.on k, h.pl.on k⟩
theorem Rd.ran (h : Rd W w d q n0 g4 g9 a c e b F s B R C g G L) {s' : List Nat} {L2 : Prs} (k : TW W w' q b F s' a B R C L2) (t : Turn F F w w') : Bf d q n0 g4 g9 a c e w' ∧ MpAt w' g G (R : Nat) L ∧ TW W w' q b F s' a B R C L2 :=
  ⟨h.bx.turn t (tys_f h.pl.tw.cel), h.pl.mp.turn t h.pl.sep.symm, k⟩
theorem Rd.said (hs : Sep F G) (hG : Abv W.heap.size G) {G' : List Nat} {L0 L2 : Prs} (h1 : Bf d q n0 g4 g9 a c e w) (h2 : MpAt w g G (R : Nat) L0) (h3 : TW W w q b F s a B R C L2) (t : Turn G G' w w') (k : MpAt w' g G' (R : Nat) L2) : Rd W w' d q n0 g4 g9 a c e b F s B R C g G' L2 :=
  ⟨h1.turn t (tys_g h2), ⟨h3.past h2 t hs hG, k, hs.turn h3.cel.blw t, fun x hx => (t.own x hx).elim (hG x) (Nat.le_trans h3.bl.size)⟩⟩
end
end Go.Proofs.YtpboiggakehpoaaGreatDoor.Tr
namespace Go.Proofs.YtpboiggakehpoaaGreatDoor.Tr
open Go.ChangeShapes Go.WideShapes Go.ChangeAt Go.RowKit Num Go.Maps As
open Go.ChangeMaps Go.MapKept
attribute [local go_sem] run_store_float frombits_run bits_run
section
variable {W : World}
set_option maxRecDepth 100000 in
set_option maxHeartbeats 4000000 in
theorem fails_yes (hT : Shaped5 W) {d : Wd} (hd : WdIn W d) (h7 : 7 ≤ d.C) (h0 : 0 ≤ d.B) (hf : d.B + d.C ≤ 256) {fu wm : Int} (hfu : 1 ≤ fu ∧ fu ≤ 1024) (hwm : 1 ≤ wm ∧ wm ≤ 32) : Calls Tryz.prog 5 #[wdV d, .int .i64 fu, .int .i64 wm] W fun e w' => e = .returned (.bool true) ∧ Below W.heap.size W w' := by
  have HLV : Hid (∀ u, Below W.heap.size W u → _) := fun u hu => live_any (hT.on hu)
  have HMK : Hid (∀ u, Below W.heap.size W u → _) := fun u hu => make_A (hT.on hu) (b := d.B) (c := d.C) (by omega) h7 h0 hf
  have HFI : Hid (∀ u, _) := fun u => fits_yes (b := d.B) (c := d.C) h7 h0 hf u
  have HBE : Hid (∀ u, Below W.heap.size W u → _) := fun u hu => begins_any (m := 1) (hd.on hu) (.inl rfl) h0 (by omega) (by omega)
  have HRO : Hid (∀ u, _) := fun u => rroom_any d.C (by omega) u
  have HNEW := Lib.hid (tw_new hd h7 h0 hf)
  unfold TW_new at HNEW
  obtain ⟨a, ha⟩ : ∃ a, totV d 1 = a := ⟨_, rfl⟩
  have HTO : Hid (∀ u, Calls Tryz.prog 19 #[wdV d, .int .i64 1] u fun e w' => e = .returned (.int .i64 a) ∧ Below u.heap.size u w') := fun u => by rw [← ha]; exact total_any d (m := 1) (.inl rfl) h0 (by omega) (by omega) u
  rw [ha] at HNEW
  have HT := Lib.hid hT
  have HCS := Lib.hid hd.cs
  have HCX := Lib.hid hd.cx
  have HCL := Lib.hid hd.cl
  have HFU := Lib.hid hfu
  have HWM := Lib.hid hwm
  obtain ⟨R, hR⟩ : ∃ R : Nat, roomV d.C = (R : Int) := ⟨(roomV d.C).toNat, by have := roomV_eq h7; omega⟩
  have HRR := Lib.hid hR
  rw [hR] at HRO
  have HX1 : Hid (∀ u, Below (W.alloc (wdO d)).heap.size (W.alloc (wdO d)) u → u.heap[W.heap.size]? = some (wdO d)) := fun u k => (k.block _ (by simp)).trans (heap_alloc_new W _)
  obtain ⟨B, C, M, pn, ln, cn, pc, LL, cc⟩ := d
  simp only at *
  obtain ⟨B, rfl⟩ := Int.eq_ofNat_of_zero_le h0
  obtain ⟨C, rfl⟩ := Int.eq_ofNat_of_zero_le (show 0 ≤ C by omega)
  have f1 : ¬ fu < 1 := by omega
  have f2 : ¬ 1024 < fu := by omega
  have f3 : ¬ wm < 1 := by omega
  have f4 : ¬ 32 < wm := by omega
  clear hd hT ha hR hfu hwm
  go_enter Tryz.func5, Tryz.ntmps5
  go_upto_region 3 with (first
    | (go_at_call 11; refine (HMK.out _ (below_chain (below_alloc W _) K1.out)).mono ?_; rintro e u2 ⟨q, rfl, HQ⟩; clear HMK)
    | (go_at_call 9; refine (HLV.out _ (below_alloc W _)).mono ?_; rintro e u1 ⟨rfl, k1⟩; have K1 := Lib.hid k1; obtain ⟨y0, y1, y2, y3, y4, y5⟩ := cells5w (HX1.out _ k1); clear k1 HLV))
  have HB0 := Lib.hid (b0_new (d := ⟨B, C, M, pn, ln, cn, pc, LL, cc⟩) K1.out HQ.out.2 HQ.out.1)
  obtain ⟨v2, hv2⟩ : ∃ v2, v2 = u2.alloc (tO q) := ⟨_, rfl⟩
  obtain ⟨g4, hg4⟩ : ∃ g4, u2.heap.size = g4 := ⟨_, rfl⟩
  rw [hg4] at HB0 ⊢
  rw [← hv2] at HB0 ⊢
  clear HQ hv2 hg4 K1 y0 y1 y2 y3 y4 y5 HX1
  obtain ⟨y0, y1, y2, y3, y4, y5⟩ := cells5w HB0.out.b1
  go_upto_region 5 with (first
    | (go_at_call 18; refine (config_any _ _ _ _).mono ?_; rintro e u3 ⟨rfl, k3⟩; have K3 := Lib.hid k3; clear k3)
    | (go_at_call 12; refine (HFI.out _).mono ?_; rintro e z ⟨rfl, hz⟩; subst z; clear HFI))
  have k3 := below_alloc u3 (cfgO 1 1 fu wm)
  have HB1 := Lib.hid ((HB0.out.on K3.out).on k3)
  have HC1 := Lib.hid (heap_alloc_new u3 (cfgO 1 1 fu wm))
  obtain ⟨v3, hv3⟩ : ∃ v3, v3 = u3.alloc (cfgO 1 1 fu wm) := ⟨_, rfl⟩
  obtain ⟨g9, hg9⟩ : ∃ g9, u3.heap.size = g9 := ⟨_, rfl⟩
  have HG0 : Hid (W.heap.size ≤ u3.heap.size) := (HB0.out.on K3.out).bl.size
  rw [hg9] at HC1 HG0 ⊢
  rw [← hv3] at HB1 HC1 ⊢
  clear hv3 hg9 k3 K3 HB0 y0 y1 y2 y3 y4 y5
  obtain ⟨y0, y1, y2, y3, y4, y5⟩ := cells5w HB1.out.b1
  go_upto_region 11 with (first
    | (go_at_call 10; refine (HRO.out _).mono ?_; rintro e z ⟨rfl, hz⟩; subst z; clear HRO)
    | (go_at_call 17; refine (HBE.out _ HB1.out.bl).mono ?_; rintro e u4 ⟨b, F, rfl, HZ⟩; have B3 := Lib.hid (HB1.out.on HZ.out.2.2); have C3 := Lib.hid (And.intro HZ.out.1 (HZ.out.2.1.mono HB1.out.bl.size)); have G3 := Lib.hid ((HZ.out.2.2.block _ (lt_of_block HC1.out)).trans HC1.out); clear HBE HZ y0 y1 y2 y3 y4 y5; obtain ⟨y0, y1, y2, y3, y4, y5⟩ := cells5w B3.out.b1))
  have HM3 := Lib.hid (mp_new u4 (R : Nat))
  have k3 := below_alloc u4 (mpO none 0 0 (R : Nat))
  have HB3 := Lib.hid (B3.out.on k3)
  have HC3 := Lib.hid (And.intro (C3.out.1.on k3) C3.out.2)
  have HG9 := Lib.hid ((k3.block _ (lt_of_block G3.out)).trans G3.out)
  have HS3 : Hid (Sep F [u4.heap.size]) := fun x hx hq => by
    have := C3.out.1.blw x hx
    rw [List.mem_singleton] at hq
    omega
  have HG3 : Hid (W.heap.size ≤ u4.heap.size) := B3.out.bl.size
  obtain ⟨v4, hv4⟩ : ∃ v4, v4 = u4.alloc (mpO none 0 0 (R : Nat)) := ⟨_, rfl⟩
  obtain ⟨g8, hg8⟩ : ∃ g8, u4.heap.size = g8 := ⟨_, rfl⟩
  rw [hg8] at HM3 HS3 HG3 ⊢
  rw [← hv4] at HM3 HB3 HC3 HG9 ⊢
  clear hv4 hg8 k3 B3 C3 G3 HB1 HC1 y0 y1 y2 y3 y4 y5
  obtain ⟨y0, y1, y2, y3, y4, y5⟩ := cells5w HB3.out.b1
  have l9 := lt_of_block HG9.out
  go_upto_region 12 with (first
    | (go_at_call 19; refine (HTO.out _).mono ?_; rintro e u5 ⟨rfl, k4⟩; have K4 := Lib.hid k4; have hg := (k4.block _ l9).trans HG9.out; have HG5 := Lib.hid hg; have c0 := (cell_of_row u5 g9 0 _ _ _ hg).trans rfl; have c1 := frozen_of_row u5 g9 0 _ _ hg; have c2 := lt_of_block hg; clear k4 HTO hg))
  have hb5 := HB3.out.on K4.out
  have hc5 := HC3.out.1.on K4.out
  have hm5 := HM3.out.on K4.out
  obtain ⟨v6, hv6⟩ : ∃ v6, v6 = u5.setCell ⟨g9, 0, none⟩ (.int .i64 a) := ⟨_, rfl⟩
  have t9 : Turn [g9] [g9] u5 v6 := by rw [hv6]; exact ⟨rfl, rfl, rfl, by simp, fun i hi hn => heap_setCell_other _ _ _ _ (fun q => hn (List.mem_singleton.2 q)), fun i hi => .inl hi⟩
  have hcf : v6.heap[g9]? = some (cfgO a 1 fu wm) := by rw [hv6]; exact heap_setCell_same u5 g9 0 _ _ _ HG5.out
  have nn : ∀ {x : Nat} {arr : Array Value} {T : TypeId}, u5.heap[x]? = some (.cells arr T (0, 0)) → (T == 48) = false → x ∉ [g9] := fun hx hT hq => ne_ty hx HG5.out hT (List.mem_singleton.1 hq)
  have hb6 : Bf ⟨(B : Int), (C : Int), M, pn, ln, cn, pc, LL, cc⟩ q W.heap.size g4 g9 a fu wm v6 := ⟨turn_blk t9 hb5.b1 (nn hb5.b1 (by decide)), turn_blk t9 hb5.b4 (nn hb5.b4 (by decide)), hcf⟩
  have htr : TrAt v6 (B : Int) (roomV (C : Int)) q := ⟨fun i hi => by
    have hr := hb5.tr.row i hi
    refine ⟨hr.1, hr.2.keep (t9.kept (fun k hk => ?_) hr.2.blw)⟩
    obtain ⟨arr, e⟩ := hr.2.blk hk
    exact nn e (by decide)⟩
  have hc6 := hc5.turn t9 (fun x hx hq => cel_no hc5 HG5.out (by decide) (by decide) (by rw [List.mem_singleton] at hq; exact hq ▸ hx))
  have hm6 := hm5.turn t9 (fun x hx hq => mp_no hm5 HG5.out (by decide) (by decide) (by rw [List.mem_singleton] at hq; exact hq ▸ hx))
  have hbl6 : Below W.heap.size W v6 := hb5.bl.trans (t9.below (fun x hx => by rw [List.mem_singleton.1 hx]; exact HG0.out) hb5.bl.size)
  have htw := HNEW.out W v6 q b F HT.out hbl6 HC3.out.2 htr hc6
  rw [HRR.out, Int.toNat_natCast, Int.toNat_natCast, Int.toNat_natCast] at htw
  have HPL : Hid (∃ s0, Rd W v6 ⟨(B : Int), (C : Int), M, pn, ln, cn, pc, LL, cc⟩ q W.heap.size g4 g9 a fu wm b F s0 B R C g8 [g8] []) := ⟨_, hb6, htw, hm6, HS3.out, fun x hx => by rw [List.mem_singleton.1 hx]; exact HG3.out⟩
  have HBX := Lib.hid (cells5w hb6.b1)
  rw [← hv6]
  clear hv6 t9 hcf nn hb6 htr hc6 hm6 hbl6 htw hb5 hc5 hm5 HB3 HC3 HM3 HG9 HS3 HG3 HG0 HNEW HG5 K4 y0 y1 y2 y3 y4 y5 l9 c0 c1 c2 HRR
  obtain ⟨y0, y1, y2, y3, y4, y5⟩ := HBX.out
  have hll : (LL.length : Int) ≤ 9223372036854775807 := by have := HCL.out; omega
  go_wp2_with fail
  clear y0 y1 y2 y3 y4 y5 HBX
  obtain ⟨n0, hn0⟩ : ∃ n0, W.heap.size = n0 := ⟨_, rfl⟩
  rw [hn0] at HPL ⊢
  go_loopw [87] (fun v wr => ∃ k : Nat, v = .int .i64 k ∧ k ≤ LL.length ∧ Hid (∃ s G L, Rd W wr ⟨(B : Int), (C : Int), M, pn, ln, cn, pc, LL, cc⟩ q n0 g4 g9 a fu wm b F s B R C g8 G L)) (fun v _ => LL.length - (intOf v).toNat)
  case atStart => exact ⟨0, rfl, Nat.zero_le _, have ⟨s0, h⟩ := HPL.out; ⟨s0, [g8], [], h⟩⟩
  case round =>
    obtain ⟨k, rfl, hk, HR⟩ := hrel
    clear HPL
    obtain ⟨s, G, L, hrd⟩ := HR.out
    by_cases hlt : k < LL.length
    · have hlt' : (k : Int) < (LL.length : Int) := by omega
      obtain ⟨g, o, rfl, hg, x0, x1, x2, xb⟩ := (HCS.out.on hrd.pl.bl) k hlt
      have hcx := HCX.out (LL.getD k cal0) (by rw [List.getD_eq_getElem?_getD, List.getElem?_eq_getElem hlt]; exact List.getElem_mem hlt)
      obtain ⟨c, hc⟩ : ∃ c, LL.getD k cal0 = c := ⟨_, rfl⟩
      rw [hc] at x0 x1 x2 xb hcx
      clear hc HR
      have h4 := hrd.bx.b4
      have l4 := lt_of_block h4
      have HRD := Lib.hid hrd
      have HXB := Lib.hid xb
      have HCC := Lib.hid hcx
      clear hrd xb hcx
      by_cases hk1 : 1 ≤ c.k ∧ c.k ≤ 7
      · have HP : Hid (∀ u, _) := fun u => prog_tree q hk1.1 hk1.2 u
        have HK1 := Lib.hid hk1
        obtain ⟨t, ht⟩ : ∃ t, tagS c.k = t := ⟨_, rfl⟩
        obtain ⟨z, hz⟩ : ∃ z, q (c.k - 1).toNat = z := ⟨_, rfl⟩
        have HTZ := Lib.hid (And.intro ht hz)
        rw [ht, hz] at HP
        clear hk1 ht hz
        go_upto_region 17 with (first
          | (refine wpList_load_row rfl 28 _ rfl g4 rfl _ _ _ _ ((heap_alloc_old wr _ l4).trans h4) Tryz.underlying28 rfl treeInfo ?_)
          | (go_at_call 14; refine (HP.out _).mono ?_; rintro e u6 ⟨rfl, k6⟩; have K6 := Lib.hid k6; clear k6 HP))
        have k1 := below_chain (below_chain (below_alloc wr (opO c)) K6.out) (below_alloc u6 (pgO2 t z))
        have hop := ((below_alloc u6 (pgO2 t z)).block _ (Nat.lt_of_lt_of_le (lt_of_block (heap_alloc_new wr (opO c))) K6.out.size)).trans ((K6.out.block _ (lt_of_block (heap_alloc_new wr (opO c)))).trans (heap_alloc_new wr (opO c)))
        have HR1 := Lib.hid (HRD.out.on k1)
        have HX1 := Lib.hid (HXB.out.on k1)
        have HO1 := Lib.hid hop
        have HG1 := Lib.hid (heap_alloc_new u6 (pgO2 t z))
        obtain ⟨v1, hv1⟩ : ∃ v1, v1 = u6.alloc (pgO2 t z) := ⟨_, rfl⟩
        obtain ⟨gp, hgp⟩ : ∃ gp, u6.heap.size = gp := ⟨_, rfl⟩
        obtain ⟨gw, hgw⟩ : ∃ gw, wr.heap.size = gw := ⟨_, rfl⟩
        rw [hgp] at HG1 ⊢
        rw [hgw] at HO1 ⊢
        rw [← hv1] at HR1 HX1 HO1 HG1 ⊢
        clear hv1 hgp hgw k1 hop HRD HXB K6 h4 l4 x0 x1 x2
        obtain ⟨y0, y1, y2⟩ : v1.cell? ⟨gw, 0, none⟩ = some (.int .i64 c.k) ∧ v1.cell? ⟨gw, 2, none⟩ = some (.slice c.p c.l.length c.c) ∧ gw < v1.heap.size := ⟨(cell_of_row _ _ 0 _ _ _ HO1.out).trans rfl, (cell_of_row _ _ 2 _ _ _ HO1.out).trans rfl, lt_of_block HO1.out⟩
        go_upto_region 19 with (first
          | (go_at_call 23; refine (floats_any rfl (HX1.out.on A1.out.2) HCC.out.2).mono ?_; rintro e u3 ⟨p2, n2, c2, rfl, HF⟩)
          | (go_at_call 22; refine (Sx.all_any HR1.out.pl.tw.cel).mono ?_; rintro e u2 ⟨rfl, q5, q6⟩; have A1 := Lib.hid (And.intro q5 q6); obtain ⟨z0, z1, z2⟩ : u2.cell? ⟨gw, 0, none⟩ = some (.int .i64 c.k) ∧ u2.cell? ⟨gw, 2, none⟩ = some (.slice c.p c.l.length c.c) ∧ gw < u2.heap.size := ⟨(q6.cell (p := ⟨gw, 0, none⟩) y2).trans y0, (q6.cell (p := ⟨gw, 2, none⟩) y2).trans y1, Nat.lt_of_lt_of_le y2 q6.size⟩; clear q5 q6))
        have k3 := A1.out.2.trans (HF.out.2.2.2.mono A1.out.2.size)
        have HR3 := Lib.hid (HR1.out.on k3)
        have HO3 := Lib.hid ((k3.block _ (lt_of_block HO1.out)).trans HO1.out)
        have HG3 := Lib.hid ((k3.block _ (lt_of_block HG1.out)).trans HG1.out)
        have HLN : Hid ((c.l.take 8).length = n2) := by have := HF.out.1; show _ = _; rw [this, List.length_take]
        have h8 : n2 ≤ 8 := by rw [← HLN.out, List.length_take]; omega
        have hlx : ∀ x ∈ c.l.take 8, x < 18446744073709551616 := fun x hx => HCC.out.1 x (List.mem_of_mem_take hx)
        obtain ⟨hh, cd, er, ou, L2, s', hend, hsame, hrun⟩ := HR3.out.pl.tw.runF HK1.out.1 HK1.out.2 HFU.out HWM.out (po := p2) (co := c2) HLN.out h8 hlx
        have hrun2 := hrun (row_fl HF.out.2.1)
        rw [HTZ.out.1, HTZ.out.2] at hrun2
        have HRUN := Lib.hid hrun2
        have hs256 : s.length ≤ 256 := by have h1 := HR3.out.pl.tw.lies.n; have h2 := (Md.cfgB_iff.1 HR3.out.pl.tw.lies.cfg).1; omega
        have hbs : Blw v1 F := HR1.out.pl.tw.cel.blw
        have HBE : Hid (RowAt 74 u3 (some ⟨v1.heap.size, 0, none⟩) s.length (fls s) ∧ Sep (fpR (some ⟨v1.heap.size, 0, none⟩)) (F ++ G)) := ⟨A1.out.1.on HF.out.2.2.2, fun x hx hq => by
          have e : x = v1.heap.size := by simpa [fpR] using hx
          have := (List.mem_append.1 hq).elim (hbs x) (HR1.out.pl.mp.blw x)
          omega⟩
        have HAR : Hid (RowAt 74 u3 p2 c2 (fls (c.l.take 8)) ∧ Sep (fpR p2) F) := ⟨HF.out.2.1, HF.out.2.2.1.sep (fun x hx => Nat.lt_of_lt_of_le (hbs x hx) A1.out.2.size)⟩
        obtain ⟨gb, hgb⟩ : ∃ gb, v1.heap.size = gb := ⟨_, rfl⟩
        rw [hgb] at HBE ⊢
        obtain ⟨x0, x1, x2, x3, x4⟩ := Md.cells4 HR3.out.bx.b9
        obtain ⟨p0, p1, p3⟩ := cells2_of HG3.out
        clear hrun hrun2 k3 HR1 HO1 HG1 HX1 A1 HF hgb hbs y0 y1 y2 z0 z1 z2 h8
        go_upto_region 20 with (go_at_call 24; refine HRUN.out.mono ?_; rintro e u4 ⟨qo, m1, qr, nr, m2, qw, nw, m3, us, rfl, HZ⟩; clear HRUN)
        have kr := below_alloc u4 (.cells #[.int .i64 hh, .int .i64 cd, .int .i64 er, .slice qo ou.length m1, .slice qr nr m2, .slice qw nw m3, .int .i64 us] 63)
        have HRB := Lib.hid (heap_alloc_new u4 (.cells #[.int .i64 hh, .int .i64 cd, .int .i64 er, .slice qo ou.length m1, .slice qr nr m2, .slice qw nw m3, .int .i64 us] 63))
        have h4 := HR3.out.ran HZ.out.2.1 HZ.out.2.2
        have HB4 := Lib.hid (And.intro (h4.1.on kr) (And.intro (h4.2.1.on kr) (h4.2.2.on kr)))
        have HO4 := Lib.hid ((kr.block _ (lt_of_block (turn_blk HZ.out.2.2 HO3.out (tys_f HR3.out.pl.tw.cel _ _ _ HO3.out (.inr (.inr (.inr (.inl rfl)))))))).trans (turn_blk HZ.out.2.2 HO3.out (tys_f HR3.out.pl.tw.cel _ _ _ HO3.out (.inr (.inr (.inr (.inl rfl)))))))
        have HBE4 := Lib.hid ((HBE.out.1.turn HZ.out.2.2 (fun x hx hq => HBE.out.2 x hx (List.mem_append_left _ hq))).on kr)
        have HAR4 := Lib.hid ((HAR.out.1.turn HZ.out.2.2 HAR.out.2).on kr)
        have HOU4 := Lib.hid (And.intro (HZ.out.1.out.on kr) HZ.out.1.ao)
        have HSG := Lib.hid (And.intro HR3.out.pl.sep (And.intro HR3.out.pl.abG HR3.out.pl.mp.blw))
        have hso := HR3.out.pl.tw.has.sorted
        have hr16 := HR3.out.pl.room
        obtain ⟨v4, hv4⟩ : ∃ v4, v4 = u4.alloc (.cells #[.int .i64 hh, .int .i64 cd, .int .i64 er, .slice qo ou.length m1, .slice qr nr m2, .slice qw nw m3, .int .i64 us] 63) := ⟨_, rfl⟩
        obtain ⟨gr, hgr⟩ : ∃ gr, u4.heap.size = gr := ⟨_, rfl⟩
        rw [hgr] at HRB ⊢
        rw [← hv4] at HRB HB4 HO4 HBE4 HAR4 HOU4 ⊢
        clear hv4 hgr kr h4 HZ HR3 HO3 HG3 HBE HAR x0 x1 x2 x3 x4 p0 p1 p3
        have r0 := (cell_of_row v4 gr 0 _ _ _ HRB.out).trans rfl
        have r1 := (cell_of_row v4 gr 1 _ _ _ HRB.out).trans rfl
        have r2 := (cell_of_row v4 gr 2 _ _ _ HRB.out).trans rfl
        have r3 := (cell_of_row v4 gr 3 _ _ _ HRB.out).trans rfl
        have r7 := lt_of_block HRB.out
        rcases hend with ⟨rfl, hw, rfl⟩ | ⟨e1, e2, rfl, e4, e5⟩
        · obtain rfl := hsame rfl
          have HRD4 : Hid (Rd W v4 ⟨(B : Int), (C : Int), M, pn, ln, cn, some ⟨g, o, none⟩, LL, cc⟩ q n0 g4 g9 a fu wm b F s' B R C g8 G L2) := ⟨HB4.out.1, HB4.out.2.2, HB4.out.2.1, HSG.out.1, HSG.out.2.1⟩
          have HCEL := Lib.hid HB4.out.2.2.cel
          have hsz : s'.length ≤ 9223372036854775807 := by omega
          clear hsame HB4 HAR4 HOU4 HSG hso HRB HTZ HFU HWM HLN hlx HO4
          rcases hw with ⟨rfl, hlt2⟩ | ⟨rfl, hlt2⟩
          · go_wp2_with (first
              | (go_at_call 25; refine (exact_any rfl hsz EX.out.1 EX.out.2).mono ?_; rintro e u6 ⟨rfl, q6⟩; have K6 := Lib.hid (below_chain K5.out (q6.below _)); clear q6)
              | (go_at_call 22; refine (Sx.all_any HCEL.out).mono ?_; rintro e u5 ⟨rfl, q1, q2⟩; have EX := Lib.hid (And.intro (row_fl (HBE4.out.on q2)) (row_fl q1)); have K5 := Lib.hid q2; clear q1 q2))
            exact ⟨⟨k + 1, by first | rfl | (congr 1), by omega, s', G, L2, HRD4.out.on K6.out⟩, by simp [intOf]; omega⟩
          · go_wp2_with (first
              | (go_at_call 25; refine (exact_any rfl hsz EX.out.1 EX.out.2).mono ?_; rintro e u6 ⟨rfl, q6⟩; have K6 := Lib.hid (below_chain K5.out (q6.below _)); clear q6)
              | (go_at_call 22; refine (Sx.all_any HCEL.out).mono ?_; rintro e u5 ⟨rfl, q1, q2⟩; have EX := Lib.hid (And.intro (row_fl (HBE4.out.on q2)) (row_fl q1)); have K5 := Lib.hid q2; clear q1 q2))
            exact ⟨⟨k + 1, by first | rfl | (congr 1), by omega, s', G, L2, HRD4.out.on K6.out⟩, by simp [intOf]; omega⟩
        · have hsay := says_any (co := c2) HB4.out.2.1 hso hr16 HK1.out.1 HK1.out.2 HLN.out hlx (row_fl HAR4.out)
          have h3 : ¬ hh = 3 := by rw [e1]; unfold howS; split <;> decide
          have hol : ou.length ≤ 9223372036854775807 := by rw [e4]; have := outS_len (k := c.k) (K := argF (c.l.take 8) 0) hso; omega
          rw [← e1, ← e2, ← e4, ← e5] at hsay
          have HSAY := Lib.hid hsay
          have y0 : v4.cell? ⟨gw, 0, none⟩ = some (.int .i64 c.k) := (cell_of_row _ _ 0 _ _ _ HO4.out).trans rfl
          have y1 := lt_of_block HO4.out
          clear hsay hso hr16 e1 e2 e4 e5 hsame HAR4 HTZ HFU HWM HLN hlx HBE4
          obtain ⟨no, hno⟩ : ∃ no, ou.length = no := ⟨_, rfl⟩
          have HNO := Lib.hid hno
          rw [hno] at hol HRB r3 ⊢
          clear hno
          go_upto_region 27 with (go_at_call 26; refine HSAY.out.mono ?_; rintro e u5 hq; obtain ⟨p4, m4, G', hr, hq1, hq2, hq3⟩ := hq.ex; rw [HNO.out] at hr; subst hr; have HQ := Lib.hid (And.intro hq1 (And.intro hq2 hq3)); clear hq hq1 hq2 hq3 HSAY)
          have k5 := below_alloc u5 (endO hh cd 0)
          have HRD5 := Lib.hid ((Rd.said HSG.out.1 HSG.out.2.1 HB4.out.1 HB4.out.2.1 HB4.out.2.2 HQ.out.2.2 HQ.out.2.1).on k5)
          have HE5 := heap_alloc_new u5 (endO hh cd 0)
          have t1 := turn_blk HQ.out.2.2 HRB.out (tys_g HB4.out.2.1 _ _ _ HRB.out (.inr (.inr (.inr (.inr (.inr rfl))))))
          have hrb := (k5.block _ (lt_of_block t1)).trans t1
          have t2 := turn_blk HQ.out.2.2 HO4.out (tys_g HB4.out.2.1 _ _ _ HO4.out (.inr (.inr (.inr (.inl rfl)))))
          have hop := (k5.block _ (lt_of_block t2)).trans t2
          have hfl := (HOU4.out.1.turn HQ.out.2.2 (abv_blw HOU4.out.2 HSG.out.2.2)).on k5
          have HSM := Lib.hid (same_any c.k (ca := m1) (cb := m4) HNO.out hol (row_fl hfl) (HQ.out.1.on k5))
          obtain ⟨v5, hv5⟩ : ∃ v5, v5 = u5.alloc (endO hh cd 0) := ⟨_, rfl⟩
          obtain ⟨ge, hge⟩ : ∃ ge, u5.heap.size = ge := ⟨_, rfl⟩
          rw [hge] at HE5 ⊢
          rw [← hv5] at HRD5 HE5 hrb hop HSM ⊢
          clear hv5 hge k5 hfl t1 t2 HQ HB4 HRB HO4 HOU4 HSG r0 r1 r2 r3 r7 y0 y1
          have r0 := (cell_of_row v5 gr 0 _ _ _ hrb).trans rfl
          have r1 := (cell_of_row v5 gr 1 _ _ _ hrb).trans rfl
          have r2 := (cell_of_row v5 gr 2 _ _ _ hrb).trans rfl
          have r3 := (cell_of_row v5 gr 3 _ _ _ hrb).trans rfl
          have r7 := lt_of_block hrb
          have e0 := (cell_of_row v5 ge 0 _ _ _ HE5).trans rfl
          have e1 := (cell_of_row v5 ge 1 _ _ _ HE5).trans rfl
          have e2 := (cell_of_row v5 ge 2 _ _ _ HE5).trans rfl
          have e3 := lt_of_block HE5
          have y0 : v5.cell? ⟨gw, 0, none⟩ = some (.int .i64 c.k) := (cell_of_row _ _ 0 _ _ _ hop).trans rfl
          have y1 := lt_of_block hop
          clear hrb hop HE5
          go_wp2_with (go_at_call 27; refine HSM.out.mono ?_; rintro e u7 ⟨rfl, hu⟩; have K7 := Lib.hid (hu.below v5.heap.size); clear hu)
          exact ⟨⟨k + 1, by first | rfl | (congr 1), by omega, s', G', L2, HRD5.out.on K7.out⟩, by simp [intOf]; omega⟩
      · have HP : Hid (∀ u, _) := fun u => prog_none q hk1 u
        clear hk1
        go_wp2_with (first
          | (refine wpList_load_row rfl 28 _ rfl g4 rfl _ _ _ _ ((heap_alloc_old wr _ l4).trans h4) Tryz.underlying28 rfl treeInfo ?_)
          | (go_at_call 14; refine (HP.out _).mono ?_; rintro e u6 ⟨rfl, k6⟩; have K6 := Lib.hid k6; clear k6 HP))
        exact ⟨⟨k + 1, by first | rfl | (congr 1), by omega, s, G, L, HRD.out.on (below_chain (below_chain (below_alloc wr (opO c)) K6.out) (below_alloc u6 _))⟩, by simp [intOf]; omega⟩
    · have hlt' : ¬ (k : Int) < (LL.length : Int) := by omega
      have HBL : Hid (Below n0 W wr) := by show Below n0 W wr; rw [← hn0]; exact hrd.pl.bl
      clear hrd HR HCS HCX
      go_wp2_with fail
      go_ret
      exact ⟨rfl, HBL.out⟩
end
end Go.Proofs.YtpboiggakehpoaaGreatDoor.Tr
namespace Go.Proofs.YtpboiggakehpoaaGreatDoor.Tr
open Go.ChangeShapes Go.WideShapes Go.ChangeAt Go.RowKit Num Go.Maps As
open Go.ChangeMaps Go.MapKept
attribute [local go_sem] run_store_float frombits_run bits_run
section
variable {W : World}
set_option maxRecDepth 100000 in
theorem fails_no (hT : Shaped5 W) {d : Wd} (hd : WdIn W d) (hf : ¬ (7 ≤ d.C ∧ 0 ≤ d.B ∧ d.B + d.C ≤ 256)) (fu wm : Int) : Calls Tryz.prog 5 #[wdV d, .int .i64 fu, .int .i64 wm] W fun e w' => e = .returned (.bool true) ∧ Below W.heap.size W w' := by
  have HLV : Hid (∀ u, Below W.heap.size W u → _) := fun u hu => live_any (hT.on hu)
  have HMK : Hid (∀ u, _) := fun u => make_Z (w := u) hd.C.2 hd.C.1 hf
  have HFI : Hid (∀ u, _) := fun u => fits_no (b := d.B) (c := d.C) hd.C.2 hd.C.1 hf u
  have HX1 : Hid (∀ u, Below (W.alloc (wdO d)).heap.size (W.alloc (wdO d)) u → Below W.heap.size W u ∧ u.heap[W.heap.size]? = some (wdO d)) := fun u k => ⟨below_chain (below_alloc W _) k, (k.block _ (by simp)).trans (heap_alloc_new W _)⟩
  obtain ⟨B, C, M, pn, ln, cn, pc, LL, cc⟩ := d
  simp only at *
  clear hd hT hf
  go_enter Tryz.func5, Tryz.ntmps5
  go_upto_region 3 with (first
    | (go_at_call 11; refine (HMK.out _).mono ?_; rintro e u2 ⟨rfl, k2⟩; have K2 := Lib.hid k2; clear k2 HMK)
    | (go_at_call 9; refine (HLV.out _ (below_alloc W _)).mono ?_; rintro e u1 ⟨rfl, k1⟩; have K1 := Lib.hid k1; obtain ⟨y0, y1, y2, y3, y4, y5⟩ := cells5w (HX1.out _ k1).2; clear k1 HLV))
  have hk : Below W.heap.size W (u2.alloc (.cells tZ 28)) := below_chain (below_chain (HX1.out _ K1.out).1 K2.out) (below_alloc _ _)
  have hb := ((below_alloc u2 (.cells tZ 28)).block _ (Nat.lt_of_lt_of_le y5 K2.out.size)).trans ((K2.out.block _ y5).trans (HX1.out _ K1.out).2)
  have HK := Lib.hid hk
  have HB := Lib.hid hb
  obtain ⟨v2, hv2⟩ : ∃ v2, v2 = u2.alloc (.cells tZ 28) := ⟨_, rfl⟩
  rw [← hv2] at HK HB ⊢
  clear hv2 hk hb y0 y1 y2 y3 y4 y5 K1 K2 HX1
  obtain ⟨y0, y1, y2, y3, y4, y5⟩ := cells5w HB.out
  go_wp2_with (first
    | (go_at_call 18; refine (config_any _ _ _ _).mono ?_; rintro e u3 ⟨rfl, k3⟩; have K3 := Lib.hid k3; clear k3)
    | (go_at_call 12; refine (HFI.out _).mono ?_; rintro e z ⟨rfl, hz⟩; subst z; clear HFI))
  go_ret
  exact ⟨rfl, below_chain (below_chain HK.out K3.out) (below_alloc _ _)⟩
set_option maxRecDepth 100000 in
set_option maxHeartbeats 1000000 in
theorem fails_off (hT : Shaped5 W) {d : Wd} (h7 : 7 ≤ d.C) (h0 : 0 ≤ d.B) (hf : d.B + d.C ≤ 256) {fu wm : Int} (ho : ¬ ((1 ≤ fu ∧ fu ≤ 1024) ∧ 1 ≤ wm ∧ wm ≤ 32)) : Calls Tryz.prog 5 #[wdV d, .int .i64 fu, .int .i64 wm] W fun e w' => e = .returned (.bool true) ∧ Below W.heap.size W w' := by
  have HLV : Hid (∀ u, Below W.heap.size W u → _) := fun u hu => live_any (hT.on hu)
  have HMK : Hid (∀ u, Below W.heap.size W u → _) := fun u hu => make_A (hT.on hu) (b := d.B) (c := d.C) (by omega) h7 h0 hf
  have HFI : Hid (∀ u, _) := fun u => fits_yes (b := d.B) (c := d.C) h7 h0 hf u
  have HX1 : Hid (∀ u, Below (W.alloc (wdO d)).heap.size (W.alloc (wdO d)) u → u.heap[W.heap.size]? = some (wdO d)) := fun u k => (k.block _ (by simp)).trans (heap_alloc_new W _)
  obtain ⟨B, C, M, pn, ln, cn, pc, LL, cc⟩ := d
  simp only at *
  clear hT
  go_enter Tryz.func5, Tryz.ntmps5
  go_upto_region 3 with (first
    | (go_at_call 11; refine (HMK.out _ (below_chain (below_alloc W _) K1.out)).mono ?_; rintro e u2 ⟨q, rfl, HQ⟩; clear HMK)
    | (go_at_call 9; refine (HLV.out _ (below_alloc W _)).mono ?_; rintro e u1 ⟨rfl, k1⟩; have K1 := Lib.hid k1; obtain ⟨y0, y1, y2, y3, y4, y5⟩ := cells5w (HX1.out _ k1); clear k1 HLV))
  have HB0 := Lib.hid (b0_new (d := ⟨B, C, M, pn, ln, cn, pc, LL, cc⟩) K1.out HQ.out.2 HQ.out.1)
  obtain ⟨v2, hv2⟩ : ∃ v2, v2 = u2.alloc (tO q) := ⟨_, rfl⟩
  obtain ⟨g4, hg4⟩ : ∃ g4, u2.heap.size = g4 := ⟨_, rfl⟩
  rw [hg4] at HB0 ⊢
  rw [← hv2] at HB0 ⊢
  clear HQ hv2 hg4 K1 y0 y1 y2 y3 y4 y5 HX1
  obtain ⟨y0, y1, y2, y3, y4, y5⟩ := cells5w HB0.out.b1
  go_upto_region 5 with (first
    | (go_at_call 18; refine (config_any _ _ _ _).mono ?_; rintro e u3 ⟨rfl, k3⟩; have K3 := Lib.hid k3; clear k3)
    | (go_at_call 12; refine (HFI.out _).mono ?_; rintro e z ⟨rfl, hz⟩; subst z; clear HFI))
  have HFIN := Lib.hid (below_chain (below_chain HB0.out.bl K3.out) (below_alloc u3 (cfgO 1 1 fu wm)))
  by_cases f1 : fu < 1
  · go_wp2_with fail
    go_ret
    exact ⟨rfl, HFIN.out⟩
  · by_cases f2 : 1024 < fu
    · go_wp2_with fail
      go_ret
      exact ⟨rfl, HFIN.out⟩
    · by_cases f3 : wm < 1
      · go_wp2_with fail
        go_ret
        exact ⟨rfl, HFIN.out⟩
      · have f4 : 32 < wm := by omega
        go_wp2_with fail
        go_ret
        exact ⟨rfl, HFIN.out⟩
theorem fails_any (hT : Shaped5 W) {d : Wd} (hd : WdIn W d) (fu wm : Int) : Calls Tryz.prog 5 #[wdV d, .int .i64 fu, .int .i64 wm] W fun e w' => e = .returned (.bool true) ∧ Below W.heap.size W w' := by
  by_cases hf : 7 ≤ d.C ∧ 0 ≤ d.B ∧ d.B + d.C ≤ 256
  · by_cases ho : (1 ≤ fu ∧ fu ≤ 1024) ∧ 1 ≤ wm ∧ wm ≤ 32
    · exact fails_yes hT hd hf.1 hf.2.1 hf.2.2 ho.1 ho.2
    · exact fails_off hT hf.1 hf.2.1 hf.2.2 ho
  · exact fails_no hT hd hf fu wm
end
end Go.Proofs.YtpboiggakehpoaaGreatDoor.Tr
