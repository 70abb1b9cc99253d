import Derived.Test.YtjicnjncdmknmaaGreatDoorKS
namespace Go.Proofs.YtjicnjncdmknmaaGreatDoor
open Go.ChangeShapes Go.WideShapes Go.ChangeAt Go.RowKit Num

/-! what a step does with the stack, the place and the open calls -/
/-- where an instruction goes on, how many calls are open then -/
def Leads (m : Mac) (i : Ins) (r : Mac) : Prop :=
  ((i.op = 11 ∨ i.op = 12 ∨ i.op = 13) ∧ (r.place = m.place + 1 ∨ r.place = i.n) ∧ r.calls.length = m.calls.length) ∨
  (i.op = 14 ∧ r.place = i.n ∧ r.calls.length = m.calls.length + 1) ∨
  (i.op = 15 ∧ r.calls.length + 1 = m.calls.length) ∨
  ((i.op < 11 ∨ 15 < i.op) ∧ r.place = m.place + 1 ∧ r.calls.length = m.calls.length)
def lessI (a : Ask) : Int := if a.kind = 1 then 1 else 0
/-- a step that does not end it -/
def Effs (m : Mac) (r : Mac × Ask) : Prop := r.2.kind = 4 ∨ (m.place < (m.code.length : Int) ∧ (1 ≤ (insM m).op ∧ (insM m).op ≤ 20) ∧ (r.1.st.length : Int) = (m.st.length : Int) - takesI (insM m) + laysI (insM m) - lessI r.2 ∧ (r.2.kind = 1 → r.1.st.length + 1 = m.st.length ∧ (insM m).op = 16) ∧ Leads m (insM m) r.1)
section
variable {m : Mac}
theorem fails_effs (e : Int) (m' : Mac) : Effs m (failM m' e) := .inl rfl
theorem effs_some {i : Ins} {r : Mac × Ask} (hi : insM m = i) (hp : m.place < (m.code.length : Int)) (ho : 1 ≤ i.op ∧ i.op ≤ 20) (hs : (r.1.st.length : Int) = (m.st.length : Int) - takesI i + laysI i - lessI r.2) (h1 : r.2.kind = 1 → r.1.st.length + 1 = m.st.length ∧ i.op = 16) (hl : Leads m i r.1) : Effs m r := by
  subst hi
  exact .inr ⟨hp, ho, hs, h1, hl⟩
theorem leads_on {i : Ins} {r : Mac} (h : i.op < 11 ∨ 15 < i.op) (h1 : r.place = m.place + 1) (h2 : r.calls = m.calls) : Leads m i r := .inr (.inr (.inr ⟨h, h1, by rw [h2]⟩))
theorem do_effs {k : Nat} {n : Int} {x : Nat} (hi : insM m = ⟨k, n, x⟩) (hp : m.place < (m.code.length : Int)) (hk : 1 ≤ k ∧ k < 21) (hr : roomB (begM m) ⟨k, n, x⟩ = true) : Effs m (doM (begM m) ⟨k, n, x⟩) := by
  have hst : (begM m).st = m.st := rfl
  have hlt : leastI ⟨k, n, x⟩ ≤ (m.st.length : Int) := by
    unfold roomB at hr
    simp only [Bool.and_eq_true, decide_eq_true_eq] at hr
    exact hr.1.1
  clear hr
  have hkk : k = 1 ∨ k = 2 ∨ k = 3 ∨ k = 4 ∨ k = 5 ∨ k = 6 ∨ k = 7 ∨ k = 8 ∨ k = 9 ∨ k = 10 ∨ k = 11 ∨ k = 12 ∨ k = 13 ∨ k = 14 ∨ k = 15 ∨ k = 16 ∨ k = 17 ∨ k = 18 ∨ k = 19 ∨ k = 20 := by omega
  rcases hkk with rfl | rfl | rfl | rfl | rfl | rfl | rfl | rfl | rfl | rfl | rfl | rfl | rfl | rfl | rfl | rfl | rfl | rfl | rfl | rfl
  · exact effs_some hi hp (by simp) (by show ((fixB x :: m.st).length : Int) = (m.st.length : Int) - 0 + 1 - 0; simp) (fun h => absurd h (by show ¬ (0 : Int) = 1; decide)) (leads_on (.inl (by simp)) rfl rfl)
  · have h1 : (1 : Int) ≤ (m.st.length : Int) := hlt
    exact effs_some hi hp (by simp) (by show ((m.st.drop 1).length : Int) = (m.st.length : Int) - 1 + 0 - 0; rw [List.length_drop]; omega) (fun h => absurd h (by show ¬ (0 : Int) = 1; decide)) (leads_on (.inl (by simp)) rfl rfl)
  · exact effs_some hi hp (by simp) (by show ((m.st.getD 0 0 :: m.st).length : Int) = (m.st.length : Int) - 1 + 2 - 0; rw [List.length_cons]; omega) (fun h => absurd h (by show ¬ (0 : Int) = 1; decide)) (leads_on (.inl (by simp)) rfl rfl)
  · have h1 : (2 : Int) ≤ (m.st.length : Int) := hlt
    exact effs_some hi hp (by simp) (by show ((m.st.getD 1 0 :: m.st.getD 0 0 :: m.st.drop 2).length : Int) = (m.st.length : Int) - 2 + 2 - 0; rw [List.length_cons, List.length_cons, List.length_drop]; omega) (fun h => absurd h (by show ¬ (0 : Int) = 1; decide)) (leads_on (.inl (by simp)) rfl rfl)
  · exact effs_some hi hp (by simp) (by show ((m.st.getD n.toNat 0 :: m.st).length : Int) = (m.st.length : Int) - 0 + 1 - 0; rw [List.length_cons]; omega) (fun h => absurd h (by show ¬ (0 : Int) = 1; decide)) (leads_on (.inl (by simp)) rfl rfl)
  · exact effs_some hi hp (by simp) (by show ((m.args n.toNat :: m.st).length : Int) = (m.st.length : Int) - 0 + 1 - 0; rw [List.length_cons]; omega) (fun h => absurd h (by show ¬ (0 : Int) = 1; decide)) (leads_on (.inl (by simp)) rfl rfl)
  · exact effs_some hi hp (by simp) (by show ((m.loc n.toNat :: m.st).length : Int) = (m.st.length : Int) - 0 + 1 - 0; rw [List.length_cons]; omega) (fun h => absurd h (by show ¬ (0 : Int) = 1; decide)) (leads_on (.inl (by simp)) rfl rfl)
  · have h1 : (1 : Int) ≤ (m.st.length : Int) := hlt
    exact effs_some hi hp (by simp) (by show ((m.st.drop 1).length : Int) = (m.st.length : Int) - 1 + 0 - 0; rw [List.length_drop]; omega) (fun h => absurd h (by show ¬ (0 : Int) = 1; decide)) (leads_on (.inl (by simp)) rfl rfl)
  · have h1 : (1 : Int) ≤ (m.st.length : Int) := hlt
    exact effs_some hi hp (by simp) (by show ((oneV n (m.st.getD 0 0) :: m.st.drop 1).length : Int) = (m.st.length : Int) - 1 + 1 - 0; rw [List.length_cons, List.length_drop]; omega) (fun h => absurd h (by show ¬ (0 : Int) = 1; decide)) (leads_on (.inl (by simp)) rfl rfl)
  · have h1 : (2 : Int) ≤ (m.st.length : Int) := hlt
    exact effs_some hi hp (by simp) (by show ((twoV n (m.st.getD 1 0) (m.st.getD 0 0) :: m.st.drop 2).length : Int) = (m.st.length : Int) - 2 + 1 - 0; rw [List.length_cons, List.length_drop]; omega) (fun h => absurd h (by show ¬ (0 : Int) = 1; decide)) (leads_on (.inl (by simp)) rfl rfl)
  · exact effs_some hi hp (by simp) (by show (m.st.length : Int) = (m.st.length : Int) - 0 + 0 - 0; omega) (fun h => absurd h (by show ¬ (0 : Int) = 1; decide)) (.inl ⟨.inl rfl, .inr rfl, rfl⟩)
  · have h1 : (1 : Int) ≤ (m.st.length : Int) := hlt
    refine effs_some hi hp (by simp) (by show ((m.st.drop 1).length : Int) = (m.st.length : Int) - 1 + 0 - 0; rw [List.length_drop]; omega) (fun h => absurd h (by show ¬ (0 : Int) = 1; decide)) (.inl ⟨.inr (.inl rfl), ?_, rfl⟩)
    show (if trueB ((begM m).st.getD 0 0) then n else (begM m).place) = m.place + 1 ∨ (if trueB ((begM m).st.getD 0 0) then n else (begM m).place) = n
    split
    · exact .inr rfl
    · exact .inl rfl
  · have h1 : (1 : Int) ≤ (m.st.length : Int) := hlt
    refine effs_some hi hp (by simp) (by show ((m.st.drop 1).length : Int) = (m.st.length : Int) - 1 + 0 - 0; rw [List.length_drop]; omega) (fun h => absurd h (by show ¬ (0 : Int) = 1; decide)) (.inl ⟨.inr (.inr rfl), ?_, rfl⟩)
    show (if trueB ((begM m).st.getD 0 0) then (begM m).place else n) = m.place + 1 ∨ (if trueB ((begM m).st.getD 0 0) then (begM m).place else n) = n
    split
    · exact .inl rfl
    · exact .inr rfl
  · exact effs_some hi hp (by simp) (by show (m.st.length : Int) = (m.st.length : Int) - 0 + 0 - 0; omega) (fun h => absurd h (by show ¬ (0 : Int) = 1; decide)) (.inr (.inl ⟨rfl, rfl, rfl⟩))
  · show Effs m (retM (begM m))
    cases hc : (begM m).calls with
    | nil =>
      rw [retM_nil hc]
      exact .inl rfl
    | cons c q =>
      rw [retM_cons hc]
      have hc' : m.calls = c :: q := hc
      exact effs_some hi hp (by simp) (by show (m.st.length : Int) = (m.st.length : Int) - 0 + 0 - 0; omega) (fun h => absurd h (by show ¬ (0 : Int) = 1; decide)) (.inr (.inr (.inl ⟨rfl, by rw [hc']; rfl⟩)))
  · have h1 : (1 : Int) ≤ (m.st.length : Int) := hlt
    show Effs m (readM (begM m))
    unfold readM
    cases ha : addrB (begM m) with
    | false => exact fails_effs 50 _
    | true =>
      cases hh : hasC (begM m).buf (addrV (begM m)) with
      | false =>
        rw [if_pos rfl, if_neg Bool.false_ne_true]
        exact effs_some hi hp (by simp) (by show ((m.st.drop 1).length : Int) = (m.st.length : Int) - 1 + 1 - 1; rw [List.length_drop]; omega) (fun _ => ⟨by show (m.st.drop 1).length + 1 = m.st.length; rw [List.length_drop]; omega, rfl⟩) (leads_on (.inr (by simp)) rfl rfl)
      | true =>
        rw [if_pos rfl, if_pos rfl]
        exact effs_some hi hp (by simp) (by show ((getC (begM m).buf (addrV (begM m)) :: m.st.drop 1).length : Int) = (m.st.length : Int) - 1 + 1 - 0; rw [List.length_cons, List.length_drop]; omega) (fun h => absurd h (by show ¬ (2 : Int) = 1; decide)) (leads_on (.inr (by simp)) rfl rfl)
  · have h1 : (2 : Int) ≤ (m.st.length : Int) := hlt
    show Effs m (writeM (begM m))
    unfold writeM
    cases hu : (begM m).upd with
    | false => exact fails_effs 81 _
    | true =>
      cases ha : addrB (begM m) with
      | false => exact fails_effs 50 _
      | true =>
        cases hp2 : mayP (begM m).wmax (begM m).buf (addrV (begM m)) with
        | false => exact fails_effs 70 _
        | true =>
          rw [if_pos rfl, if_pos rfl, if_pos rfl]
          exact effs_some hi hp (by simp) (by show ((m.st.drop 2).length : Int) = (m.st.length : Int) - 2 + 0 - 0; rw [List.length_drop]; omega) (fun h => absurd h (by show ¬ (3 : Int) = 1; decide)) (leads_on (.inr (by simp)) rfl rfl)
  · have h1 : (1 : Int) ≤ (m.st.length : Int) := hlt
    exact effs_some hi hp (by simp) (by show ((m.st.drop 1).length : Int) = (m.st.length : Int) - 1 + 0 - 0; rw [List.length_drop]; omega) (fun h => absurd h (by show ¬ (0 : Int) = 1; decide)) (leads_on (.inr (by simp)) rfl rfl)
  · exact .inl rfl
  · exact .inl rfl
theorem step_effs (h : Inv m) (hw : ¬ 0 ≤ m.wait) (h0 : m.how = 0) : Effs m (stepM m) := by
  unfold stepM
  rw [if_neg hw, if_pos h0]
  by_cases hf : m.used < m.fuel
  · rw [if_pos hf]
    by_cases hp : m.place < (m.code.length : Int)
    · rw [if_pos hp]
      have hk : m.place.toNat < m.code.length := by have := h.place; omega
      have hmay := h.may _ hk
      cases hr : roomB (begM m) (insM m) with
      | false => exact fails_effs 82 _
      | true =>
        rw [if_pos rfl]
        have hi : insM m = ci m.code m.place.toNat := rfl
        rcases hci : ci m.code m.place.toNat with ⟨o, n, x⟩
        rw [hci] at hmay hi
        obtain ⟨q, hq⟩ : ∃ q : Nat, o = q := ⟨o.toNat, by have := hmay.1; unfold mayB knownB at this; simp at this; omega⟩
        subst hq
        rw [hi] at hr ⊢
        exact do_effs hi hp (fits_parts hmay.1).1 hr
    · rw [if_neg hp]
      exact fails_effs 50 _
  · rw [if_neg hf]
    exact fails_effs 80 _
theorem give_effs (hw : 0 ≤ m.wait) (x : Nat) : (giveM m x).st.length = m.st.length + 1 := by
  unfold giveM
  rw [if_pos hw]
  rfl
end
end Go.Proofs.YtjicnjncdmknmaaGreatDoor
