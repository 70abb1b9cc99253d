import Derived.Deep.RegionHeld
namespace Go.Proofs.YtaliehikdidiaaaGreatDoor

/-! a region that draws its order, walked in one order: what only reads (in every world that meets S), each as soon as it may come up; a call when nothing else may come up. Guards that are false are no matter. -/
section
variable {P : Program} {ops : Array Oper} {Q : Exit → Act → World → Prop} {md : Region.Mode} {S : World → Prop}
/-- the walk: (i, true): number i, which only reads; (i, false): another one, alone -/
def wpSeq (P : Program) (ops : Array Oper) (Q : Exit → Act → World → Prop) (S : World → Prop) : List (Nat × Bool) → Act → World → Prop
  | [], a, w => Q .normal a w
  | (i, true) :: rest, a, w => ∃ o v, ops[i]? = some o ∧ YieldsIf P ops S o v a ∧ wpSeq P ops Q S rest (a.put o.dst v) w
  | (i, false) :: rest, a, w => wpOp P ops Q i (fun a' w' => S w' ∧ wpSeq P ops Q S rest a' w') a w
/-- whether that order will do -/
def seqB (md : Region.Mode) (ops : Array Oper) : Array Bool → List (Nat × Bool) → Bool
  | listed, [] => (Region.ready md ops listed).isEmpty
  | listed, (i, true) :: rest => (Region.ready md ops listed).contains i && Region.free md ops listed i && seqB md ops (listed.setIfInBounds i true) rest
  | listed, (i, false) :: rest => Region.ready md ops listed == [i] && seqB md ops (listed.setIfInBounds i true) rest
theorem panic_put (hQ : ∀ c t t' d w, Q (.panic c) ⟨t, d⟩ w → Q (.panic c) ⟨t', d⟩ w) {c} {a : Act} {d : Option Tmp} {v : Value} {w : World} (h : Q (.panic c) (a.put d v) w) : Q (.panic c) a w := by
  obtain ⟨t, ds⟩ := a
  cases d with
  | none => exact h
  | some k => exact hQ c _ _ _ _ h
theorem wpAnyH_of_seq (hs : Region.noSelect ops = true) (hQ : ∀ c t t' d w, Q (.panic c) ⟨t, d⟩ w → Q (.panic c) ⟨t', d⟩ w) : ∀ (l : List (Nat × Bool)) (listed : Array Bool) (a : Act) (w : World), seqB md ops listed l = true → S w → wpSeq P ops Q S l a w → wpAnyH P md ops Q S l.length listed a w
  | [], listed, a, w, hb, _, h => ⟨by simpa [seqB] using hb, h⟩
  | (i, true) :: rest, listed, a, w, hb, hS, h => by
    simp only [seqB, Bool.and_eq_true] at hb
    obtain ⟨o, v, ho, hy, hr⟩ := h
    exact wpAnyH_take ho hs hb.1.2 hb.1.1 (fun c a w h => panic_put hQ h) hy hS (wpAnyH_of_seq hs hQ rest _ _ _ hb.2 hS hr)
  | (i, false) :: rest, listed, a, w, hb, _, h => by
    simp only [seqB, Bool.and_eq_true, beq_iff_eq] at hb
    refine wpAnyH_all (rs := [i]) hb.1 (by simp) fun j hj => ?_
    have hj' : j = i := by simpa using hj
    subst hj'
    exact wpOp_mono (fun a' w' h' => ⟨h'.1, wpAnyH_of_seq hs hQ rest _ _ _ hb.2 h'.1 h'.2⟩) h
/-- the beginning -/
theorem wp_region_seq {id : Nat} {a : Act} {w : World} (S : World → Prop) (l : List (Nat × Bool)) (hm : P.follows .mixedOrders = true) (hb : (Region.noSelect ops && l.length == ops.size && seqB .any ops (Array.replicate ops.size false) l) = true) (hQ : ∀ c t t' d w, Q (.panic c) ⟨t, d⟩ w → Q (.panic c) ⟨t', d⟩ w) (hS : S w.drew) (h : wpSeq P ops Q S l a w.drew) : (Code.region id ops true).wp P Q a w := by
  simp only [Bool.and_eq_true, beq_iff_eq] at hb
  refine wp_region_held (S := S) hm ?_
  rw [← hb.1.2]
  have := wpAnyH_of_seq (Q := Q) (S := S) hb.1.1 hQ l _ a w.drew hb.2 hS h
  rw [← hb.1.2] at this
  exact this
theorem wpSeq_nil {a : Act} {w : World} (h : Q .normal a w) : wpSeq P ops Q S [] a w := h
/-- the operation itself, written out -/
def nth : List Oper → Nat → Option Oper
  | [], _ => none
  | o :: _, 0 => some o
  | _ :: l, n + 1 => nth l n
theorem nth_eq : ∀ (l : List Oper) (i : Nat), nth l i = l[i]?
  | [], _ => by simp [nth]
  | _ :: _, 0 => by simp [nth]
  | _ :: l, n + 1 => by simp [nth, nth_eq l n]
theorem op_at {i : Nat} {o : Oper} (h : nth ops.toList i = some o) : ops[i]? = some o := by
  rw [nth_eq] at h
  simpa using h
/-- it only reads -/
theorem wpSeq_take {i : Nat} {rest : List (Nat × Bool)} {o : Oper} {v : Value} {a : Act} {w : World} (ho : nth ops.toList i = some o) (hw : Region.wanted o (yielded ops a.tmps) = true) (hy : ∀ w, S w → (execOp a.eval o).run P w = .ok (.value v) w) (h : wpSeq P ops Q S rest (a.put o.dst v) w) : wpSeq P ops Q S ((i, true) :: rest) a w := ⟨o, v, op_at ho, .inl ⟨hw, hy⟩, h⟩
/-- its guard is false -/
theorem wpSeq_skip {i : Nat} {rest : List (Nat × Bool)} {o : Oper} {a : Act} {w : World} (ho : nth ops.toList i = some o) (hw : Region.wanted o (yielded ops a.tmps) = false) (h : wpSeq P ops Q S rest (a.put o.dst undef) w) : wpSeq P ops Q S ((i, true) :: rest) a w := ⟨o, undef, op_at ho, .inr ⟨hw, rfl⟩, h⟩
theorem wpSeq_skip' {i : Nat} {rest : List (Nat × Bool)} {o : Oper} {a : Act} {w : World} (ho : nth ops.toList i = some o) (hw : Region.wanted o (yielded ops a.tmps) = false) (hS : S w) (h : wpSeq P ops Q S rest (a.put o.dst undef) w) : wpSeq P ops Q S ((i, false) :: rest) a w := by
  refine wpOp_step (op_at ho) (fun K' hK => ?_)
  rw [hw]
  exact hK _ _ ⟨hS, h⟩
/-- a call, an alloc, a store -/
theorem wpSeq_do {i : Nat} {rest : List (Nat × Bool)} {o : Oper} {a : Act} {w : World} (ho : nth ops.toList i = some o) (hw : Region.wanted o (yielded ops a.tmps) = true) (h : ∀ K' : Act → World → Prop, Shut (∀ a w, S w → wpSeq P ops Q S rest a w → K' a w) → Oper.wp P o a w K' Q) : wpSeq P ops Q S ((i, false) :: rest) a w := by
  refine wpOp_step (op_at ho) (fun K' hK => ?_)
  rw [hw]
  exact h K' fun a w hS hr => hK a w ⟨hS, hr⟩
/-! the same where the last of all may undo S (a store into what was read): whoever only reads is waited for by another one -/
/-- somebody has not come up yet -/
def Left (ops : Array Oper) (listed : Array Bool) : Prop := ∃ k, k < ops.size ∧ listed.getD k true = false
def wpAnyE (P : Program) (md : Region.Mode) (ops : Array Oper) (Q : Exit → Act → World → Prop) (S : World → Prop) : Nat → Array Bool → Act → World → Prop
  | 0, listed, a, w => Region.ready md ops listed = [] ∧ Q .normal a w
  | n + 1, listed, a, w => (Region.ready md ops listed = [] → Q .normal a w) ∧ ∀ i ∈ Region.ready md ops listed, wpOp P ops Q i (fun a' w' => (Left ops (listed.setIfInBounds i true) → S w') ∧ wpAnyE P md ops Q S n (listed.setIfInBounds i true) a' w') a w
theorem wpAny_of_E : ∀ (n : Nat) (listed : Array Bool) (a : Act) (w : World), wpAnyE P md ops Q S n listed a w → wpAny P md ops Q n listed a w
  | 0, _, _, _, h => h
  | n + 1, _, _, _, h => ⟨h.1, fun i hi => wpOp_mono (fun a' w' k => wpAny_of_E n _ a' w' k.2) (h.2 i hi)⟩
/-- somebody who has not come up yet waits for number i -/
def Waited (md : Region.Mode) (ops : Array Oper) (listed : Array Bool) (i : Nat) : Prop := ∃ k o e, ops[k]? = some o ∧ k ≠ i ∧ listed.getD k true = false ∧ e ∈ o.after ∧ Region.binds md e = true ∧ e.on = i
theorem set_other {l : Array Bool} {i k : Nat} (h : i ≠ k) : (l.setIfInBounds i true).getD k true = l.getD k true := getD_set_ne true h
theorem wpAnyE_take {i : Nat} {oi : Oper} {v : Value} (hi : ops[i]? = some oi) (hs : Region.noSelect ops = true) (hQ : ∀ c a w, Q (.panic c) (a.put oi.dst v) w → Q (.panic c) a w) : ∀ (n : Nat) (listed : Array Bool) (a : Act) (w : World),
    (∀ j oj, ops[j]? = some oj → j ≠ i → listed.getD j true = false → (∀ e ∈ oj.after, Region.binds md e = true → e.on ≠ i) → oi.apart ops oj = true) → i ∈ Region.ready md ops listed → Waited md ops listed i → YieldsIf P ops S oi v a → S w →
    wpAnyE P md ops Q S n (listed.setIfInBounds i true) (a.put oi.dst v) w → wpAnyE P md ops Q S (n + 1) listed a w := by
  intro n
  induction n with
  | zero =>
    intro listed a w _ hr _ hy hS H
    refine ⟨fun z => absurd hr (by rw [z]; simp), fun j hj => ?_⟩
    by_cases hji : j = i
    · subst hji
      exact hy.wpOp hi hS ⟨fun _ => hS, H⟩
    · exact absurd (ready_mono hj hji) (by rw [H.1]; simp)
  | succ n ih =>
    intro listed a w hf hr hW hy hS H
    refine ⟨fun z => absurd hr (by rw [z]; simp), fun j hj => ?_⟩
    by_cases hji : j = i
    · subst hji
      exact hy.wpOp hi hS ⟨fun _ => hS, H⟩
    have hun := (mem_ready.1 hr).1
    obtain ⟨jun, oj, hoj, hall⟩ := mem_ready.1 hj
    -- whoever waits for i is not ready
    have hno : ∀ e ∈ oj.after, Region.binds md e = true → e.on ≠ i := fun e he hb q => by
      have z := hall e he hb
      rw [q] at z
      by_cases hlt : i < listed.size
      · have z1 : listed.getD i true = listed.getD i false := by simp [hlt]
        rw [z1, z] at hun
        cases hun
      · simp [Array.getElem?_eq_none (Nat.not_lt.1 hlt)] at z
    have h2 := wpOp_putIf hoj (hf j oj hoj hji jun hno) (fun cs b => Region.noSelect_spec hs i oi cs b hi) (fun cs b => Region.noSelect_spec hs j oj cs b hoj) hQ hy (H.2 j (ready_mono hj hji))
    obtain ⟨L, oL, e, hL, hLi, hLu, he, hb, hon⟩ := hW
    have hLj : L ≠ j := fun q => by
      subst q
      rw [hL] at hoj
      cases hoj
      exact hno e he hb hon
    have hleft : Left ops ((listed.setIfInBounds i true).setIfInBounds j true) := ⟨L, (Array.getElem?_eq_some_iff.1 hL).1, by rw [set_other (Ne.symm hLj), set_other (Ne.symm hLi)]; exact hLu⟩
    refine wpOp_mono (fun a' w' k => ?_) h2
    have hS' := k.2.1 hleft
    refine ⟨fun _ => hS', ih (listed.setIfInBounds j true) a' w' ?_ (ready_mono hr (Ne.symm hji)) ⟨L, oL, e, hL, hLi, by rw [set_other (Ne.symm hLj)]; exact hLu, he, hb, hon⟩ k.1 hS' ?_⟩
    · intro x ox hx hxi hxu hxn
      refine hf x ox hx hxi ?_ hxn
      by_cases q : j = x
      · subst q; exact jun
      · rw [set_other q] at hxu; exact hxu
    · rw [Array.setIfInBounds_comm _ _ hji]
      exact k.2.2
def waitedB (md : Region.Mode) (ops : Array Oper) (listed : Array Bool) (i : Nat) : Bool := (List.range ops.size).any fun k => k != i && !listed.getD k true && match ops[k]? with
  | some o => o.after.any fun e => Region.binds md e && e.on == i
  | none => false
theorem waited_of {listed : Array Bool} {i : Nat} (h : waitedB md ops listed i = true) : Waited md ops listed i := by
  unfold waitedB at h
  rw [List.any_eq_true] at h
  obtain ⟨k, _, hk⟩ := h
  simp only [Bool.and_eq_true, bne_iff_ne, ne_eq, Bool.not_eq_true'] at hk
  obtain ⟨⟨h1, h2⟩, h3⟩ := hk
  cases ho : ops[k]? with
  | none => rw [ho] at h3; cases h3
  | some o =>
    rw [ho] at h3
    simp only [Array.any_eq_true'] at h3
    obtain ⟨e, he, hb⟩ := h3
    simp only [Bool.and_eq_true, beq_iff_eq] at hb
    exact ⟨k, o, e, ho, h1, h2, he, hb.1, hb.2⟩
def wpSeqE (P : Program) (ops : Array Oper) (Q : Exit → Act → World → Prop) (S : World → Prop) : List (Nat × Bool) → Act → World → Prop
  | [], a, w => Q .normal a w
  | (i, true) :: rest, a, w => ∃ o v, ops[i]? = some o ∧ YieldsIf P ops S o v a ∧ wpSeqE P ops Q S rest (a.put o.dst v) w
  | (i, false) :: rest, a, w => wpOp P ops Q i (fun a' w' => (rest ≠ [] → S w') ∧ wpSeqE P ops Q S rest a' w') a w
def seqEB (md : Region.Mode) (ops : Array Oper) : Array Bool → List (Nat × Bool) → Bool
  | listed, [] => (Region.ready md ops listed).isEmpty && (List.range ops.size).all (listed.getD · true)
  | listed, (i, true) :: rest => (Region.ready md ops listed).contains i && Region.free md ops listed i && waitedB md ops listed i && seqEB md ops (listed.setIfInBounds i true) rest
  | listed, (i, false) :: rest => Region.ready md ops listed == [i] && seqEB md ops (listed.setIfInBounds i true) rest
theorem wpAnyE_of_seq (hs : Region.noSelect ops = true) (hQ : ∀ c t t' d w, Q (.panic c) ⟨t, d⟩ w → Q (.panic c) ⟨t', d⟩ w) : ∀ (l : List (Nat × Bool)) (listed : Array Bool) (a : Act) (w : World), seqEB md ops listed l = true → S w ∨ l = [] → wpSeqE P ops Q S l a w → wpAnyE P md ops Q S l.length listed a w
  | [], listed, a, w, hb, _, h => by
    simp only [seqEB, Bool.and_eq_true] at hb
    exact ⟨by simpa using hb.1, h⟩
  | (i, true) :: rest, listed, a, w, hb, hS, h => by
    simp only [seqEB, Bool.and_eq_true] at hb
    obtain ⟨o, v, ho, hy, hr⟩ := h
    have hS' : S w := hS.resolve_right (by simp)
    exact wpAnyE_take ho hs (fun c a w h => panic_put hQ h) _ _ _ _ (Region.free_spec ho hb.1.1.2) (by simpa using hb.1.1.1) (waited_of hb.1.2) hy hS' (wpAnyE_of_seq hs hQ rest _ _ _ hb.2 (.inl hS') hr)
  | (i, false) :: rest, listed, a, w, hb, _, h => by
    simp only [seqEB, Bool.and_eq_true, beq_iff_eq] at hb
    refine ⟨fun z => absurd (hb.1.symm.trans z) (by simp), fun j hj => ?_⟩
    rw [hb.1] at hj
    have hj' : j = i := by simpa using hj
    subst hj'
    refine wpOp_mono (fun a' w' k => ⟨fun hl => ?_, wpAnyE_of_seq hs hQ rest _ _ _ hb.2 ?_ k.2⟩) h
    · cases rest with
      | nil =>
        obtain ⟨x, hx, hu⟩ := hl
        have := hb.2
        simp only [seqEB, Bool.and_eq_true, List.all_eq_true, List.mem_range] at this
        rw [this.2 x hx] at hu
        cases hu
      | cons y l => exact k.1 (by simp)
    · cases rest with
      | nil => exact .inr rfl
      | cons y l => exact .inl (k.1 (by simp))
theorem wp_region_seqE {id : Nat} {a : Act} {w : World} (S : World → Prop) (l : List (Nat × Bool)) (hm : P.follows .mixedOrders = true) (hb : (Region.noSelect ops && l.length == ops.size && seqEB .any ops (Array.replicate ops.size false) l) = true) (hQ : ∀ c t t' d w, Q (.panic c) ⟨t, d⟩ w → Q (.panic c) ⟨t', d⟩ w) (hS : S w.drew) (h : wpSeqE P ops Q S l a w.drew) : (Code.region id ops true).wp P Q a w := by
  simp only [Bool.and_eq_true, beq_iff_eq] at hb
  refine wp_region_any hm (wpAny_of_E (S := S) _ _ _ _ ?_)
  rw [← hb.1.2]
  have := wpAnyE_of_seq (Q := Q) (S := S) hb.1.1 hQ l _ a w.drew hb.2 (.inl hS) h
  rw [← hb.1.2] at this
  exact this
theorem wpSeqE_nil {a : Act} {w : World} (h : Q .normal a w) : wpSeqE P ops Q S [] a w := h
theorem wpSeqE_take {i : Nat} {rest : List (Nat × Bool)} {o : Oper} {v : Value} {a : Act} {w : World} (ho : nth ops.toList i = some o) (hw : Region.wanted o (yielded ops a.tmps) = true) (hy : ∀ w, S w → (execOp a.eval o).run P w = .ok (.value v) w) (h : wpSeqE P ops Q S rest (a.put o.dst v) w) : wpSeqE P ops Q S ((i, true) :: rest) a w := ⟨o, v, op_at ho, .inl ⟨hw, hy⟩, h⟩
theorem wpSeqE_do {i : Nat} {rest : List (Nat × Bool)} {o : Oper} {a : Act} {w : World} (ho : nth ops.toList i = some o) (hw : Region.wanted o (yielded ops a.tmps) = true) (h : ∀ K' : Act → World → Prop, Shut (∀ a w, (rest ≠ [] → S w) → wpSeqE P ops Q S rest a w → K' a w) → Oper.wp P o a w K' Q) : wpSeqE P ops Q S ((i, false) :: rest) a w := by
  refine wpOp_step (op_at ho) (fun K' hK => ?_)
  rw [hw]
  exact h K' fun a w hS hr => hK a w ⟨hS, hr⟩
end
end Go.Proofs.YtaliehikdidiaaaGreatDoor
