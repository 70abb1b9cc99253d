import Derived.Deep.RegionHeld
namespace Go.Proofs.YtjicnjncdmknmaaGreatDoor

/-! a region that draws its order, walked in one order: what only reads (in every world that meets S), each as soon as it may come up; a call when nothing else may come up. Guards that are false are no matter. -/
section
variable {P : Program} {ops : Array Oper} {Q : Exit → Act → World → Prop} {md : Region.Mode} {S : World → Prop}
/-- the walk: (i, true): number i, which only reads; (i, false): another one, alone -/
def wpSeq (P : Program) (ops : Array Oper) (Q : Exit → Act → World → Prop) (S : World → Prop) : List (Nat × Bool) → Act → World → Prop
  | [], a, w => Q .normal a w
  | (i, true) :: rest, a, w => ∃ o v, ops[i]? = some o ∧ YieldsIf P ops S o v a ∧ wpSeq P ops Q S rest (a.put o.dst v) w
  | (i, false) :: rest, a, w => wpOp P ops Q i (fun a' w' => S w' ∧ wpSeq P ops Q S rest a' w') a w
/-- whether that order will do -/
def seqB (md : Region.Mode) (ops : Array Oper) : Array Bool → List (Nat × Bool) → Bool
  | listed, [] => (Region.ready md ops listed).isEmpty
  | listed, (i, true) :: rest => (Region.ready md ops listed).contains i && Region.free md ops listed i && seqB md ops (listed.setIfInBounds i true) rest
  | listed, (i, false) :: rest => Region.ready md ops listed == [i] && seqB md ops (listed.setIfInBounds i true) rest
theorem panic_put (hQ : ∀ c t t' d w, Q (.panic c) ⟨t, d⟩ w → Q (.panic c) ⟨t', d⟩ w) {c} {a : Act} {d : Option Tmp} {v : Value} {w : World} (h : Q (.panic c) (a.put d v) w) : Q (.panic c) a w := by
  obtain ⟨t, ds⟩ := a
  cases d with
  | none => exact h
  | some k => exact hQ c _ _ _ _ h
theorem wpAnyH_of_seq (hs : Region.noSelect ops = true) (hQ : ∀ c t t' d w, Q (.panic c) ⟨t, d⟩ w → Q (.panic c) ⟨t', d⟩ w) : ∀ (l : List (Nat × Bool)) (listed : Array Bool) (a : Act) (w : World), seqB md ops listed l = true → S w → wpSeq P ops Q S l a w → wpAnyH P md ops Q S l.length listed a w
  | [], listed, a, w, hb, _, h => ⟨by simpa [seqB] using hb, h⟩
  | (i, true) :: rest, listed, a, w, hb, hS, h => by
    simp only [seqB, Bool.and_eq_true] at hb
    obtain ⟨o, v, ho, hy, hr⟩ := h
    exact wpAnyH_take ho hs hb.1.2 hb.1.1 (fun c a w h => panic_put hQ h) hy hS (wpAnyH_of_seq hs hQ rest _ _ _ hb.2 hS hr)
  | (i, false) :: rest, listed, a, w, hb, _, h => by
    simp only [seqB, Bool.and_eq_true, beq_iff_eq] at hb
    refine wpAnyH_all (rs := [i]) hb.1 (by simp) fun j hj => ?_
    have hj' : j = i := by simpa using hj
    subst hj'
    exact wpOp_mono (fun a' w' h' => ⟨h'.1, wpAnyH_of_seq hs hQ rest _ _ _ hb.2 h'.1 h'.2⟩) h
/-- the beginning -/
theorem wp_region_seq {id : Nat} {a : Act} {w : World} (S : World → Prop) (l : List (Nat × Bool)) (hm : P.follows .mixedOrders = true) (hb : (Region.noSelect ops && l.length == ops.size && seqB .any ops (Array.replicate ops.size false) l) = true) (hQ : ∀ c t t' d w, Q (.panic c) ⟨t, d⟩ w → Q (.panic c) ⟨t', d⟩ w) (hS : S w.drew) (h : wpSeq P ops Q S l a w.drew) : (Code.region id ops true).wp P Q a w := by
  simp only [Bool.and_eq_true, beq_iff_eq] at hb
  refine wp_region_held (S := S) hm ?_
  rw [← hb.1.2]
  have := wpAnyH_of_seq (Q := Q) (S := S) hb.1.1 hQ l _ a w.drew hb.2 hS h
  rw [← hb.1.2] at this
  exact this
theorem wpSeq_nil {a : Act} {w : World} (h : Q .normal a w) : wpSeq P ops Q S [] a w := h
/-- the operation itself, written out -/
def nth : List Oper → Nat → Option Oper
  | [], _ => none
  | o :: _, 0 => some o
  | _ :: l, n + 1 => nth l n
theorem nth_eq : ∀ (l : List Oper) (i : Nat), nth l i = l[i]?
  | [], _ => by simp [nth]
  | _ :: _, 0 => by simp [nth]
  | _ :: l, n + 1 => by simp [nth, nth_eq l n]
theorem op_at {i : Nat} {o : Oper} (h : nth ops.toList i = some o) : ops[i]? = some o := by
  rw [nth_eq] at h
  simpa using h
/-- it only reads -/
theorem wpSeq_take {i : Nat} {rest : List (Nat × Bool)} {o : Oper} {v : Value} {a : Act} {w : World} (ho : nth ops.toList i = some o) (hw : Region.wanted o (yielded ops a.tmps) = true) (hy : ∀ w, S w → (execOp a.eval o).run P w = .ok (.value v) w) (h : wpSeq P ops Q S rest (a.put o.dst v) w) : wpSeq P ops Q S ((i, true) :: rest) a w := ⟨o, v, op_at ho, .inl ⟨hw, hy⟩, h⟩
/-- its guard is false -/
theorem wpSeq_skip {i : Nat} {rest : List (Nat × Bool)} {o : Oper} {a : Act} {w : World} (ho : nth ops.toList i = some o) (hw : Region.wanted o (yielded ops a.tmps) = false) (h : wpSeq P ops Q S rest (a.put o.dst undef) w) : wpSeq P ops Q S ((i, true) :: rest) a w := ⟨o, undef, op_at ho, .inr ⟨hw, rfl⟩, h⟩
theorem wpSeq_skip' {i : Nat} {rest : List (Nat × Bool)} {o : Oper} {a : Act} {w : World} (ho : nth ops.toList i = some o) (hw : Region.wanted o (yielded ops a.tmps) = false) (hS : S w) (h : wpSeq P ops Q S rest (a.put o.dst undef) w) : wpSeq P ops Q S ((i, false) :: rest) a w := by
  refine wpOp_step (op_at ho) (fun K' hK => ?_)
  rw [hw]
  exact hK _ _ ⟨hS, h⟩
/-- a call, an alloc, a store -/
theorem wpSeq_do {i : Nat} {rest : List (Nat × Bool)} {o : Oper} {a : Act} {w : World} (ho : nth ops.toList i = some o) (hw : Region.wanted o (yielded ops a.tmps) = true) (h : ∀ K' : Act → World → Prop, Shut (∀ a w, S w → wpSeq P ops Q S rest a w → K' a w) → Oper.wp P o a w K' Q) : wpSeq P ops Q S ((i, false) :: rest) a w := by
  refine wpOp_step (op_at ho) (fun K' hK => ?_)
  rw [hw]
  exact h K' fun a w hS hr => hK a w ⟨hS, hr⟩
end
end Go.Proofs.YtjicnjncdmknmaaGreatDoor
