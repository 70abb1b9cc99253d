import Derived.Test.YtlkldgopliablaaGreatDoorSq
namespace Go.Proofs.YtlkldgopliablaaGreatDoor

/-! a drawn region in which one operation (an alloc) may come up ahead of, between or behind the calls, whose order is set -/
section
variable {P : Program} {ops : Array Oper} {Q : Exit → Act → World → Prop} {md : Region.Mode} {S : World → Prop}
def wpFl (P : Program) (ops : Array Oper) (Q : Exit → Act → World → Prop) (S : World → Prop) (j : Nat) (r : List (Nat × Bool)) : List (Nat × Bool) → Act → World → Prop
  | [], a, w => wpOp P ops Q j (fun a' w' => S w' ∧ wpSeq P ops Q S r a' w') a w
  | (x, true) :: rest, a, w => ∃ o v, ops[x]? = some o ∧ YieldsIf P ops S o v a ∧ wpFl P ops Q S j r rest (a.put o.dst v) w
  | (i, false) :: rest, a, w => wpOp P ops Q i (fun a' w' => S w' ∧ wpFl P ops Q S j r rest a' w') a w ∧ wpOp P ops Q j (fun a' w' => S w' ∧ wpSeq P ops Q S ((i, false) :: (rest ++ r)) a' w') a w
def flB (md : Region.Mode) (ops : Array Oper) (j : Nat) (r : List (Nat × Bool)) : Array Bool → List (Nat × Bool) → Bool
  | listed, [] => Region.ready md ops listed == [j] && seqB md ops (listed.setIfInBounds j true) r
  | listed, (x, true) :: rest => (Region.ready md ops listed).contains x && Region.free md ops listed x && flB md ops j r (listed.setIfInBounds x true) rest
  | listed, (i, false) :: rest => Region.ready md ops listed == [i, j] && flB md ops j r (listed.setIfInBounds i true) rest && seqB md ops (listed.setIfInBounds j true) ((i, false) :: (rest ++ r))
theorem wpAnyH_of_fl (hs : Region.noSelect ops = true) (hQ : ∀ c t t' d w, Q (.panic c) ⟨t, d⟩ w → Q (.panic c) ⟨t', d⟩ w) {j : Nat} {r : List (Nat × Bool)} : ∀ (l : List (Nat × Bool)) (listed : Array Bool) (a : Act) (w : World), flB md ops j r listed l = true → S w → wpFl P ops Q S j r l a w → wpAnyH P md ops Q S (r.length + l.length + 1) listed a w
  | [], listed, a, w, hb, _, h => by
    simp only [flB, Bool.and_eq_true, beq_iff_eq] at hb
    refine wpAnyH_all (rs := [j]) hb.1 (by simp) fun x hx => ?_
    have e : x = j := by simpa using hx
    subst e
    exact wpOp_mono (fun a' w' h' => ⟨h'.1, wpAnyH_of_seq hs hQ r _ _ _ hb.2 h'.1 h'.2⟩) h
  | (x, true) :: rest, listed, a, w, hb, hS, h => by
    simp only [flB, Bool.and_eq_true] at hb
    obtain ⟨o, v, ho, hy, hr⟩ := h
    exact wpAnyH_take ho hs hb.1.2 hb.1.1 (fun c a w h => panic_put hQ h) hy hS (wpAnyH_of_fl hs hQ rest _ _ _ hb.2 hS hr)
  | (i, false) :: rest, listed, a, w, hb, hS, h => by
    simp only [flB, Bool.and_eq_true, beq_iff_eq] at hb
    refine wpAnyH_all (rs := [i, j]) hb.1.1 (by simp) fun x hx => ?_
    by_cases e : x = i
    · subst e
      exact wpOp_mono (fun a' w' h' => ⟨h'.1, wpAnyH_of_fl hs hQ rest _ _ _ hb.1.2 h'.1 h'.2⟩) h.1
    · have e2 : x = j := by simpa [e] using hx
      subst e2
      refine wpOp_mono (fun a' w' h' => ⟨h'.1, ?_⟩) h.2
      have := wpAnyH_of_seq (Q := Q) hs hQ ((i, false) :: (rest ++ r)) _ _ _ hb.2 h'.1 h'.2
      have e3 : ((i, false) :: (rest ++ r)).length = r.length + ((i, false) :: rest).length := by simp; omega
      rw [e3] at this
      exact this
theorem wp_region_fl {id : Nat} {a : Act} {w : World} (S : World → Prop) (l : List (Nat × Bool)) (j : Nat) (r : List (Nat × Bool)) (hm : P.follows .mixedOrders = true) (hb : (Region.noSelect ops && r.length + l.length + 1 == ops.size && flB .any ops j r (Array.replicate ops.size false) l) = true) (hQ : ∀ c t t' d w, Q (.panic c) ⟨t, d⟩ w → Q (.panic c) ⟨t', d⟩ w) (hS : S w.drew) (h : wpFl P ops Q S j r l a w.drew) : (Code.region id ops true).wp P Q a w := by
  simp only [Bool.and_eq_true, beq_iff_eq] at hb
  refine wp_region_held (S := S) hm ?_
  rw [← hb.1.2]
  have := wpAnyH_of_fl (Q := Q) (S := S) hb.1.1 hQ l _ a w.drew hb.2 hS h
  rw [← hb.1.2] at this
  exact this
theorem wpFl_take {x j : Nat} {r rest : List (Nat × Bool)} {o : Oper} {v : Value} {a : Act} {w : World} (ho : nth ops.toList x = some o) (hw : Region.wanted o (yielded ops a.tmps) = true) (hy : ∀ w, S w → (execOp a.eval o).run P w = .ok (.value v) w) (h : wpFl P ops Q S j r rest (a.put o.dst v) w) : wpFl P ops Q S j r ((x, true) :: rest) a w := ⟨o, v, op_at ho, .inl ⟨hw, hy⟩, h⟩
theorem wpFl_do {i j : Nat} {r rest : List (Nat × Bool)} {o : Oper} {a : Act} {w : World} (ho : nth ops.toList i = some o) (hw : Region.wanted o (yielded ops a.tmps) = true) (h : ∀ K' : Act → World → Prop, Shut (∀ a w, S w → wpFl P ops Q S j r rest a w → K' a w) → Oper.wp P o a w K' Q) (h2 : wpSeq P ops Q S ((j, false) :: (i, false) :: (rest ++ r)) a w) : wpFl P ops Q S j r ((i, false) :: rest) a w := by
  refine ⟨wpOp_step (op_at ho) (fun K' hK => ?_), h2⟩
  rw [hw]
  exact h K' fun a w hS hr => hK a w ⟨hS, hr⟩
theorem wpFl_nil {j : Nat} {r : List (Nat × Bool)} {a : Act} {w : World} (h : wpSeq P ops Q S ((j, false) :: r) a w) : wpFl P ops Q S j r [] a w := h
end
end Go.Proofs.YtlkldgopliablaaGreatDoor
