import Derived.Test.YtlkldgopliablaaGreatDoorSq
namespace Go.Proofs.YtlkldgopliablaaGreatDoor

/-! a drawn region in which, behind what only reads, two operations may come up, whichever first -/
section
variable {P : Program} {ops : Array Oper} {Q : Exit → Act → World → Prop} {md : Region.Mode} {S : World → Prop}
def wpTwo (P : Program) (ops : Array Oper) (Q : Exit → Act → World → Prop) (S : World → Prop) (i : Nat) (ri : List (Nat × Bool)) (j : Nat) (rj : List (Nat × Bool)) : List Nat → Act → World → Prop
  | [], a, w => wpOp P ops Q i (fun a' w' => S w' ∧ wpSeq P ops Q S ri a' w') a w ∧ wpOp P ops Q j (fun a' w' => S w' ∧ wpSeq P ops Q S rj a' w') a w
  | x :: rest, a, w => ∃ o v, ops[x]? = some o ∧ YieldsIf P ops S o v a ∧ wpTwo P ops Q S i ri j rj rest (a.put o.dst v) w
def twoB (md : Region.Mode) (ops : Array Oper) (i : Nat) (ri : List (Nat × Bool)) (j : Nat) (rj : List (Nat × Bool)) : Array Bool → List Nat → Bool
  | listed, [] => Region.ready md ops listed == [i, j] && seqB md ops (listed.setIfInBounds i true) ri && seqB md ops (listed.setIfInBounds j true) rj
  | listed, x :: rest => (Region.ready md ops listed).contains x && Region.free md ops listed x && twoB md ops i ri j rj (listed.setIfInBounds x true) rest
theorem wpAnyH_of_two (hs : Region.noSelect ops = true) (hQ : ∀ c t t' d w, Q (.panic c) ⟨t, d⟩ w → Q (.panic c) ⟨t', d⟩ w) {i j : Nat} {ri rj : List (Nat × Bool)} (hlen : rj.length = ri.length) : ∀ (l : List Nat) (listed : Array Bool) (a : Act) (w : World), twoB md ops i ri j rj listed l = true → S w → wpTwo P ops Q S i ri j rj l a w → wpAnyH P md ops Q S (ri.length + 1 + l.length) listed a w
  | [], listed, a, w, hb, _, h => by
    simp only [twoB, Bool.and_eq_true, beq_iff_eq] at hb
    refine wpAnyH_all (rs := [i, j]) hb.1.1 (by simp) fun x hx => ?_
    by_cases e : x = i
    · subst e
      exact wpOp_mono (fun a' w' h' => ⟨h'.1, wpAnyH_of_seq hs hQ ri _ _ _ hb.1.2 h'.1 h'.2⟩) h.1
    · have e2 : x = j := by simpa [e] using hx
      subst e2
      refine wpOp_mono (fun a' w' h' => ⟨h'.1, ?_⟩) h.2
      have := wpAnyH_of_seq (Q := Q) hs hQ rj _ _ _ hb.2 h'.1 h'.2
      rw [hlen] at this
      exact this
  | x :: rest, listed, a, w, hb, hS, h => by
    simp only [twoB, Bool.and_eq_true] at hb
    obtain ⟨o, v, ho, hy, hr⟩ := h
    exact wpAnyH_take ho hs hb.1.2 hb.1.1 (fun c a w h => panic_put hQ h) hy hS (wpAnyH_of_two hs hQ hlen rest _ _ _ hb.2 hS hr)
theorem wp_region_two {id : Nat} {a : Act} {w : World} (S : World → Prop) (l : List Nat) (i : Nat) (ri : List (Nat × Bool)) (j : Nat) (rj : List (Nat × Bool)) (hm : P.follows .mixedOrders = true) (hb : (Region.noSelect ops && rj.length == ri.length && ri.length + 1 + l.length == ops.size && twoB .any ops i ri j rj (Array.replicate ops.size false) l) = true) (hQ : ∀ c t t' d w, Q (.panic c) ⟨t, d⟩ w → Q (.panic c) ⟨t', d⟩ w) (hS : S w.drew) (h : wpTwo P ops Q S i ri j rj l a w.drew) : (Code.region id ops true).wp P Q a w := by
  simp only [Bool.and_eq_true, beq_iff_eq] at hb
  refine wp_region_held (S := S) hm ?_
  rw [← hb.1.2]
  have := wpAnyH_of_two (Q := Q) (S := S) hb.1.1.1 hQ hb.1.1.2 l _ a w.drew hb.2 hS h
  rw [← hb.1.2] at this
  exact this
theorem wpTwo_take {x i j : Nat} {ri rj : List (Nat × Bool)} {rest : List Nat} {o : Oper} {v : Value} {a : Act} {w : World} (ho : nth ops.toList x = some o) (hw : Region.wanted o (yielded ops a.tmps) = true) (hy : ∀ w, S w → (execOp a.eval o).run P w = .ok (.value v) w) (h : wpTwo P ops Q S i ri j rj rest (a.put o.dst v) w) : wpTwo P ops Q S i ri j rj (x :: rest) a w := ⟨o, v, op_at ho, .inl ⟨hw, hy⟩, h⟩
theorem wpTwo_nil {i j : Nat} {ri rj : List (Nat × Bool)} {a : Act} {w : World} (h1 : wpSeq P ops Q S ((i, false) :: ri) a w) (h2 : wpSeq P ops Q S ((j, false) :: rj) a w) : wpTwo P ops Q S i ri j rj [] a w := ⟨h1, h2⟩
end
end Go.Proofs.YtlkldgopliablaaGreatDoor
