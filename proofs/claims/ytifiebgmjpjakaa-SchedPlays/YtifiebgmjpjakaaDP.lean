import Derived.Test.YtifiebgmjpjakaaDC
import Derived.Test.YtifiebgmjpjakaaDA
namespace Go.Proofs.Ytifiebgmjpjakaa
open Go.ChangeShapes Go.WideShapes Go.ChangeAt Go.RowKit

/-- both stand alike -/
structure Like (m : Rd) (r : Rf) : Prop where
  n : r.n = m.n
  g : ∀ k, k < m.n → m.g k = !r.f k
  s : ∀ k, k < m.n → m.s k = (m.g k && wasB r (k : Int))
  o : r.o = m.o
  nd : r.l.Nodup
  rg : ∀ x, x ∈ r.l → 0 ≤ x ∧ x < (m.n : Int)
theorem few : ∀ (n : Nat) (l : List Int), l.Nodup → (∀ x, x ∈ l → 0 ≤ x ∧ x < (n : Int)) → l.length ≤ n
  | 0, l, _, h => by
    cases l with
    | nil => simp
    | cons x l => have := h x (by simp); omega
  | n + 1, l, hd, h => by
    by_cases hn : (n : Int) ∈ l
    · have q := few n (l.erase (n : Int)) (hd.erase _) (fun x hx => by
        have h1 := (List.Nodup.mem_erase_iff hd).1 hx
        have h2 := h x h1.2
        have h3 := h1.1
        omega)
      rw [List.length_erase_of_mem hn] at q
      omega
    · have q := few n l hd (fun x hx => by
        have h2 := h x hx
        have h3 : x ≠ (n : Int) := fun e => hn (e ▸ hx)
        omega)
      omega
theorem pickU_cong {P Q : Nat → Bool} : ∀ (i : Nat), (∀ k, k < i → P k = Q k) → pickU P i = pickU Q i
  | 0, _ => rfl
  | i + 1, h => by rw [pickU_succ, pickU_succ, h i (by omega), pickU_cong i (fun k hk => h k (by omega))]
theorem pickU_none {P : Nat → Bool} : ∀ (i : Nat), (pickU P i).length = 0 ↔ ∀ k, k < i → P k = false
  | 0 => by simp [pickU]
  | i + 1 => by
    rw [pickU_succ]
    cases e : P i
    · rw [if_neg (by simp), pickU_none i]
      exact ⟨fun h k hk => by
        by_cases q : k = i
        · rw [q]; exact e
        · exact h k (by omega), fun h k hk => h k (by omega)⟩
    · rw [if_pos rfl]
      constructor
      · intro h
        simp at h
      · intro h
        have := h i (by omega)
        rw [e] at this
        cases this
theorem like_due {m : Rd} {r : Rf} (h : Like m r) (k : Nat) (hk : k < m.n) : dueB m k = rdueB r k := by
  unfold dueB rdueB
  rw [h.s k hk, h.g k hk]
  cases r.f k <;> simp
theorem due_like {m : Rd} {r : Rf} (h : Like m r) : dueL m = pickU (rdueB r) r.n := by
  rw [h.n]
  exact pickU_cong m.n (like_due h)
theorem someU_iff (r : Rf) (i : Nat) : someU r i = true ↔ ∃ k, k < i ∧ r.f k = false := by
  unfold someU
  simp [List.any_eq_true]
theorem over_like {m : Rd} {r : Rf} (p : Pre m) (h : Like m r) : overB m = endB r := by
  rw [Bool.eq_iff_iff, overB_iff p]
  unfold endB
  rw [Bool.and_eq_true, someU_iff, decide_eq_true_iff, pickU_none, h.n]
  constructor
  · rintro ⟨⟨k, hk⟩, h2⟩
    have hl := p.lt hk
    refine ⟨⟨k, hl, ?_⟩, fun j hj => ?_⟩
    · rw [h.g k hl] at hk
      simpa using hk
    · rw [← like_due h j hj]
      unfold dueB
      cases e : m.g j
      · rfl
      · rw [h2 j e]
        rfl
  · rintro ⟨⟨k, hk, hf⟩, h2⟩
    refine ⟨⟨k, by rw [h.g k hk, hf]; rfl⟩, fun j hj => ?_⟩
    have q := h2 j (p.lt hj)
    rw [← like_due h j (p.lt hj)] at q
    unfold dueB at q
    rw [hj] at q
    simpa using q
theorem look_like {m : Rd} {r : Rf} (p : Pre m) (h : Like m r) : Like (settleM m) (lookR r) := by
  unfold settleM lookR
  rw [over_like p h]
  cases endB r
  · exact h
  · exact ⟨h.n, h.g, fun k hk => by simp [noneF, wasB], by simp [h.o], List.nodup_nil, fun x hx => by simp at hx⟩
theorem settle_same {m : Rd} (h : Inv m) : settleM m = m := by
  unfold settleM
  cases e : overB m
  · rfl
  · obtain ⟨h1, h2⟩ := (overB_iff h.pre).1 e
    obtain ⟨k, hg, hs⟩ := h.due h1
    rw [h2 k hg] at hs
    cases hs
theorem step_like {m : Rd} {r : Rf} (i : Inv m) (h : Like m r) (k : Nat) (hk : k < m.n) : Like (stepN m k) (rstepN r k) := by
  unfold stepN rstepN
  have hg := h.g k hk
  cases hf : r.f k
  · rw [hf] at hg
    have hg' : m.g k = true := hg
    rw [if_pos hg']
    have hs := h.s k hk
    rw [hg'] at hs
    cases hw : wasB r (k : Int)
    · rw [if_neg (by simp)]
      refine look_like (pre_step i hg') ⟨h.n, h.g, fun j hj => ?_, h.o, ?_, fun x hx => ?_⟩
      · show putF m.s k true j = (m.g j && (r.l ++ [(k : Int)]).contains (j : Int))
        by_cases e : j = k
        · subst e
          rw [putF_same, hg']
          simp
        · rw [putF_ne m.s true e, h.s j hj]
          have e' : ¬ (j : Int) = (k : Int) := by omega
          unfold wasB
          simp [e']
      · rw [List.nodup_append]
        refine ⟨h.nd, by simp, fun x hx y hy e => ?_⟩
        simp at hy
        have : wasB r (k : Int) = true := by
          unfold wasB
          rw [List.contains_iff_mem, ← hy, ← e]
          exact hx
        rw [hw] at this
        cases this
      · rw [List.mem_append] at hx
        rcases hx with hx | hx
        · exact h.rg x hx
        · simp at hx
          show 0 ≤ x ∧ x < (m.n : Int)
          omega
    · rw [if_pos (by simp)]
      rw [hw] at hs
      have e : putF m.s k true = m.s := by
        funext j
        by_cases q : j = k
        · rw [q, putF_same]
          simpa using hs.symm
        · exact putF_ne m.s true q
      rw [e]
      show Like (settleM m) r
      rw [settle_same i]
      exact h
  · rw [hf] at hg
    rw [hg, if_neg (by simp), if_pos (by simp)]
    exact h
theorem fin_like {m : Rd} {r : Rf} (i : Inv m) (h : Like m r) (k : Nat) (hk : k < m.n) : Like (finN m k) (rfinN r k) := by
  unfold finN rfinN
  have hg := h.g k hk
  cases hf : r.f k
  · rw [hf] at hg
    rw [hg, if_pos (by simp), if_neg (by simp)]
    refine look_like (pre_fin i k) ⟨h.n, fun j hj => ?_, fun j hj => ?_, h.o, h.nd, h.rg⟩
    · show putF m.g k false j = !putF r.f k true j
      by_cases e : j = k
      · rw [e, putF_same, putF_same]
        rfl
      · rw [putF_ne m.g false e, putF_ne r.f true e]
        exact h.g j hj
    · show putF m.s k false j = (putF m.g k false j && wasB r (j : Int))
      by_cases e : j = k
      · rw [e, putF_same, putF_same]
        rfl
      · rw [putF_ne m.g false e, putF_ne m.s false e]
        exact h.s j hj
  · rw [hf] at hg
    rw [hg, if_neg (by simp), if_pos rfl]
    exact h
theorem has_like {m : Rd} {r : Rf} (h : Like m r) (t : Int) : hasT m t = rhas r t := by unfold hasT rhas; rw [h.n]
theorem err_like {m : Rd} {r : Rf} (h : Like m r) (t : Int) : rerr r t = errT m t := by unfold rerr errT; rw [has_like h]
theorem stepM_like {m : Rd} {r : Rf} (i : Inv m) (h : Like m r) (t : Int) : Like (stepM m t) (rstepM r t) := by
  unfold stepM rstepM
  rw [← has_like h]
  cases e : hasT m t
  · exact h
  · obtain ⟨k, rfl, hk⟩ := hasT_nat e
    exact step_like i h k hk
theorem finM_like {m : Rd} {r : Rf} (i : Inv m) (h : Like m r) (t : Int) : Like (finM m t) (rfinM r t) := by
  unfold finM rfinM
  rw [← has_like h]
  cases e : hasT m t
  · exact h
  · obtain ⟨k, rfl, hk⟩ := hasT_nat e
    exact fin_like i h k hk
theorem new_like (n : Nat) : Like (newR n) (newF n) :=
  ⟨rfl, fun k hk => by
    have : k < n := hk
    simp [newR, newF, noneF, this], fun k hk => by simp [newR, newF, noneF, wasB], rfl, List.nodup_nil, fun x hx => by simp [newF] at hx⟩
/-- both, apart from one another and from all that was there -/
structure Play (W w : World) (bm br : Nat) (F : List Nat) (m : Rd) (r : Rf) (i : Nat) : Prop where
  mm : RdAt w bm m
  rr : Ref w br F r
  below : Below W.heap.size W w
  am : W.heap.size ≤ bm
  ar : Abv W.heap.size F
  ap : bm ∉ F
  inv : Inv m
  like : Like m r
  o : m.o ≤ i
section
variable {W w w' : World} {bm br i : Nat} {F : List Nat} {m : Rd} {r : Rf}
theorem Play.onM {m' : Rd} (h : Play W w bm br F m r i) (hm : RdAt w' bm m') (ht : Turn [bm] [bm] w w') : RdAt w' bm m' ∧ Ref w' br F r ∧ Below W.heap.size W w' ∧ bm ∉ F :=
  ⟨hm, h.rr.turn ht (fun k hk q => h.ap (by simp at q; rw [← q]; exact hk)), h.below.trans (ht.below (fun k hk => by simp at hk; have := h.am; omega) h.below.size), h.ap⟩
theorem Play.on (h : Play W w bm br F m r i) (hb : Below w.heap.size w w') : Play W w' bm br F m r i :=
  ⟨h.mm.on hb, h.rr.on hb, h.below.trans (hb.mono h.below.size), h.am, h.ar, h.ap, h.inv, h.like, h.o⟩
theorem Play.alloc (h : Play W w bm br F m r i) (x : Obj) : Play W (w.alloc x) bm br F m r i := h.on ((Below.refl _ _).alloc (Nat.le_refl _) x)
theorem Play.le (h : Play W w bm br F m r i) {j : Nat} (hj : i ≤ j) : Play W w bm br F m r j := ⟨h.mm, h.rr, h.below, h.am, h.ar, h.ap, h.inv, h.like, Nat.le_trans h.o hj⟩
theorem Play.small (h : Play W w bm br F m r i) : r.n ≤ 8 ∧ r.l.length ≤ 8 := by
  refine ⟨by rw [h.like.n]; exact h.inv.hi, ?_⟩
  have := few m.n r.l h.like.nd h.like.rg
  have := h.inv.hi
  omega
/-- behind both calls -/
theorem Play.both {w1 w2 : World} {F2 : List Nat} {m' : Rd} {r' : Rf} (h : Play W w bm br F m r i) (hm : RdAt w1 bm m') (ht : Turn [bm] [bm] w w1) (hr : Ref w2 br F2 r') (hu : Turn F F2 w1 w2) (hi : Inv m') (hl : Like m' r') (ho : m'.o ≤ i + 1) : Play W w2 bm br F2 m' r' (i + 1) := by
  obtain ⟨a1, a2, a3, a4⟩ := h.onM hm ht
  exact ⟨a1.turn hu a4, hr, a3.trans (hu.below h.ar a3.size), h.am, h.ar.turn a3.size hu, fun q => (hu.own bm q).elim a4 (fun z => absurd a1.lt (Nat.not_lt.2 z)), hi, hl, ho⟩
/-- a clone in its place, the old one changed and left -/
theorem Play.clone {w1 : World} {nb : Nat} (h : Play W w bm br F m r i) (hm : RdAt w1 nb m) (ha : w.heap.size ≤ nb) (hb : Below w.heap.size w w1) (ht : Turn [bm] [bm] w1 w') : Play W w' nb br F m r i :=
  ⟨hm.turn ht (by simp; have := h.mm.lt; omega), (h.rr.on hb).turn ht (fun k hk q => h.ap (by simp at q; rw [← q]; exact hk)), (h.below.trans (hb.mono h.below.size)).trans (ht.below (fun k hk => by simp at hk; have := h.am; omega) (Nat.le_trans h.below.size hb.size)), by have := h.below.size; omega, h.ar, fun q => by have := h.rr.blw nb q; omega, h.inv, h.like, h.o⟩
/-- a clone changed and left -/
theorem Play.leave {w1 : World} {nb : Nat} (h : Play W w bm br F m r i) (ha : w.heap.size ≤ nb) (hb : Below w.heap.size w w1) (ht : Turn [nb] [nb] w1 w') : Play W w' bm br F m r i :=
  h.on (hb.trans (ht.below (fun k hk => by simp at hk; omega) hb.size))
theorem turn_box {G G' : List Nat} {x : Obj} {u v : World} (ht : Turn G G' u v) (hb : Below (w.alloc x).heap.size (w.alloc x) u) (hn : w.heap.size ∉ G) : v.heap[w.heap.size]? = (w.alloc x).heap[w.heap.size]? :=
  (ht.block _ (Nat.lt_of_lt_of_le (by simp) hb.size) hn).trans (hb.block _ (by simp))
end
end Go.Proofs.Ytifiebgmjpjakaa
