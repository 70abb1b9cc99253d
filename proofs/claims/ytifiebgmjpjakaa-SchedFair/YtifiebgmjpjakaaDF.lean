import Derived.Test.YtifiebgmjpjakaaDC
import Derived.Deep.CutBlock
import Derived.Deep.DeepCutAuto
namespace Go.Proofs.Ytifiebgmjpjakaa
open Go.ChangeShapes Go.WideShapes Go.ChangeAt Go.RowKit

theorem settle_still {m : Rd} (h : Inv m) : settleM m = m := by
  unfold settleM
  cases e : overB m
  · rfl
  · obtain ⟨h1, h2⟩ := (overB_iff h.pre).1 e
    obtain ⟨k, hg, hs⟩ := h.due h1
    rw [h2 k hg] at hs
    cases hs
/-- the law's own two lists stand as the rounds do -/
def FR (m : Rd) (f s : Nat → Bool) : Prop := ∀ k, k < m.n → m.g k = !f k ∧ m.s k = (m.g k && s k)
theorem fr_step {m : Rd} {f s : Nat → Bool} (i : Inv m) (h : FR m f s) (k : Nat) : ∃ m1, Pre m1 ∧ m1.n = m.n ∧ m1.o = m.o ∧ FR m1 f (putF s k true) ∧ stepN m k = settleM m1 := by
  cases hg : m.g k
  · refine ⟨m, i.pre, rfl, rfl, fun j hj => ⟨(h j hj).1, ?_⟩, by rw [settle_still i]; simp [stepN, hg]⟩
    by_cases e : j = k
    · rw [(h j hj).2, e, hg]
      rfl
    · rw [putF_ne s true e]
      exact (h j hj).2
  · refine ⟨{ m with s := putF m.s k true }, pre_step i hg, rfl, rfl, fun j hj => ⟨(h j hj).1, ?_⟩, by simp [stepN, hg]⟩
    show putF m.s k true j = (m.g j && putF s k true j)
    by_cases e : j = k
    · rw [e, putF_same, putF_same, hg]
      rfl
    · rw [putF_ne s true e, putF_ne m.s true e]
      exact (h j hj).2
theorem fr_fin {m : Rd} {f s : Nat → Bool} (i : Inv m) (h : FR m f s) (k : Nat) : ∃ m1, Pre m1 ∧ m1.n = m.n ∧ m1.o = m.o ∧ FR m1 (putF f k true) s ∧ finN m k = settleM m1 := by
  cases hg : m.g k
  · refine ⟨m, i.pre, rfl, rfl, fun j hj => ⟨?_, (h j hj).2⟩, by rw [settle_still i]; simp [finN, hg]⟩
    by_cases e : j = k
    · rw [e, hg, putF_same]
      rfl
    · rw [putF_ne f true e]
      exact (h j hj).1
  · refine ⟨{ m with g := putF m.g k false, s := putF m.s k false }, pre_fin i k, rfl, rfl, fun j hj => ?_, by simp [finN, hg]⟩
    show putF m.g k false j = !putF f k true j ∧ putF m.s k false j = (putF m.g k false j && s j)
    by_cases e : j = k
    · rw [e, putF_same, putF_same, putF_same]
      exact ⟨rfl, rfl⟩
    · rw [putF_ne m.g false e, putF_ne f true e, putF_ne m.s false e]
      exact h j hj
def numB (x : Bool) : Int := if x then 1 else 0
def row8 (f : Nat → Bool) : List Value := i64s ((List.range 8).map fun k => numB (f k))
theorem row8_at (f : Nat → Bool) (k : Nat) (hk : k < 8) : (row8 f)[k]? = some (.int .i64 (numB (f k))) := by simp [row8, i64s, hk]
theorem row8_set (f : Nat → Bool) (t : Nat) (x : Bool) : (row8 f).set t (.int .i64 (numB x)) = row8 (putF f t x) := by
  unfold row8
  rw [i64s_set]
  congr 1
  apply List.ext_getElem
  · simp
  · intro k h1 h2
    rw [List.getElem_set]
    by_cases h : t = k
    · simp [h, putF]
    · have h' : ¬ k = t := fun e => h e.symm
      simp [h, h', putF]
theorem row8_len (f : Nat → Bool) : (row8 f).length = 8 := by simp [row8, i64s]
/-- the rounds and the law's two lists, all new -/
structure Fair (W w : World) (b gf gs : Nat) (m : Rd) (f s : Nat → Bool) : Prop where
  mm : RdAt w b m
  rf : RowAt 3 w (some ⟨gf, 0, none⟩) 8 (row8 f)
  rs : RowAt 3 w (some ⟨gs, 0, none⟩) 8 (row8 s)
  below : Below W.heap.size W w
  ab : W.heap.size ≤ b
  af : W.heap.size ≤ gf
  ag : W.heap.size ≤ gs
  n1 : gf ≠ b
  n2 : gs ≠ b
  n3 : gf ≠ gs
section
variable {W w w' : World} {b gf gs : Nat} {m m' : Rd} {f s : Nat → Bool}
theorem Fair.go (h : Fair W w b gf gs m f s) (k : RdAt w' b m') (t : Turn [b] [b] w w') : Fair W w' b gf gs m' f s :=
  ⟨k, h.rf.turn t (fun j hj q => by simp [fpR] at hj q; have := h.n1; omega), h.rs.turn t (fun j hj q => by simp [fpR] at hj q; have := h.n2; omega), h.below.trans (t.below (fun j hj => by simp at hj; have := h.ab; omega) h.below.size), h.ab, h.af, h.ag, h.n1, h.n2, h.n3⟩
theorem Fair.on (h : Fair W w b gf gs m f s) (k : Below w.heap.size w w') : Fair W w' b gf gs m f s :=
  ⟨h.mm.on k, h.rf.on k, h.rs.on k, h.below.trans (k.mono h.below.size), h.ab, h.af, h.ag, h.n1, h.n2, h.n3⟩
theorem Fair.setF (h : Fair W w b gf gs m f s) (t : Nat) (x : Bool) : Fair W (w.setCell ⟨gf, t, none⟩ (.int .i64 (numB x))) b gf gs m (putF f t x) s := by
  obtain ⟨q1, q2⟩ := row_put h.rf t (.int .i64 (numB x))
  rw [row8_set] at q1
  exact ⟨h.mm.turn q2 (by simp; exact fun e => h.n1 e.symm), q1, h.rs.turn q2 (fun j hj q => by simp [fpR] at hj q; have := h.n3; omega), h.below.trans (q2.below (fun j hj => by simp at hj; have := h.af; omega) h.below.size), h.ab, h.af, h.ag, h.n1, h.n2, h.n3⟩
theorem Fair.setS (h : Fair W w b gf gs m f s) (t : Nat) (x : Bool) : Fair W (w.setCell ⟨gs, t, none⟩ (.int .i64 (numB x))) b gf gs m f (putF s t x) := by
  obtain ⟨q1, q2⟩ := row_put h.rs t (.int .i64 (numB x))
  rw [row8_set] at q1
  exact ⟨h.mm.turn q2 (by simp; exact fun e => h.n2 e.symm), h.rf.turn q2 (fun j hj q => by simp [fpR] at hj q; have := h.n3; omega), q1, h.below.trans (q2.below (fun j hj => by simp at hj; have := h.ag; omega) h.below.size), h.ab, h.af, h.ag, h.n1, h.n2, h.n3⟩
theorem Fair.getF (h : Fair W w b gf gs m f s) {k : Nat} (hk : k < 8) : w.cell? ⟨gf, k, none⟩ = some (.int .i64 (numB (f k))) ∧ w.frozen? ⟨gf, k, none⟩ = false ∧ gf < w.heap.size := row_get h.rf (row8_at f k hk)
theorem Fair.getS (h : Fair W w b gf gs m f s) {k : Nat} (hk : k < 8) : w.cell? ⟨gs, k, none⟩ = some (.int .i64 (numB (s k))) ∧ w.frozen? ⟨gs, k, none⟩ = false ∧ gs < w.heap.size := row_get h.rs (row8_at s k hk)
end
theorem row8_none : i64s (List.replicate 8 0) = row8 noneF := rfl
theorem fair_new {W w1 w2 : World} {b n : Nat} (hB : Below W.heap.size W w1) (e1 : b = w1.heap.size) (hm : RdAt w2 b (newR n)) (hb2 : Below w1.heap.size w1 w2) : Fair W ((w2.alloc (.cells (i64s (List.replicate 8 0)).toArray 3)).alloc (.cells (i64s (List.replicate 8 0)).toArray 3)) b w2.heap.size (w2.heap.size + 1) (newR n) noneF noneF := by
  have hs : (w2.alloc (.cells (i64s (List.replicate 8 0)).toArray 3)).heap.size = w2.heap.size + 1 := by simp
  have c1 : Below w2.heap.size w2 (w2.alloc (.cells (i64s (List.replicate 8 0)).toArray 3)) := (Below.refl _ _).alloc (Nat.le_refl _) _
  have c2 : ∀ u : World, Below u.heap.size u (u.alloc (.cells (i64s (List.replicate 8 0)).toArray 3)) := fun u => (Below.refl _ _).alloc (Nat.le_refl _) _
  have c3 := c1.trans ((c2 (w2.alloc (.cells (i64s (List.replicate 8 0)).toArray 3))).mono (by simp))
  have r1 : RowAt 3 (w2.alloc (.cells (i64s (List.replicate 8 0)).toArray 3)) (some ⟨w2.heap.size, 0, none⟩) 8 (row8 noneF) := row_made w2 8 (by omega) (fun _ => 0)
  have r2 : RowAt 3 ((w2.alloc (.cells (i64s (List.replicate 8 0)).toArray 3)).alloc (.cells (i64s (List.replicate 8 0)).toArray 3)) (some ⟨w2.heap.size + 1, 0, none⟩) 8 (row8 noneF) := by
    have q := row_made (w2.alloc (.cells (i64s (List.replicate 8 0)).toArray 3)) 8 (by omega) (fun _ => 0)
    rw [hs] at q
    exact q
  have h1 := hB.size
  have h2 := hb2.size
  have h3 := hm.lt
  exact ⟨hm.on c3, r1.on (c2 _), r2, (hB.trans (hb2.mono h1)).trans (c3.mono (by omega)), by omega, by omega, by omega, by omega, by omega, by omega⟩
theorem fair_made {W w1 w2 : World} {b n : Nat} (hB : Below W.heap.size W w1) (e1 : b = w1.heap.size) (hm : RdAt w2 b (newR n)) (hb2 : Below w1.heap.size w1 w2) : ∃ gf gs u1 u2, (Instr.makeSlice 26 (.int .i64 8) (.int .i64 8)).run Try.prog w2 = .ok (.slice (some ⟨gf, 0, none⟩) 8 8) u1 ∧ (Instr.makeSlice 26 (.int .i64 8) (.int .i64 8)).run Try.prog u1 = .ok (.slice (some ⟨gs, 0, none⟩) 8 8) u2 ∧ Fair W u2 b gf gs (newR n) noneF noneF :=
  ⟨_, _, _, _, iMake 8 (by omega) w2, (iMake 8 (by omega) _).trans (by simp), fair_new hB e1 hm hb2⟩
theorem fr_new (n : Nat) : FR (newR n) noneF noneF := fun k hk => by
  have : k < n := hk
  simp [newR, noneF, this]
/-- behind the switch: what is to be settled, and it is -/
def Aft (W w : World) (b gf gs n o : Nat) : Prop := ∃ m1 f s, Pre m1 ∧ m1.n = n ∧ m1.o = o ∧ FR m1 f s ∧ Fair W w b gf gs (settleM m1) f s
/-- between two steps of the script -/
def Head (W w : World) (b gf gs n i : Nat) : Prop := ∃ m f s, Inv m ∧ m.n = n ∧ m.o ≤ i ∧ FR m f s ∧ Fair W w b gf gs m f s
/-- the first j are wiped -/
def clr (s : Nat → Bool) (j : Nat) : Nat → Bool := fun k => if k < j then false else s k
theorem clr_zero (s : Nat → Bool) : clr s 0 = s := by funext k; simp [clr]
theorem clr_put (s : Nat → Bool) (j : Nat) : putF (clr s j) j false = clr s (j + 1) := by
  funext k
  unfold putF clr
  by_cases e : k = j
  · simp [e]
  · have e' : (k < j + 1) = (k < j) := by simp; omega
    simp [e, e']
theorem clr_at (s : Nat → Bool) (j : Nat) : clr s j j = s j := by simp [clr]
theorem fr_over {m : Rd} {f s : Nat → Bool} (h : FR m f s) (e : overB m = true) : FR (settleM m) f (clr s m.n) := by
  have q : settleM m = { m with s := noneF, o := m.o + 1 } := by simp [settleM, e]
  rw [q]
  intro k hk
  have hk' : k < m.n := hk
  refine ⟨(h k hk).1, ?_⟩
  show noneF k = (m.g k && clr s m.n k)
  simp [noneF, clr, hk']
theorem fr_all {m : Rd} {f s : Nat → Bool} (p : Pre m) (h : FR m f s) (e : overB m = true) {k : Nat} (hk : k < m.n) : f k = true ∨ s k = true := by
  have q := ((overB_iff p).1 e).2 k
  rw [(h k hk).1, (h k hk).2, (h k hk).1] at q
  cases hf : f k
  · rw [hf] at q
    right
    simpa using q
  · exact .inl rfl
/-- how many have not finished -/
def cntU (f : Nat → Bool) : Nat → Nat
  | 0 => 0
  | j + 1 => if f j then cntU f j else cntU f j + 1
theorem cntU_le (f : Nat → Bool) : ∀ j, cntU f j ≤ j
  | 0 => Nat.le_refl _
  | j + 1 => by
    have := cntU_le f j
    unfold cntU
    split <;> omega
theorem cntU_pos (f : Nat → Bool) : ∀ j, 0 < cntU f j ↔ ∃ k, k < j ∧ f k = false
  | 0 => by simp [cntU]
  | j + 1 => by
    unfold cntU
    cases e : f j
    · simp only [Bool.false_eq_true, if_false, Nat.zero_lt_succ, true_iff]
      exact ⟨j, by omega, e⟩
    · simp only [if_true]
      rw [cntU_pos f j]
      exact ⟨fun ⟨k, h1, h2⟩ => ⟨k, by omega, h2⟩, fun ⟨k, h1, h2⟩ => ⟨k, by
        have : k ≠ j := fun q => by rw [q, e] at h2; cases h2
        omega, h2⟩⟩
theorem dueU_pos (m : Rd) : ∀ j, 0 < (dueU m j).length ↔ ∃ k, k < j ∧ dueB m k = true
  | 0 => by simp [dueU]
  | j + 1 => by
    rw [dueU_succ]
    cases e : dueB m j
    · simp only [Bool.false_eq_true, if_false]
      rw [dueU_pos m j]
      exact ⟨fun ⟨k, h1, h2⟩ => ⟨k, by omega, h2⟩, fun ⟨k, h1, h2⟩ => ⟨k, by
        have : k ≠ j := fun q => by rw [q, e] at h2; cases h2
        omega, h2⟩⟩
    · simp only [if_true, List.length_append, List.length_singleton, Nat.zero_lt_succ, true_iff]
      exact ⟨j, by omega, e⟩
theorem left_due {m : Rd} {f s : Nat → Bool} (i : Inv m) (h : FR m f s) : 0 < cntU f m.n ↔ 0 < (dueU m m.n).length := by
  rw [cntU_pos, dueU_pos]
  constructor
  · rintro ⟨k, hk, hf⟩
    obtain ⟨j, hg, hs⟩ := i.due ⟨k, by rw [(h k hk).1, hf]; rfl⟩
    exact ⟨j, i.pre.lt hg, by simp [dueB, hg, hs]⟩
  · rintro ⟨k, hk, hd⟩
    refine ⟨k, hk, ?_⟩
    unfold dueB at hd
    rw [(h k hk).1] at hd
    cases hf : f k
    · rfl
    · rw [hf] at hd
      cases hd
theorem fr_due {m : Rd} {f s : Nat → Bool} (h : FR m f s) {k : Nat} (hk : k < m.n) : dueB m k = (!f k && !s k) := by
  unfold dueB
  rw [(h k hk).2, (h k hk).1]
  cases f k <;> simp
end Go.Proofs.Ytifiebgmjpjakaa
