import Derived.Test.YtmmijcmlnhmooaaEP
namespace Go.Proofs.Ytmmijcmlnhmooaa
open Go.ChangeShapes Go.WideShapes Go.ChangeAt Go.RowKit Num

/-- the document's read: block, where, stamp, words, row -/
structure Dd where
  b : Nat
  p : Int
  c : Int
  s : Int
  L : List Int
  pv : Option Addr
  cv : Nat
def upd {A : Type} (f : Nat → A) (i : Nat) (v : A) : Nat → A := fun j => if j = i then v else f j
theorem upd_same {A : Type} (f : Nat → A) (i : Nat) (v : A) : upd f i v i = v := by simp [upd]
theorem upd_other {A : Type} (f : Nat → A) {i j : Nat} (v : A) (h : j ≠ i) : upd f i v j = f j := by simp [upd, h]
def ptV (x : Option Nat) : Value := .pointer (x.map fun b => ⟨b, 0, none⟩)
/-- the law's own world: both memories, two reads of each, two writes of each -/
structure Wo where
  bm : Nat
  gm : Nat
  bd : Nat
  gd : Nat
  rp : Nat → Option (Nat × Rd)
  rd : Nat → Option Dd
  tp : Nat → Option (Nat × Wt)
  td : Nat → Option (Nat × Nat × Wt)
def woV (x : Wo) : Array Value := #[ptV (some x.bm), ptV (some x.bd), ptV ((x.rp 0).map (·.1)), ptV ((x.rp 1).map (·.1)), ptV ((x.rd 0).map (·.b)), ptV ((x.rd 1).map (·.b)), ptV ((x.tp 0).map (·.1)), ptV ((x.tp 1).map (·.1)), ptV ((x.td 0).map (·.1)), ptV ((x.td 1).map (·.1))]
/-- which blocks are whose: 1 the world's box, 2 and 3 the memories, 4 + i .. the reads and writes -/
def RpOk (w : World) (col : Nat → Nat) (i : Nat) (r : Option (Nat × Rd)) : Prop := ∀ q, r = some q → RdAt w q.1 q.2 ∧ col q.1 = 4 + i
def RdOk (w : World) (col : Nat → Nat) (i : Nat) (r : Option Dd) : Prop := ∀ q, r = some q → DrAt w q.b q.p q.c q.s q.L q.pv q.cv ∧ col q.b = 6 + i ∧ ∀ g, g ∈ ownL q.pv → col g = 6 + i
def TpOk (w : World) (col : Nat → Nat) (i : Nat) (t : Option (Nat × Wt)) : Prop := ∀ q, t = some q → WtAt w q.1 q.2 ∧ col q.1 = 8 + i
def TdOk (w : World) (col : Nat → Nat) (i : Nat) (t : Option (Nat × Nat × Wt)) : Prop := ∀ q, t = some q → EwAt w q.1 q.2.1 q.2.2 ∧ col q.1 = 10 + i ∧ col q.2.1 = 10 + i
structure Play (W w : World) (bx : Nat) (col : Nat → Nat) (x : Wo) (ws : List Int) (o : Bool) (n : Int) (ws' : List Int) (o' : Bool) (n' : Int) : Prop where
  below : Below W.heap.size W w
  old : ∀ k, k < W.heap.size → col k = 0
  big : ∀ k, w.heap.size ≤ k → col k = 0
  box : w.heap[bx]? = some (.cells (woV x) 49 (0, 0))
  cx : col bx = 1
  m : MemAt 90 w x.bm x.gm ws o n
  cm : col x.bm = 2 ∧ col x.gm = 2
  d : MemAt 92 w x.bd x.gd ws' o' n'
  cd : col x.bd = 3 ∧ col x.gd = 3
  rp : ∀ i, i < 2 → RpOk w col i (x.rp i)
  rd : ∀ i, i < 2 → RdOk w col i (x.rd i)
  tp : ∀ i, i < 2 → TpOk w col i (x.tp i)
  td : ∀ i, i < 2 → TdOk w col i (x.td i)
section
variable {W w w' : World} {bx : Nat} {col : Nat → Nat} {x : Wo} {ws ws' : List Int} {o o' : Bool} {n n' : Int}
theorem RpOk.ch {i : Nat} {r : Option (Nat × Rd)} {L : List Nat} (h : RpOk w col i r) (k : Ch L w w') (hL : ∀ y, y ∈ L → col y ≠ 4 + i) : RpOk w' col i r := fun q e => ⟨(h q e).1.ch k (fun z => hL _ z (h q e).2), (h q e).2⟩
theorem RdOk.ch {i : Nat} {r : Option Dd} {L : List Nat} (h : RdOk w col i r) (k : Ch L w w') (hL : ∀ y, y ∈ L → col y ≠ 6 + i) : RdOk w' col i r := fun q e =>
  have hq := h q e
  ⟨hq.1.keep (k.block _ hq.1.lt (fun z => hL _ z hq.2.1)) (fun g hg => k.block g (World.ownsRow.lt hq.1.row g hg).2 (fun z => hL _ z (hq.2.2 g (own_mem hg)))), hq.2⟩
theorem TpOk.ch {i : Nat} {r : Option (Nat × Wt)} {L : List Nat} (h : TpOk w col i r) (k : Ch L w w') (hL : ∀ y, y ∈ L → col y ≠ 8 + i) : TpOk w' col i r := fun q e => ⟨(h q e).1.ch k (fun z => hL _ z (h q e).2), (h q e).2⟩
theorem TdOk.ch {i : Nat} {r : Option (Nat × Nat × Wt)} {L : List Nat} (h : TdOk w col i r) (k : Ch L w w') (hL : ∀ y, y ∈ L → col y ≠ 10 + i) : TdOk w' col i r := fun q e =>
  have hq := h q e
  ⟨hq.1.keep (k.block _ hq.1.lt (fun z => hL _ z hq.2.1)) (k.block _ hq.1.ltG (fun z => hL _ z hq.2.2)), hq.2⟩
/-- colours of blocks that had none change nothing -/
theorem RpOk.dye {i : Nat} {r : Option (Nat × Rd)} {col' : Nat → Nat} (h : RpOk w col i r) (hc : ∀ y, col y ≠ 0 → col' y = col y) : RpOk w col' i r := fun q e => ⟨(h q e).1, by rw [hc _ (by rw [(h q e).2]; omega)]; exact (h q e).2⟩
theorem RdOk.dye {i : Nat} {r : Option Dd} {col' : Nat → Nat} (h : RdOk w col i r) (hc : ∀ y, col y ≠ 0 → col' y = col y) : RdOk w col' i r := fun q e => ⟨(h q e).1, by rw [hc _ (by rw [(h q e).2.1]; omega)]; exact (h q e).2.1, fun g hg => by rw [hc _ (by rw [(h q e).2.2 g hg]; omega)]; exact (h q e).2.2 g hg⟩
theorem TpOk.dye {i : Nat} {r : Option (Nat × Wt)} {col' : Nat → Nat} (h : TpOk w col i r) (hc : ∀ y, col y ≠ 0 → col' y = col y) : TpOk w col' i r := fun q e => ⟨(h q e).1, by rw [hc _ (by rw [(h q e).2]; omega)]; exact (h q e).2⟩
theorem TdOk.dye {i : Nat} {r : Option (Nat × Nat × Wt)} {col' : Nat → Nat} (h : TdOk w col i r) (hc : ∀ y, col y ≠ 0 → col' y = col y) : TdOk w col' i r := fun q e => ⟨(h q e).1, by rw [hc _ (by rw [(h q e).2.1]; omega)]; exact (h q e).2.1, by rw [hc _ (by rw [(h q e).2.2]; omega)]; exact (h q e).2.2⟩
/-- what changes is of the colours C alone, and new: all else stays -/
theorem Play.part {L : List Nat} (h : Play W w bx col x ws o n ws' o' n') (k : Ch L w w') (C : Nat → Prop) (hL : ∀ y, y ∈ L → C (col y)) (h0 : ¬ C 0) :
    Below W.heap.size W w' ∧ (∀ j, w'.heap.size ≤ j → col j = 0) ∧ (¬ C 1 → w'.heap[bx]? = some (.cells (woV x) 49 (0, 0))) ∧ (¬ C 2 → MemAt 90 w' x.bm x.gm ws o n) ∧ (¬ C 3 → MemAt 92 w' x.bd x.gd ws' o' n') ∧ (∀ i, i < 2 → (¬ C (4 + i) → RpOk w' col i (x.rp i)) ∧ (¬ C (6 + i) → RdOk w' col i (x.rd i)) ∧ (¬ C (8 + i) → TpOk w' col i (x.tp i)) ∧ (¬ C (10 + i) → TdOk w' col i (x.td i))) := by
  have hb : ∀ y, y ∈ L → W.heap.size ≤ y := fun y hy => by
    by_cases q : y < W.heap.size
    · have := hL y hy
      rw [h.old y q] at this
      exact absurd this h0
    · omega
  refine ⟨h.below.trans (k.below hb h.below.size), fun j hj => h.big j (Nat.le_trans k.size hj), fun q => ?_, fun q => ?_, fun q => ?_, fun i hi => ⟨fun q => ?_, fun q => ?_, fun q => ?_, fun q => ?_⟩⟩
  · exact (k.block bx (lt_of_block h.box) (fun z => q (h.cx ▸ hL _ z))).trans h.box
  · exact h.m.ch k (fun z => q (h.cm.1 ▸ hL _ z)) (fun z => q (h.cm.2 ▸ hL _ z))
  · exact h.d.ch k (fun z => q (h.cd.1 ▸ hL _ z)) (fun z => q (h.cd.2 ▸ hL _ z))
  · exact (h.rp i hi).ch k (fun y hy e => q (e ▸ hL y hy))
  · exact (h.rd i hi).ch k (fun y hy e => q (e ▸ hL y hy))
  · exact (h.tp i hi).ch k (fun y hy e => q (e ▸ hL y hy))
  · exact (h.td i hi).ch k (fun y hy e => q (e ▸ hL y hy))
theorem Play.on (h : Play W w bx col x ws o n ws' o' n') (k : Below w.heap.size w w') : Play W w' bx col x ws o n ws' o' n' := by
  obtain ⟨a1, a2, a3, a4, a5, a6⟩ := h.part (ch_of k []) (fun _ => False) (by simp) (by simp)
  exact ⟨a1, h.old, a2, a3 (by simp), h.cx, a4 (by simp), h.cm, a5 (by simp), h.cd, fun i hi => (a6 i hi).1 (by simp), fun i hi => (a6 i hi).2.1 (by simp), fun i hi => (a6 i hi).2.2.1 (by simp), fun i hi => (a6 i hi).2.2.2 (by simp)⟩
theorem Play.onM {v : List Int} {p : Bool} {q : Int} (h : Play W w bx col x ws o n ws' o' n') (hm : MemAt 90 w' x.bm x.gm v p q) (k : Chg x.bm x.gm w w') : Play W w' bx col x v p q ws' o' n' := by
  obtain ⟨a1, a2, a3, a4, a5, a6⟩ := h.part (k.ch (L := [x.bm, x.gm]) (by simp) (by simp)) (fun c => c = 2) (by simp [h.cm.1, h.cm.2]) (by simp)
  exact ⟨a1, h.old, a2, a3 (by simp), h.cx, hm, h.cm, a5 (by simp), h.cd, fun i hi => (a6 i hi).1 (by omega), fun i hi => (a6 i hi).2.1 (by omega), fun i hi => (a6 i hi).2.2.1 (by omega), fun i hi => (a6 i hi).2.2.2 (by omega)⟩
theorem Play.onD {v : List Int} {p : Bool} {q : Int} (h : Play W w bx col x ws o n ws' o' n') (hm : MemAt 92 w' x.bd x.gd v p q) (k : Chg x.bd x.gd w w') : Play W w' bx col x ws o n v p q := by
  obtain ⟨a1, a2, a3, a4, a5, a6⟩ := h.part (k.ch (L := [x.bd, x.gd]) (by simp) (by simp)) (fun c => c = 3) (by simp [h.cd.1, h.cd.2]) (by simp)
  exact ⟨a1, h.old, a2, a3 (by simp), h.cx, a4 (by simp), h.cm, hm, h.cd, fun i hi => (a6 i hi).1 (by omega), fun i hi => (a6 i hi).2.1 (by omega), fun i hi => (a6 i hi).2.2.1 (by omega), fun i hi => (a6 i hi).2.2.2 (by omega)⟩
theorem upd_cases {A : Type} {f : Nat → A} {i j : Nat} {v : A} {P : A → Prop} (h1 : j = i → P v) (h2 : j ≠ i → P (f j)) : P (upd f i v j) := by
  unfold upd
  split
  · exact h1 (by assumption)
  · exact h2 (by assumption)
/-- a step of the program's read i over its memory -/
theorem Play.stepR {i b : Nat} {r r' : Rd} {v : List Int} {p : Bool} {q : Int} (h : Play W w bx col x ws o n ws' o' n') (hi : i < 2) (hr : x.rp i = some (b, r)) (hm : MemAt 90 w' x.bm x.gm v p q) (hr' : RdAt w' b r') (k : Ch [x.bm, x.gm, b] w w') : Play W w' bx col { x with rp := upd x.rp i (some (b, r')) } v p q ws' o' n' := by
  have hb := (h.rp i hi _ hr).2
  obtain ⟨a1, a2, a3, a4, a5, a6⟩ := h.part k (fun c => c = 2 ∨ c = 4 + i) (by simp [h.cm.1, h.cm.2, hb]) (by omega)
  refine ⟨a1, h.old, a2, ?_, h.cx, hm, h.cm, a5 (by omega), h.cd, fun j hj => ?_, fun j hj => (a6 j hj).2.1 (by omega), fun j hj => (a6 j hj).2.2.1 (by omega), fun j hj => (a6 j hj).2.2.2 (by omega)⟩
  · rw [a3 (by omega)]
    have e : ∀ j, (upd x.rp i (some (b, r')) j).map (·.1) = (x.rp j).map (·.1) := fun j => by unfold upd; split <;> first | rfl | (rename_i q; subst q; rw [hr]; rfl)
    simp only [woV, e]
  · exact upd_cases (P := RpOk w' col j) (fun e => by subst e; exact fun z ez => by injection ez with ez; subst ez; exact ⟨hr', hb⟩) (fun e => (a6 j hj).1 (by omega))
theorem Play.stepW {i b : Nat} {r r' : Wt} {v : List Int} {p : Bool} {q : Int} (h : Play W w bx col x ws o n ws' o' n') (hi : i < 2) (hr : x.tp i = some (b, r)) (hm : MemAt 90 w' x.bm x.gm v p q) (hr' : WtAt w' b r') (k : Ch [x.bm, x.gm, b] w w') : Play W w' bx col { x with tp := upd x.tp i (some (b, r')) } v p q ws' o' n' := by
  have hb := (h.tp i hi _ hr).2
  obtain ⟨a1, a2, a3, a4, a5, a6⟩ := h.part k (fun c => c = 2 ∨ c = 8 + i) (by simp [h.cm.1, h.cm.2, hb]) (by omega)
  refine ⟨a1, h.old, a2, ?_, h.cx, hm, h.cm, a5 (by omega), h.cd, fun j hj => (a6 j hj).1 (by omega), fun j hj => (a6 j hj).2.1 (by omega), fun j hj => ?_, fun j hj => (a6 j hj).2.2.2 (by omega)⟩
  · rw [a3 (by omega)]
    have e : ∀ j, (upd x.tp i (some (b, r')) j).map (·.1) = (x.tp j).map (·.1) := fun j => by unfold upd; split <;> first | rfl | (rename_i q; subst q; rw [hr]; rfl)
    simp only [woV, e]
  · exact upd_cases (P := TpOk w' col j) (fun e => by subst e; exact fun z ez => by injection ez with ez; subst ez; exact ⟨hr', hb⟩) (fun e => (a6 j hj).2.2.1 (by omega))
/-- the same of the document's write -/
theorem Play.stepE {i b g : Nat} {r r' : Wt} {v : List Int} {p : Bool} {q : Int} (h : Play W w bx col x ws o n ws' o' n') (hi : i < 2) (hr : x.td i = some (b, g, r)) (hm : MemAt 92 w' x.bd x.gd v p q) (hr' : EwAt w' b g r') (k : Ch [x.bd, x.gd, b] w w') : Play W w' bx col { x with td := upd x.td i (some (b, g, r')) } ws o n v p q := by
  have hb := (h.td i hi _ hr).2
  obtain ⟨a1, a2, a3, a4, a5, a6⟩ := h.part k (fun c => c = 3 ∨ c = 10 + i) (by simp [h.cd.1, h.cd.2, hb.1]) (by omega)
  refine ⟨a1, h.old, a2, ?_, h.cx, a4 (by omega), h.cm, hm, h.cd, fun j hj => (a6 j hj).1 (by omega), fun j hj => (a6 j hj).2.1 (by omega), fun j hj => (a6 j hj).2.2.1 (by omega), fun j hj => ?_⟩
  · rw [a3 (by omega)]
    have e : ∀ j, (upd x.td i (some (b, g, r')) j).map (·.1) = (x.td j).map (·.1) := fun j => by unfold upd; split <;> first | rfl | (rename_i q; subst q; rw [hr]; rfl)
    simp only [woV, e]
  · exact upd_cases (P := TdOk w' col j) (fun e => by subst e; exact fun z ez => by injection ez with ez; subst ez; exact ⟨hr', hb⟩) (fun e => (a6 j hj).2.2.2 (by omega))
/-- colours for new blocks -/
def paint (col : Nat → Nat) (L : List Nat) (c : Nat) : Nat → Nat := fun k => if k ∈ L then c else col k
theorem paint_old {col : Nat → Nat} {L : List Nat} {c : Nat} (h : ∀ k, k ∈ L → col k = 0 ∨ col k = c) : ∀ y, col y ≠ 0 → paint col L c y = col y := fun y hy => by
  unfold paint
  split
  · rename_i q
    rcases h y q with e | e
    · exact absurd e hy
    · exact e.symm
  · rfl
theorem paint_in {col : Nat → Nat} {L : List Nat} {c k : Nat} (h : k ∈ L) : paint col L c k = c := by simp [paint, h]
theorem Play.recol {col' : Nat → Nat} (h : Play W w bx col x ws o n ws' o' n') (hc : ∀ y, col y ≠ 0 → col' y = col y) (h1 : ∀ k, k < W.heap.size → col' k = 0) (h2 : ∀ k, w.heap.size ≤ k → col' k = 0) : Play W w bx col' x ws o n ws' o' n' :=
  ⟨h.below, h1, h2, h.box, by rw [hc _ (by rw [h.cx]; omega)]; exact h.cx, h.m, ⟨by rw [hc _ (by rw [h.cm.1]; omega)]; exact h.cm.1, by rw [hc _ (by rw [h.cm.2]; omega)]; exact h.cm.2⟩, h.d, ⟨by rw [hc _ (by rw [h.cd.1]; omega)]; exact h.cd.1, by rw [hc _ (by rw [h.cd.2]; omega)]; exact h.cd.2⟩, fun i hi => (h.rp i hi).dye hc, fun i hi => (h.rd i hi).dye hc, fun i hi => (h.tp i hi).dye hc, fun i hi => (h.td i hi).dye hc⟩
/-- a step of the document's read i -/
theorem Play.stepD {i : Nat} {D : Dd} {L : List Int} {pv : Option Addr} {cv : Nat} {v : List Int} {p : Bool} {q : Int} (h : Play W w bx col x ws o n ws' o' n') (hi : i < 2) (hr : x.rd i = some D) (hm : MemAt 92 w' x.bd x.gd v p q) (hr' : DrAt w' D.b D.p D.c D.s L pv cv) (hg : ∀ g, g ∈ ownL pv → g ∈ ownL D.pv ∨ w.heap.size ≤ g) (k : Ch (x.bd :: x.gd :: D.b :: ownL D.pv) w w') : ∃ col', Play W w' bx col' { x with rd := upd x.rd i (some { D with L := L, pv := pv, cv := cv }) } ws o n v p q := by
  have hb := (h.rd i hi _ hr).2
  have hpo : ∀ y, y ∈ ownL pv → col y = 0 ∨ col y = 6 + i := fun y hy => (hg y hy).elim (fun z => .inr (hb.2 y z)) (fun z => .inl (h.big y z))
  have hlt : ∀ y, y ∈ ownL pv → y < w'.heap.size := fun y hy => by
    cases pv with
    | none => simp [ownL] at hy
    | some a =>
      simp [ownL] at hy
      exact (World.ownsRow.lt hr'.row y (by simp [Value.ownBlock, hy])).2
  have hn : ∀ y, y ∈ ownL pv → W.heap.size ≤ y := fun y hy => by
    by_cases q : y < W.heap.size
    · rcases hg y hy with z | z
      · have := hb.2 y z
        rw [h.old y q] at this
        omega
      · have := h.below.size
        omega
    · omega
  obtain ⟨a1, a2, a3, a4, a5, a6⟩ := h.part k (fun c => c = 3 ∨ c = 6 + i) (by
    intro y hy
    simp at hy
    rcases hy with rfl | rfl | rfl | hy
    · exact .inl h.cd.1
    · exact .inl h.cd.2
    · exact .inr hb.1
    · exact .inr (hb.2 y hy)) (by omega)
  have hc := paint_old hpo
  refine ⟨paint col (ownL pv) (6 + i), a1, fun j hj => ?_, fun j hj => ?_, ?_, by rw [hc _ (by rw [h.cx]; omega)]; exact h.cx, a4 (by omega), ⟨by rw [hc _ (by rw [h.cm.1]; omega)]; exact h.cm.1, by rw [hc _ (by rw [h.cm.2]; omega)]; exact h.cm.2⟩, hm, ⟨by rw [hc _ (by rw [h.cd.1]; omega)]; exact h.cd.1, by rw [hc _ (by rw [h.cd.2]; omega)]; exact h.cd.2⟩, fun j hj => ((a6 j hj).1 (by omega)).dye hc, fun j hj => ?_, fun j hj => ((a6 j hj).2.2.1 (by omega)).dye hc, fun j hj => ((a6 j hj).2.2.2 (by omega)).dye hc⟩
  · unfold paint
    split
    · rename_i z
      have := hn j z
      omega
    · exact h.old j hj
  · unfold paint
    split
    · rename_i z
      have := hlt j z
      omega
    · exact a2 j hj
  · rw [a3 (by omega)]
    have e : ∀ j, (upd x.rd i (some { D with L := L, pv := pv, cv := cv }) j).map (·.b) = (x.rd j).map (·.b) := fun j => by unfold upd; split <;> first | rfl | (rename_i q; subst q; rw [hr]; rfl)
    simp only [woV, e]
  · refine upd_cases (P := RdOk w' (paint col (ownL pv) (6 + i)) j) (fun e => ?_) (fun e => ((a6 j hj).2.1 (by omega)).dye hc)
    subst e
    exact fun z ez => by
      injection ez with ez
      subst ez
      exact ⟨hr', by rw [hc _ (by rw [hb.1]; omega)]; exact hb.1, fun g hg => paint_in hg⟩
end
end Go.Proofs.Ytmmijcmlnhmooaa
