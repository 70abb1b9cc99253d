import Derived.Test.YtninicfnhoediaaGreatDoorKS
import Derived.Test.YtninicfnhoediaaGreatDoorJ1
import Derived.Test.YtninicfnhoediaaGreatDoorRP
namespace Go.Proofs.YtninicfnhoediaaGreatDoor.Rr
open Go.ChangeShapes Go.WideShapes Go.ChangeAt Go.RowKit Num

/-! a reader as numbers: of a (cells) and b (threads) its plan; sub: how far its coming, or its read, is; cell: the one that is being read, -1: none -/
structure Rx where
  a : Int
  b : Int
  th : Int
  tag : Int
  args : List Nat
  m : Mac
  steps : Int
  part : Nat
  sub : Nat
  claim : Int
  stamp : Int
  cell : Int
  ver : Int
  now : Int
def u64B (v : Int) : Prop := 0 ≤ v ∧ v < 18446744073709551616
def okW (ws : List Int) : Prop := ∀ v ∈ ws, u64B v
theorem okW.at {ws : List Int} (h : okW ws) (i : Int) : u64B (wordAt ws i) := by
  unfold wordAt
  rw [List.getD_eq_getElem?_getD]
  cases e : ws[i.toNat]? with
  | none => exact ⟨by decide, by decide⟩
  | some v => exact h v (List.mem_of_getElem? e)
theorem okW.set {ws : List Int} (h : okW ws) (i : Nat) {v : Int} (hv : u64B v) : okW (ws.set i v) := fun u hu => (List.mem_or_eq_of_mem_set hu).elim (h u) (fun e => e ▸ hv)
theorem pass_in (v : Int) : u64B (Md.Cv.passV v) := by
  unfold Md.Cv.passV u64B
  rw [IntKind.wrap_u64]
  omega
/-- how many words; where the cell's word j is -/
def plW (x : Rx) : Int := 3 + x.b + 3 * x.a
def atW (x : Rx) (j : Int) : Int := 3 + x.b + 3 * x.cell + j
/-- a step of a read -/
def readX (x : Rx) (ws : List Int) : Rx :=
  if x.sub = 0 then { x with ver := wordAt ws (atW x 0), sub := if x.stamp < wordAt ws (atW x 0) then 3 else 1 }
  else if x.sub = 1 then { x with now := wordAt ws (atW x 1), sub := 2 }
  else if x.sub = 2 then (if wordAt ws (atW x 0) = x.ver then { x with m := giveM x.m (fixB x.now.toNat), cell := -1, sub := 3 } else { x with sub := 3 })
  else { x with m := giveM x.m (fixB (wordAt ws (atW x 2)).toNat), cell := -1 }
/-- a step of its running; whether it had an access -/
def begX (x : Rx) : Rx := { x with m := (stepM x.m).1, cell := (stepM x.m).2.cell, sub := 0 }
def runX (x : Rx) (ws : List Int) : Rx × Bool :=
  if 0 ≤ x.cell then (readX x ws, true)
  else if (stepM x.m).2.kind = 1 then (readX (begX x) ws, true)
  else ({ x with m := (stepM x.m).1, part := if (stepM x.m).2.kind = 4 then 3 else 2 }, false)
def tickX (x : Rx) : Rx := { x with steps := x.steps + 1 }
/-- a step of its coming; its leaving -/
def comeX (x : Rx) (ws : List Int) : Rx × List Int :=
  if x.sub = 0 then ({ x with claim := wordAt ws 2, sub := 1 }, ws)
  else if x.sub = 1 then ({ x with sub := 2 }, ws.set (3 + x.th).toNat (Md.Cv.passV x.claim))
  else ({ x with stamp := wordAt ws 2, part := 2 }, ws)
def leaveX (x : Rx) : Rx := { x with part := 4 }
/-- a step: the reader, the words, whether it had an access -/
def stepX (x : Rx) (ws : List Int) : Rx × List Int × Bool :=
  if x.part = 1 then ((comeX (tickX x) ws).1, (comeX (tickX x) ws).2, true)
  else if x.part = 3 then (leaveX (tickX x), ws.set (3 + x.th).toNat 0, true)
  else ((runX (tickX x) ws).1, ws, (runX (tickX x) ws).2)
/-- what stays of a reader, whatever it does -/
structure Alike (x y : Rx) : Prop where
  a : y.a = x.a
  b : y.b = x.b
  th : y.th = x.th
  tag : y.tag = x.tag
  args : y.args = x.args
  fuel : y.m.fuel = x.m.fuel
theorem Alike.refl (x : Rx) : Alike x x := ⟨rfl, rfl, rfl, rfl, rfl, rfl⟩
theorem Alike.trans {x y z : Rx} (h : Alike x y) (k : Alike y z) : Alike x z := ⟨k.a.trans h.a, k.b.trans h.b, k.th.trans h.th, k.tag.trans h.tag, k.args.trans h.args, k.fuel.trans h.fuel⟩
/-- what holds of every reader; how many steps there were -/
structure In0 (x : Rx) : Prop where
  ca : 1 ≤ x.a ∧ x.a ≤ 256
  cb : 1 ≤ x.b ∧ x.b ≤ 8
  cel : x.m.cells = x.a
  th : 0 ≤ x.th ∧ x.th < x.b
  inv : Inv x.m
  few : x.args.length ≤ 8
  part : 1 ≤ x.part ∧ x.part ≤ 4
  p1 : x.part = 1 → x.sub ≤ 2 ∧ x.cell = -1 ∧ x.stamp = 0 ∧ (x.sub = 0 → x.claim = 0) ∧ x.m.how = 0 ∧ ¬ 0 ≤ x.m.wait
  p2 : x.part = 2 → x.m.how = 0 ∧ ((x.cell = -1 ∧ ¬ 0 ≤ x.m.wait) ∨ (0 ≤ x.cell ∧ x.m.wait = x.cell ∧ 1 ≤ x.sub ∧ x.sub ≤ 3))
  p3 : x.part = 3 ∨ x.part = 4 → x.m.how ≠ 0 ∧ x.cell = -1 ∧ ¬ 0 ≤ x.m.wait
  k : u64B x.claim
  s : u64B x.stamp
  v : u64B x.ver
  n : u64B x.now
structure InX (x : Rx) : Prop extends In0 x where
  pos : 0 ≤ x.steps
  s1 : x.part = 1 → x.steps = x.sub
  s2 : x.part = 2 → (x.cell = -1 → x.steps ≤ 3 + 4 * x.m.used) ∧ (0 ≤ x.cell → x.steps ≤ 4 * x.m.used - 1 + x.sub)
  s3 : x.part = 3 → x.steps ≤ 4 * x.m.fuel + 4
  s4 : x.part = 4 → x.steps ≤ 4 * x.m.fuel + 5
theorem In0.tick {x : Rx} (h : In0 x) : In0 (tickX x) := ⟨h.ca, h.cb, h.cel, h.th, h.inv, h.few, h.part, h.p1, h.p2, h.p3, h.k, h.s, h.v, h.n⟩
section
variable {x : Rx} {ws : List Int}
theorem In0.celB (h : In0 x) : -1 ≤ x.cell ∧ x.cell < x.a := by
  have h1 := h.ca
  have hp := h.part
  rcases (by omega : x.part = 1 ∨ x.part = 2 ∨ x.part = 3 ∨ x.part = 4) with e | e | e | e
  · have := (h.p1 e).2.1; omega
  · rcases (h.p2 e).2 with q | q
    · omega
    · have := h.inv.wait
      have := h.cel
      omega
  · have := (h.p3 (.inl e)).2.1; omega
  · have := (h.p3 (.inr e)).2.1; omega
theorem fix_lt (v : Int) (h : u64B v) : fixB v.toNat < 18446744073709551616 := fixB_lt (by have := h.2; have := h.1; omega)
/-- a read's step, the read being at its beginning or under way -/
theorem read_in (hI : Inv x.m) (hc : 0 ≤ x.cell) (hw : x.m.wait = x.cell) (hs : x.sub ≤ 3) (h0 : x.m.how = 0) (hn : u64B x.now) (hv : u64B x.ver) (hW : okW ws) :
    Alike x (readX x ws) ∧ Inv (readX x ws).m ∧ (readX x ws).m.cells = x.m.cells ∧ (readX x ws).m.how = 0 ∧ (readX x ws).m.used = x.m.used ∧ (readX x ws).part = x.part ∧ (readX x ws).steps = x.steps ∧ (readX x ws).stamp = x.stamp ∧ (readX x ws).claim = x.claim ∧ u64B (readX x ws).now ∧ u64B (readX x ws).ver ∧
      (((readX x ws).cell = -1 ∧ ¬ 0 ≤ (readX x ws).m.wait ∧ x.sub ≥ 2) ∨ ((readX x ws).cell = x.cell ∧ (readX x ws).m = x.m ∧ x.sub + 1 ≤ (readX x ws).sub ∧ (readX x ws).sub ≤ 3)) := by
  have hw0 : 0 ≤ x.m.wait := by omega
  have G : ∀ y : Int, u64B y → Inv (giveM x.m (fixB y.toNat)) ∧ (giveM x.m (fixB y.toNat)).cells = x.m.cells ∧ (giveM x.m (fixB y.toNat)).how = 0 ∧ (giveM x.m (fixB y.toNat)).used = x.m.used ∧ ¬ 0 ≤ (giveM x.m (fixB y.toNat)).wait ∧ (giveM x.m (fixB y.toNat)).fuel = x.m.fuel := fun y hy => by
    obtain ⟨q1, q2, q3, q4⟩ := give_goes hw0 (fixB y.toNat)
    exact ⟨inv_give hI (fix_lt y hy), q4.cells, q2.trans h0, q3, q1, q4.fuel⟩
  unfold readX
  split
  · refine ⟨⟨rfl, rfl, rfl, rfl, rfl, rfl⟩, hI, rfl, h0, rfl, rfl, rfl, rfl, rfl, hn, hW.at _, .inr ⟨rfl, rfl, ?_, ?_⟩⟩
    · dsimp only; split <;> omega
    · dsimp only; split <;> omega
  · split
    · exact ⟨⟨rfl, rfl, rfl, rfl, rfl, rfl⟩, hI, rfl, h0, rfl, rfl, rfl, rfl, rfl, hW.at _, hv, .inr ⟨rfl, rfl, by dsimp only; omega, by dsimp only; omega⟩⟩
    · split
      · split
        · obtain ⟨q1, q2, q3, q4, q5, q6⟩ := G _ hn
          exact ⟨⟨rfl, rfl, rfl, rfl, rfl, q6⟩, q1, q2, q3, q4, rfl, rfl, rfl, rfl, hn, hv, .inl ⟨rfl, q5, by omega⟩⟩
        · exact ⟨⟨rfl, rfl, rfl, rfl, rfl, rfl⟩, hI, rfl, h0, rfl, rfl, rfl, rfl, rfl, hn, hv, .inr ⟨rfl, rfl, by dsimp only; omega, by dsimp only; omega⟩⟩
      · obtain ⟨q1, q2, q3, q4, q5, q6⟩ := G (wordAt ws (atW x 2)) (hW.at _)
        exact ⟨⟨rfl, rfl, rfl, rfl, rfl, q6⟩, q1, q2, q3, q4, rfl, rfl, rfl, rfl, hn, hv, .inl ⟨rfl, q5, by omega⟩⟩
/-- a step of its running -/
theorem run_in (h : InX x) (hp : x.part = 2) (hW : okW ws) : InX (runX (tickX x) ws).1 ∧ Alike x (runX (tickX x) ws).1 ∧ (runX (tickX x) ws).1.steps = x.steps + 1 ∧ ((runX (tickX x) ws).1.part = 2 ∨ (runX (tickX x) ws).1.part = 3) := by
  obtain ⟨h0, hq⟩ := h.p2 hp
  obtain ⟨hs1, hs2⟩ := h.s2 hp
  have hu := h.inv.used
  have hf := h.inv.fuel
  have hpos := h.pos
  rcases hq with ⟨hc, hw⟩ | ⟨hc, hw, hs1', hs3⟩
  · have nc : ¬ 0 ≤ x.cell := by omega
    have hst := hs1 hc
    obtain ⟨lk, tr⟩ := step_turns h.inv hw h0
    have hI := inv_step h.inv
    rcases tr with ⟨k4, e1, e2⟩ | ⟨k1, e1, e2, e3, e4⟩ | ⟨k0, e1, e2, e3⟩
    · have k1 : ¬ (stepM x.m).2.kind = 1 := by omega
      have E : runX (tickX x) ws = ({ tickX x with m := (stepM x.m).1, part := 3 }, false) := by
        unfold runX; rw [if_neg (show ¬ 0 ≤ (tickX x).cell from nc), if_neg (show ¬ (stepM (tickX x).m).2.kind = 1 from k1), if_pos (show (stepM (tickX x).m).2.kind = 4 from k4)]; rfl
      rw [E]
      exact ⟨⟨⟨h.ca, h.cb, lk.cells.trans h.cel, h.th, hI, h.few, by dsimp only; omega, (fun e => by cases e), (fun e => by cases e), fun _ => ⟨e1, hc, e2⟩, h.k, h.s, h.v, h.n⟩, by show 0 ≤ x.steps + 1; omega, (fun e => by cases e), (fun e => by cases e), (fun _ => by show x.steps + 1 ≤ 4 * (stepM x.m).1.fuel + 4; rw [lk.fuel]; omega), (fun e => by cases e)⟩, ⟨rfl, rfl, rfl, rfl, rfl, lk.fuel⟩, rfl, .inr rfl⟩
    · have E : runX (tickX x) ws = (readX (begX (tickX x)) ws, true) := by
        unfold runX; rw [if_neg (show ¬ 0 ≤ (tickX x).cell from nc), if_pos (show (stepM (tickX x).m).2.kind = 1 from k1)]
      obtain ⟨q1, q2, q3, q4, q5, q6, q7, q8, q9, q10, q11, q12⟩ := read_in (x := begX (tickX x)) (ws := ws) hI (by show 0 ≤ (stepM x.m).2.cell; omega) (by show (stepM x.m).1.wait = (stepM x.m).2.cell; omega) (by show (0 : Nat) ≤ 3; omega) e3 h.n h.v hW
      rw [E]
      have s7 : (readX (begX (tickX x)) ws).steps = x.steps + 1 := q7
      have s5 : (readX (begX (tickX x)) ws).m.used = x.m.used + 1 := q5.trans e4
      have s6 : (readX (begX (tickX x)) ws).part = 2 := q6.trans hp
      obtain ⟨z1, z2, z3, z4⟩ : (readX (begX (tickX x)) ws).cell = (stepM x.m).2.cell ∧ (readX (begX (tickX x)) ws).m = (stepM x.m).1 ∧ 1 ≤ (readX (begX (tickX x)) ws).sub ∧ (readX (begX (tickX x)) ws).sub ≤ 3 := by
        rcases q12 with ⟨_, _, z⟩ | ⟨z1, z2, z3, z4⟩
        · exact absurd z (by show ¬ (0 : Nat) ≥ 2; omega)
        · exact ⟨z1, z2, z3, z4⟩
      refine ⟨⟨⟨by rw [q1.a]; exact h.ca, by rw [q1.b]; exact h.cb, by rw [q3, q1.a]; exact lk.cells.trans h.cel, by rw [q1.th, q1.b]; exact h.th, q2, by rw [q1.args]; exact h.few, by dsimp only; omega, (fun e => by dsimp only at e; omega), fun _ => ⟨q4, .inr ⟨by dsimp only; omega, by dsimp only; rw [z1, z2]; omega, z3, z4⟩⟩, (fun e => by dsimp only at e; omega), by rw [q9]; exact h.k, by rw [q8]; exact h.s, q11, q10⟩, by dsimp only; omega, (fun e => by dsimp only at e; omega), fun _ => ⟨fun e => by dsimp only at e; omega, fun _ => by dsimp only; omega⟩, (fun e => by dsimp only at e; omega), (fun e => by dsimp only at e; omega)⟩, ⟨q1.a, q1.b, q1.th, q1.tag, q1.args, q1.fuel.trans lk.fuel⟩, s7, .inl s6⟩
    · have k1 : ¬ (stepM x.m).2.kind = 1 := by omega
      have k4 : ¬ (stepM x.m).2.kind = 4 := by omega
      have E : runX (tickX x) ws = ({ tickX x with m := (stepM x.m).1, part := 2 }, false) := by
        unfold runX; rw [if_neg (show ¬ 0 ≤ (tickX x).cell from nc), if_neg (show ¬ (stepM (tickX x).m).2.kind = 1 from k1), if_neg (show ¬ (stepM (tickX x).m).2.kind = 4 from k4)]; rfl
      rw [E]
      exact ⟨⟨⟨h.ca, h.cb, lk.cells.trans h.cel, h.th, hI, h.few, by dsimp only; omega, (fun e => by cases e), fun _ => ⟨e2, .inl ⟨hc, e1⟩⟩, (fun e => by rcases e with e | e <;> cases e), h.k, h.s, h.v, h.n⟩, by show 0 ≤ x.steps + 1; omega, (fun e => by cases e), fun _ => ⟨fun _ => by show x.steps + 1 ≤ 3 + 4 * (stepM x.m).1.used; omega, fun e => absurd e nc⟩, (fun e => by cases e), (fun e => by cases e)⟩, ⟨rfl, rfl, rfl, rfl, rfl, lk.fuel⟩, rfl, .inl rfl⟩
  · have hst := hs2 hc
    have E : runX (tickX x) ws = (readX (tickX x) ws, true) := by
      unfold runX; rw [if_pos (show 0 ≤ (tickX x).cell from hc)]
    obtain ⟨q1, q2, q3, q4, q5, q6, q7, q8, q9, q10, q11, q12⟩ := read_in (x := tickX x) (ws := ws) h.inv hc hw hs3 h0 h.n h.v hW
    rw [E]
    have s7 : (readX (tickX x) ws).steps = x.steps + 1 := q7
    have s5 : (readX (tickX x) ws).m.used = x.m.used := q5
    have s6 : (readX (tickX x) ws).part = 2 := q6.trans hp
    have Z : ((readX (tickX x) ws).cell = -1 ∧ ¬ 0 ≤ (readX (tickX x) ws).m.wait ∧ 2 ≤ x.sub) ∨ ((readX (tickX x) ws).cell = x.cell ∧ (readX (tickX x) ws).m = x.m ∧ x.sub + 1 ≤ (readX (tickX x) ws).sub ∧ (readX (tickX x) ws).sub ≤ 3) := q12
    refine ⟨⟨⟨by rw [q1.a]; exact h.ca, by rw [q1.b]; exact h.cb, by rw [q3, q1.a]; exact h.cel, by rw [q1.th, q1.b]; exact h.th, q2, by rw [q1.args]; exact h.few, by dsimp only; omega, (fun e => by dsimp only at e; omega), fun _ => ⟨q4, ?_⟩, (fun e => by dsimp only at e; omega), by rw [q9]; exact h.k, by rw [q8]; exact h.s, q11, q10⟩, by dsimp only; omega, (fun e => by dsimp only at e; omega), fun _ => ⟨fun e => ?_, fun e => ?_⟩, (fun e => by dsimp only at e; omega), (fun e => by dsimp only at e; omega)⟩, ⟨q1.a, q1.b, q1.th, q1.tag, q1.args, q1.fuel⟩, s7, .inl s6⟩
    · rcases Z with ⟨z1, z2, _⟩ | ⟨z1, z2, z3, z4⟩
      · exact .inl ⟨z1, z2⟩
      · exact .inr ⟨by dsimp only; rw [z1]; exact hc, by dsimp only; rw [z1, z2]; exact hw, by dsimp only; omega, z4⟩
    · dsimp only at e ⊢
      rcases Z with ⟨z1, z2, _⟩ | ⟨z1, z2, z3, z4⟩
      · omega
      · omega
    · dsimp only at e ⊢
      rcases Z with ⟨z1, z2, _⟩ | ⟨z1, z2, z3, z4⟩
      · omega
      · omega
theorem step_in (h : InX x) (hp : x.part ≠ 4) (hW : okW ws) : InX (stepX x ws).1 ∧ Alike x (stepX x ws).1 ∧ (stepX x ws).1.steps = x.steps + 1 ∧ okW (stepX x ws).2.1 ∧ (stepX x ws).2.1.length = ws.length := by
  have hP := h.part
  have hpos := h.pos
  rcases (by omega : x.part = 1 ∨ x.part = 2 ∨ x.part = 3) with e | e | e
  · obtain ⟨c1, c2, c3, c4, c6, c7⟩ := h.p1 e
    have c5 := h.s1 e
    rcases (by omega : x.sub = 0 ∨ x.sub = 1 ∨ x.sub = 2) with d | d | d
    · have E : stepX x ws = ({ tickX x with claim := wordAt ws 2, sub := 1 }, ws, true) := by unfold stepX comeX; rw [if_pos e, if_pos (show (tickX x).sub = 0 from d)]
      rw [E]
      exact ⟨⟨⟨h.ca, h.cb, h.cel, h.th, h.inv, h.few, hP, fun _ => ⟨by show (1 : Nat) ≤ 2; omega, c2, c3, (fun q => by cases q), c6, c7⟩, (fun q => by have q' : x.part = 2 := q; omega), h.p3, hW.at _, h.s, h.v, h.n⟩, by show 0 ≤ x.steps + 1; omega, (fun _ => by show x.steps + 1 = 1; omega), (fun q => by have q' : x.part = 2 := q; omega), (fun q => by have q' : x.part = 3 := q; omega), (fun q => by have q' : x.part = 4 := q; omega)⟩, ⟨rfl, rfl, rfl, rfl, rfl, rfl⟩, rfl, hW, rfl⟩
    · have E : stepX x ws = ({ tickX x with sub := 2 }, ws.set (3 + x.th).toNat (Md.Cv.passV x.claim), true) := by unfold stepX comeX; rw [if_pos e, if_neg (show ¬ (tickX x).sub = 0 by show ¬ x.sub = 0; omega), if_pos (show (tickX x).sub = 1 from d)]; rfl
      rw [E]
      exact ⟨⟨⟨h.ca, h.cb, h.cel, h.th, h.inv, h.few, hP, fun _ => ⟨by show (2 : Nat) ≤ 2; omega, c2, c3, (fun q => by cases q), c6, c7⟩, (fun q => by have q' : x.part = 2 := q; omega), h.p3, h.k, h.s, h.v, h.n⟩, by show 0 ≤ x.steps + 1; omega, (fun _ => by show x.steps + 1 = 2; omega), (fun q => by have q' : x.part = 2 := q; omega), (fun q => by have q' : x.part = 3 := q; omega), (fun q => by have q' : x.part = 4 := q; omega)⟩, ⟨rfl, rfl, rfl, rfl, rfl, rfl⟩, rfl, hW.set _ (pass_in _), by simp⟩
    · have E : stepX x ws = ({ tickX x with stamp := wordAt ws 2, part := 2 }, ws, true) := by unfold stepX comeX; rw [if_pos e, if_neg (show ¬ (tickX x).sub = 0 by show ¬ x.sub = 0; omega), if_neg (show ¬ (tickX x).sub = 1 by show ¬ x.sub = 1; omega)]
      rw [E]
      have hu := h.inv.used
      exact ⟨⟨⟨h.ca, h.cb, h.cel, h.th, h.inv, h.few, by dsimp only; omega, (fun q => by cases q), fun _ => ⟨c6, .inl ⟨c2, c7⟩⟩, (fun q => by rcases q with q | q <;> cases q), h.k, hW.at _, h.v, h.n⟩, by show 0 ≤ x.steps + 1; omega, (fun q => by cases q), fun _ => ⟨fun _ => by show x.steps + 1 ≤ 3 + 4 * x.m.used; omega, fun q => by have q' : 0 ≤ x.cell := q; omega⟩, (fun q => by cases q), (fun q => by cases q)⟩, ⟨rfl, rfl, rfl, rfl, rfl, rfl⟩, rfl, hW, rfl⟩
  · have E : stepX x ws = ((runX (tickX x) ws).1, ws, (runX (tickX x) ws).2) := by unfold stepX; rw [if_neg (by omega), if_neg (by omega)]
    obtain ⟨q1, q2, q3, _⟩ := run_in h e hW
    rw [E]
    exact ⟨q1, q2, q3, hW, rfl⟩
  · have E : stepX x ws = (leaveX (tickX x), ws.set (3 + x.th).toNat 0, true) := by unfold stepX; rw [if_neg (by omega), if_pos e]
    obtain ⟨c1, c2, c3⟩ := h.p3 (.inl e)
    have c4 := h.s3 e
    rw [E]
    exact ⟨⟨⟨h.ca, h.cb, h.cel, h.th, h.inv, h.few, ⟨by show 1 ≤ 4; omega, by show 4 ≤ 4; omega⟩, (fun q => by cases q), (fun q => by cases q), fun _ => ⟨c1, c2, c3⟩, h.k, h.s, h.v, h.n⟩, by show 0 ≤ x.steps + 1; omega, (fun q => by cases q), (fun q => by cases q), (fun q => by cases q), (fun _ => by show x.steps + 1 ≤ 4 * x.m.fuel + 5; omega)⟩, ⟨rfl, rfl, rfl, rfl, rfl, rfl⟩, rfl, hW.set _ ⟨by decide, by decide⟩, by simp⟩
/-- how many steps there are, at most -/
theorem InX.few_steps (h : InX x) : x.steps ≤ 4 * x.m.fuel + 5 ∧ (x.part ≠ 4 → x.steps ≤ 4 * x.m.fuel + 4) := by
  have hP := h.part
  have hu := h.inv.used
  have hf := h.inv.fuel
  rcases (by omega : x.part = 1 ∨ x.part = 2 ∨ x.part = 3 ∨ x.part = 4) with e | e | e | e
  · have := h.s1 e; have := h.p1 e; omega
  · have := h.s2 e; have := h.p2 e; omega
  · have := h.s3 e; omega
  · have := h.s4 e; omega
end
end Go.Proofs.YtninicfnhoediaaGreatDoor.Rr
namespace Go.Proofs.YtninicfnhoediaaGreatDoor.Rr
open Go.ChangeShapes Go.WideShapes Go.ChangeAt Go.RowKit Num

/-! the program's reader: its box, its machine, its coming, its read, its arguments; the memory beside it -/
structure Rz where
  bm : Nat
  K : List Nat
  xc : Nat
  pa : Option Addr
  ca : Nat
def Rz.KK (z : Rz) : List Nat := z.K ++ fpR z.pa
def ptrV (q : Option Nat) : Value := .pointer (q.map fun n => ⟨n, 0, none⟩)
def gX (b : Nat) (z : Rz) (q : Option Nat) (F : List Nat) : List Nat := b :: z.xc :: (q.toList ++ F)
def xboxV (x : Rx) (z : Rz) (q : Option Nat) : Array Value := #[.int .i64 0, .int .i64 1, .int .i64 2, .int .i64 3, .int .i64 (3 + x.b), .int .i64 (3 + x.b + 3 * x.a), .pointer (some ⟨z.bm, 0, none⟩), .int .i64 x.steps, .int .i64 x.tag, .slice z.pa x.args.length z.ca, .int .i64 x.th, .int .i64 (x.part : Int), .pointer (some ⟨z.xc, 0, none⟩), ptrV q]
structure RawAt (w : World) (b : Nat) (x : Rx) (z : Rz) (q : Option Nat) (F : List Nat) (c : Md.Cv.Cs) (r : Md.Ce.Rd) : Prop where
  box : w.heap[b]? = some (.cells (xboxV x z q) 106 (0, 0))
  mac : Mc w z.bm F z.K x.m
  com : Md.Cv.CmAt w z.xc c
  rd : ∀ n, q = some n → Md.Ce.RdAt w n r
  arg : RowAt 71 w z.pa z.ca (fls x.args)
  sf : Sep (b :: z.xc :: q.toList) F
  sk : Sep (b :: z.xc :: q.toList) z.KK
  fa : Sep (fpR z.pa) F
theorem rdAt_keep {w w' : World} {n : Nat} {r : Md.Ce.Rd} (h : Md.Ce.RdAt w n r) (k : w'.heap[n]? = w.heap[n]?) : Md.Ce.RdAt w' n r := Md.Ce.RbAt.keep h k
theorem turn_wide {F F' : List Nat} {w w' : World} (t : Turn F F' w w') (A : List Nat) : Turn (A ++ F) (A ++ F') w w' :=
  ⟨t.os, t.tape, t.output, t.size, fun k hk hn => t.block k hk (fun q => hn (List.mem_append.2 (.inr q))), fun k hk => (List.mem_append.1 hk).elim (fun q => .inl (List.mem_append.2 (.inl q))) (fun q => (t.own k q).imp (fun y => List.mem_append.2 (.inr y)) id)⟩
theorem turn_of {L F : List Nat} {w w' : World} (o1 : w'.os = w.os) (o2 : w'.tape = w.tape) (o3 : w'.output = w.output) (hs : w.heap.size ≤ w'.heap.size) (hL : ∀ k, k ∈ L → k ∈ F) (hb : ∀ k, k < w.heap.size → k ∉ L → w'.heap[k]? = w.heap[k]?) : Turn F F w w' :=
  ⟨o1, o2, o3, hs, fun k hk hn => hb k hk (fun q => hn (hL k q)), fun _ h => .inl h⟩
section
variable {w w' : World} {b : Nat} {x : Rx} {z : Rz} {q : Option Nat} {F : List Nat} {c : Md.Cv.Cs} {r : Md.Ce.Rd}
theorem RawAt.ltB (h : RawAt w b x z q F c r) : b < w.heap.size := lt_of_block h.box
theorem RawAt.blw (h : RawAt w b x z q F c r) : Blw w (gX b z q F) := fun k hk => by
  simp only [gX, List.mem_cons, List.mem_append, Option.mem_toList] at hk
  rcases hk with rfl | rfl | hk | hk
  · exact h.ltB
  · exact h.com.lt
  · exact Md.Ce.RdAt.lt (h.rd k hk)
  · exact h.mac.blw k hk
theorem RawAt.blwK (h : RawAt w b x z q F c r) : Blw w z.KK := fun k hk => by
  rcases List.mem_append.1 hk with hk | hk
  · exact h.mac.blwK k hk
  · exact h.arg.blw k hk
theorem RawAt.sep (h : RawAt w b x z q F c r) : Sep z.KK (gX b z q F) := fun k hk hq => by
  have hX := h.sk.symm k hk
  have hF : k ∉ F := fun q => by
    rcases List.mem_append.1 hk with hk | hk
    · exact h.mac.sepK k hk q
    · exact h.fa k hk q
  simp only [gX, List.mem_cons, List.mem_append] at hq hX
  rcases hq with rfl | rfl | hq | hq
  · exact hX (.inl rfl)
  · exact hX (.inr (.inl rfl))
  · exact hX (.inr (.inr hq))
  · exact hF hq
theorem in_b {b : Nat} {z : Rz} {q : Option Nat} {F : List Nat} : b ∈ gX b z q F := by simp [gX]
theorem in_c {b : Nat} {z : Rz} {q : Option Nat} {F : List Nat} : z.xc ∈ gX b z q F := by simp [gX]
theorem in_q {b n : Nat} {z : Rz} {q : Option Nat} {F : List Nat} (h : q = some n) : n ∈ gX b z q F := by simp [gX, h]
theorem in_F {b k : Nat} {z : Rz} {q : Option Nat} {F : List Nat} (h : k ∈ F) : k ∈ gX b z q F := by simp [gX, h]
theorem RawAt.keep (h : RawAt w b x z q F c r) (k : Kept (gX b z q F) w w') (k2 : Kept z.KK w w') : RawAt w' b x z q F c r :=
  ⟨(k.2 b in_b).trans h.box, h.mac.keep ⟨k.1, fun i hi => k.2 i (in_F hi)⟩ ⟨k.1, fun i hi => k2.2 i (List.mem_append.2 (.inl hi))⟩, h.com.keep (k.2 _ in_c), fun n hn => rdAt_keep (h.rd n hn) (k.2 n (in_q hn)), h.arg.keep ⟨k.1, fun i hi => k2.2 i (List.mem_append.2 (.inr hi))⟩, h.sf, h.sk, h.fa⟩
theorem RawAt.on (h : RawAt w b x z q F c r) (k : Below w.heap.size w w') : RawAt w' b x z q F c r := h.keep (kept_below k h.blw) (kept_below k h.blwK)
theorem RawAt.cell (h : RawAt w b x z q F c r) (j : Nat) : w.cell? ⟨b, j, none⟩ = (xboxV x z q)[j]? := cell_of_row w b j _ _ _ h.box
theorem RawAt.free (h : RawAt w b x z q F c r) (j : Nat) : w.frozen? ⟨b, j, none⟩ = false := frozen_of_row w b j _ _ h.box
theorem RawAt.bc (h : RawAt w b x z q F c r) : b ≠ z.xc := Md.Cv.ne_ty h.box h.com (by decide)
theorem RawAt.bq (h : RawAt w b x z q F c r) {n : Nat} (hn : q = some n) : b ≠ n := Md.Cv.ne_ty h.box (h.rd n hn) (by decide)
theorem RawAt.cq (h : RawAt w b x z q F c r) {n : Nat} (hn : q = some n) : z.xc ≠ n := Md.Cv.ne_ty h.com (h.rd n hn) (by decide)
theorem RawAt.nF (h : RawAt w b x z q F c r) {k : Nat} (hk : k = b ∨ k = z.xc ∨ q = some k) : k ∉ F := h.sf k (by simpa using hk)
theorem RawAt.nK (h : RawAt w b x z q F c r) {k : Nat} (hk : k = b ∨ k = z.xc ∨ q = some k) : k ∉ z.KK := h.sk k (by simpa using hk)
theorem keptB {F : List Nat} {w : World} {b j : Nat} {v : Value} (h : b ∉ F) : Kept F w (w.setCell ⟨b, j, none⟩ v) := ⟨by simp, fun i hi => heap_setCell_other _ _ _ _ (fun (e : i = b) => h (e ▸ hi))⟩
/-- a store into its box -/
theorem RawAt.put (h : RawAt w b x z q F c r) (j : Nat) (v : Value) (x' : Rx) (e : (xboxV x z q).setIfInBounds j v = xboxV x' z q) (hm : x'.m = x.m) (ha : x'.args = x.args) : RawAt (w.setCell ⟨b, j, none⟩ v) b x' z q F c r := by
  have kF : Kept F w (w.setCell ⟨b, j, none⟩ v) := keptB (h.nF (.inl rfl))
  have kK : Kept z.KK w (w.setCell ⟨b, j, none⟩ v) := keptB (h.nK (.inl rfl))
  refine ⟨?_, by rw [hm]; exact h.mac.keep kF ⟨kK.1, fun i hi => kK.2 i (List.mem_append.2 (.inl hi))⟩, h.com.keep (heap_setCell_other _ _ _ _ (fun (e : z.xc = b) => h.bc e.symm)), fun n hn => rdAt_keep (h.rd n hn) (heap_setCell_other _ _ _ _ (fun (e : n = b) => h.bq hn e.symm)), by rw [ha]; exact h.arg.keep ⟨kK.1, fun i hi => kK.2 i (List.mem_append.2 (.inr hi))⟩, h.sf, h.sk, h.fa⟩
  rw [← e]
  exact heap_setCell_same w b j _ _ v h.box
/-- another read is begun, or the one that was is over -/
theorem RawAt.putQ (h : RawAt w b x z q F c r) (q' : Option Nat) (r' : Md.Ce.Rd) (hq : ∀ n, q' = some n → Md.Ce.RdAt w n r' ∧ n ∉ F ∧ n ∉ z.KK) : RawAt (w.setCell ⟨b, 13, none⟩ (ptrV q')) b x z q' F c r' := by
  have kF : Kept F w (w.setCell ⟨b, 13, none⟩ (ptrV q')) := keptB (h.nF (.inl rfl))
  have kK : Kept z.KK w (w.setCell ⟨b, 13, none⟩ (ptrV q')) := keptB (h.nK (.inl rfl))
  have nq : ∀ n, q' = some n → b ≠ n := fun n hn => Md.Cv.ne_ty h.box (hq n hn).1 (by decide)
  refine ⟨?_, h.mac.keep kF ⟨kK.1, fun i hi => kK.2 i (List.mem_append.2 (.inl hi))⟩, h.com.keep (heap_setCell_other _ _ _ _ (fun (e : z.xc = b) => h.bc e.symm)), fun n hn => rdAt_keep (hq n hn).1 (heap_setCell_other _ _ _ _ (fun (e : n = b) => nq n hn e.symm)), h.arg.keep ⟨kK.1, fun i hi => kK.2 i (List.mem_append.2 (.inr hi))⟩, fun k hk => ?_, fun k hk => ?_, h.fa⟩
  · exact heap_setCell_same w b 13 _ _ _ h.box
  · simp only [List.mem_cons, Option.mem_toList] at hk
    rcases hk with hk | hk | hk
    · exact h.nF (.inl hk)
    · exact h.nF (.inr (.inl hk))
    · exact (hq k hk).2.1
  · simp only [List.mem_cons, Option.mem_toList] at hk
    rcases hk with hk | hk | hk
    · exact h.nK (.inl hk)
    · exact h.nK (.inr (.inl hk))
    · exact (hq k hk).2.2
/-- its machine has gone on -/
theorem RawAt.mach (h : RawAt w b x z q F c r) {m' : Mac} (g : Gm w F z.bm z.K w' m') : ∃ F', RawAt w' b { x with m := m' } z q F' c r ∧ Turn F F' w w' := by
  obtain ⟨F', hM, t⟩ := g.mc
  have lX : Blw w (b :: z.xc :: q.toList) := fun k hk => h.blw k (by simp only [gX, List.mem_cons, List.mem_append] at hk ⊢; rcases hk with hk | hk | hk <;> simp [hk])
  have kX : Kept (b :: z.xc :: q.toList) w w' := t.kept h.sf lX
  have kA : Kept (fpR z.pa) w w' := t.kept h.fa h.arg.blw
  exact ⟨F', ⟨(kX.2 b (by simp)).trans h.box, hM, h.com.keep (kX.2 _ (by simp)), fun n hn => rdAt_keep (h.rd n hn) (kX.2 n (by simp [hn])), h.arg.keep kA, h.sf.turn lX t, h.sk, h.fa.turn h.arg.blw t⟩, t⟩
end
/-- a reader and the memory that it goes over, in the midst of what began at W with the blocks G0 -/
def Mid (W : World) (G0 : List Nat) (b : Nat) (z : Rz) (mb mg : Nat) (w : World) (x : Rx) (q : Option Nat) (c : Md.Cv.Cs) (r : Md.Ce.Rd) (ws : List Int) (o : Bool) (n : Int) : Prop :=
  ∃ F, RawAt w b x z q F c r ∧ MemAt 123 w mb mg ws o n ∧ Sep [mb, mg] (gX b z q F) ∧ Sep [mb, mg] z.KK ∧ Turn G0 (mb :: mg :: gX b z q F) W w
section
variable {W w w' : World} {G0 : List Nat} {b mb mg : Nat} {x : Rx} {z : Rz} {q : Option Nat} {c : Md.Cv.Cs} {r : Md.Ce.Rd} {ws : List Int} {o : Bool} {n : Int}
theorem Mid.mem (h : Mid W G0 b z mb mg w x q c r ws o n) : MemAt 123 w mb mg ws o n := by obtain ⟨F, _, h2, _⟩ := h; exact h2
theorem Mid.com (h : Mid W G0 b z mb mg w x q c r ws o n) : Md.Cv.CmAt w z.xc c := by obtain ⟨F, h1, _⟩ := h; exact h1.com
theorem Mid.rd (h : Mid W G0 b z mb mg w x q c r ws o n) {k : Nat} (hk : q = some k) : Md.Ce.RdAt w k r := by obtain ⟨F, h1, _⟩ := h; exact h1.rd k hk
theorem Mid.cell (h : Mid W G0 b z mb mg w x q c r ws o n) (j : Nat) : w.cell? ⟨b, j, none⟩ = (xboxV x z q)[j]? := by obtain ⟨F, h1, _⟩ := h; exact h1.cell j
theorem Mid.free (h : Mid W G0 b z mb mg w x q c r ws o n) (j : Nat) : w.frozen? ⟨b, j, none⟩ = false := by obtain ⟨F, h1, _⟩ := h; exact h1.free j
theorem Mid.ltB (h : Mid W G0 b z mb mg w x q c r ws o n) : b < w.heap.size := by obtain ⟨F, h1, _⟩ := h; exact h1.ltB
theorem Mid.size (h : Mid W G0 b z mb mg w x q c r ws o n) : W.heap.size ≤ w.heap.size := by obtain ⟨F, _, _, _, _, t⟩ := h; exact t.size
theorem Mid.on (h : Mid W G0 b z mb mg w x q c r ws o n) (k : Below w.heap.size w w') : Mid W G0 b z mb mg w' x q c r ws o n := by
  obtain ⟨F, h1, h2, h3, h4, t⟩ := h
  exact ⟨F, h1.on k, h2.on k, h3, h4, t.trans (Below.turn k _)⟩
theorem Mid.alloc (h : Mid W G0 b z mb mg w x q c r ws o n) (y : Obj) : Mid W G0 b z mb mg (w.alloc y) x q c r ws o n := h.on (below_alloc _ y)
theorem Mid.same (h : Mid W G0 b z mb mg w x q c r ws o n) (k : Same w w') : Mid W G0 b z mb mg w' x q c r ws o n := h.on (k.below _)
theorem Mid.drew (h : Mid W G0 b z mb mg w x q c r ws o n) : Mid W G0 b z mb mg w.drew x q c r ws o n := h.same (Same.drew w)
/-- the memory alone has turned -/
theorem Mid.put (h : Mid W G0 b z mb mg w x q c r ws o n) (j : Nat) (v : Value) (x' : Rx) (e : (xboxV x z q).setIfInBounds j v = xboxV x' z q) (hm : x'.m = x.m) (ha : x'.args = x.args) : Mid W G0 b z mb mg (w.setCell ⟨b, j, none⟩ v) x' q c r ws o n := by
  obtain ⟨F, h1, h2, h3, h4, t⟩ := h
  refine ⟨F, h1.put j v x' e hm ha, h2.other (fun e => h3 mb (by simp) (e ▸ in_b)) (fun e => h3 mg (by simp) (e ▸ in_b)) j v, h3, h4, t.trans (turn_of (L := [b]) rfl rfl rfl (by simp) (fun k hk => ?_) fun k _ hn => heap_setCell_other _ _ _ _ (by simpa using hn))⟩
  simp at hk
  subst hk
  simp [gX]
theorem Mid.memb {ws' : List Int} {o' : Bool} {n' : Int} (h : Mid W G0 b z mb mg w x q c r ws o n) (k : Chg mb mg w w') (hm : MemAt 123 w' mb mg ws' o' n') : Mid W G0 b z mb mg w' x q c r ws' o' n' := by
  obtain ⟨F, h1, h2, h3, h4, t⟩ := h
  refine ⟨F, h1.keep ⟨k.size, fun i hi => k.block i (h1.blw i hi) (fun e => h3 mb (by simp) (e ▸ hi)) (fun e => h3 mg (by simp) (e ▸ hi))⟩ ⟨k.size, fun i hi => k.block i (h1.blwK i hi) (fun e => h4 mb (by simp) (e ▸ hi)) (fun e => h4 mg (by simp) (e ▸ hi))⟩, hm, h3, h4, t.trans (turn_of (L := [mb, mg]) k.os k.tape k.output k.size (fun i hi => ?_) fun i hi hn => k.block i hi (fun e => hn (by simp [e])) (fun e => hn (by simp [e])))⟩
  simp only [List.mem_cons, List.not_mem_nil, or_false] at hi
  rcases hi with rfl | rfl <;> simp
/-- the memory and its coming have -/
theorem Mid.comes {ws' : List Int} {o' : Bool} {n' : Int} {c' : Md.Cv.Cs} (h : Mid W G0 b z mb mg w x q c r ws o n) (k : Md.Cv.Ch3 mb mg z.xc w w') (hm : MemAt 123 w' mb mg ws' o' n') (hc : Md.Cv.CmAt w' z.xc c') : Mid W G0 b z mb mg w' x q c' r ws' o' n' := by
  obtain ⟨F, h1, h2, h3, h4, t⟩ := h
  have G : ∀ i, i ∈ gX b z q F → i ≠ z.xc → w'.heap[i]? = w.heap[i]? := fun i hi hn => k.block i (h1.blw i hi) (fun e => h3 mb (by simp) (e ▸ hi)) (fun e => h3 mg (by simp) (e ▸ hi)) hn
  have G2 : ∀ i, i ∈ z.KK → w'.heap[i]? = w.heap[i]? := fun i hi => k.block i (h1.blwK i hi) (fun e => h4 mb (by simp) (e ▸ hi)) (fun e => h4 mg (by simp) (e ▸ hi)) (fun e => h1.nK (.inr (.inl rfl)) (e ▸ hi))
  refine ⟨F, ⟨(G b in_b h1.bc).trans h1.box, h1.mac.keep ⟨k.size, fun i hi => G i (in_F hi) (fun e => h1.nF (.inr (.inl rfl)) (e ▸ hi))⟩ ⟨k.size, fun i hi => G2 i (List.mem_append.2 (.inl hi))⟩, hc, fun i hi => rdAt_keep (h1.rd i hi) (G i (in_q hi) (fun e => h1.cq hi e.symm)), h1.arg.keep ⟨k.size, fun i hi => G2 i (List.mem_append.2 (.inr hi))⟩, h1.sf, h1.sk, h1.fa⟩, hm, h3, h4, t.trans (turn_of (L := [mb, mg, z.xc]) k.os k.tape k.output k.size (fun i hi => ?_) fun i hi hn => k.block i hi (fun e => hn (by simp [e])) (fun e => hn (by simp [e])) (fun e => hn (by simp [e])))⟩
  simp only [List.mem_cons, List.not_mem_nil, or_false] at hi
  rcases hi with rfl | rfl | rfl <;> simp [gX]
/-- the memory and its read have -/
theorem Mid.reads {ws' : List Int} {o' : Bool} {n' : Int} {r' : Md.Ce.Rd} {i0 : Nat} (h : Mid W G0 b z mb mg w x q c r ws o n) (hq : q = some i0) (k : Md.Ce.Ch [mb, mg, i0] w w') (hm : MemAt 123 w' mb mg ws' o' n') (hr : Md.Ce.RdAt w' i0 r') : Mid W G0 b z mb mg w' x q c r' ws' o' n' := by
  obtain ⟨F, h1, h2, h3, h4, t⟩ := h
  have G : ∀ i, i ∈ gX b z q F → i ≠ i0 → w'.heap[i]? = w.heap[i]? := fun i hi hn => k.block i (h1.blw i hi) (fun e => by
    simp only [List.mem_cons, List.not_mem_nil, or_false] at e
    rcases e with e | e | e
    · exact h3 mb (by simp) (e ▸ hi)
    · exact h3 mg (by simp) (e ▸ hi)
    · exact hn e)
  have G2 : ∀ i, i ∈ z.KK → w'.heap[i]? = w.heap[i]? := fun i hi => k.block i (h1.blwK i hi) (fun e => by
    simp only [List.mem_cons, List.not_mem_nil, or_false] at e
    rcases e with e | e | e
    · exact h4 mb (by simp) (e ▸ hi)
    · exact h4 mg (by simp) (e ▸ hi)
    · exact h1.nK (k := i0) (.inr (.inr hq)) (e ▸ hi))
  refine ⟨F, ⟨(G b in_b (h1.bq hq)).trans h1.box, h1.mac.keep ⟨k.size, fun i hi => G i (in_F hi) (fun e => h1.nF (k := i0) (.inr (.inr hq)) (e ▸ hi))⟩ ⟨k.size, fun i hi => G2 i (List.mem_append.2 (.inl hi))⟩, h1.com.keep (G _ in_c (h1.cq hq)), fun i hi => ?_, h1.arg.keep ⟨k.size, fun i hi => G2 i (List.mem_append.2 (.inr hi))⟩, h1.sf, h1.sk, h1.fa⟩, hm, h3, h4, t.trans (turn_of (L := [mb, mg, i0]) k.os k.tape k.output k.size (fun i hi => ?_) fun i hi hn => k.block i hi hn)⟩
  · obtain rfl : i0 = i := by rw [hq] at hi; exact Option.some.inj hi
    exact hr
  · simp only [List.mem_cons, List.not_mem_nil, or_false] at hi
    rcases hi with rfl | rfl | rfl <;> simp [gX, hq]
/-- a read is begun: its object is new -/
theorem Mid.readNew {w1 : World} {r' : Md.Ce.Rd} {i0 : Nat} (h : Mid W G0 b z mb mg w x q c r ws o n) (k : Below w.heap.size w w1) (hi : w.heap.size ≤ i0) (hr : Md.Ce.RdAt w1 i0 r') : Mid W G0 b z mb mg (w1.setCell ⟨b, 13, none⟩ (.pointer (some ⟨i0, 0, none⟩))) x (some i0) c r' ws o n := by
  have hs := h.size
  obtain ⟨F, h1, h2, h3, h4, t⟩ := h
  have nG : i0 ∉ gX b z q F := fun y => absurd (h1.blw i0 y) (Nat.not_lt.2 hi)
  have nK : i0 ∉ z.KK := fun y => absurd (h1.blwK i0 y) (Nat.not_lt.2 hi)
  have g1 := (h1.on k).putQ (some i0) r' (fun n hn => by cases hn; exact ⟨hr, fun y => nG (in_F y), nK⟩)
  have m1 := h2.on k
  have tt : Turn (mb :: mg :: gX b z q F) (mb :: mg :: gX b z q F) w1 (w1.setCell ⟨b, 13, none⟩ (.pointer (some ⟨i0, 0, none⟩))) := ⟨rfl, rfl, rfl, by simp, fun i _ hn => heap_setCell_other _ _ _ _ (fun (e : i = b) => hn (by simp [e, gX])), fun i hy => .inl hy⟩
  refine ⟨F, g1, m1.other (fun e => h3 mb (by simp) (e ▸ in_b)) (fun e => h3 mg (by simp) (e ▸ in_b)) 13 _, fun i hi2 hy => ?_, h4, ((t.trans (Below.turn k _)).trans tt).mono fun i hy => ?_⟩
  · simp only [gX, List.mem_cons, List.mem_append, Option.mem_toList] at hy
    rcases hy with hy | hy | hy | hy
    · exact h3 i hi2 (by simp [gX, hy])
    · exact h3 i hi2 (by simp [gX, hy])
    · have e : i0 = i := by simpa using hy
      have l : i < w.heap.size := by
        simp only [List.mem_cons, List.not_mem_nil, or_false] at hi2
        rcases hi2 with rfl | rfl
        · exact h2.ltB
        · exact h2.ltG
      omega
    · exact h3 i hi2 (by simp [gX, hy])
  · by_cases e : i = i0
    · subst e
      exact .inr (Nat.le_trans hs hi)
    · refine (t.own i ?_)
      simp only [gX, List.mem_cons, List.mem_append, Option.mem_toList] at hy ⊢
      rcases hy with hy | hy | hy | hy | hy | hy
      · simp [hy]
      · simp [hy]
      · simp [hy]
      · simp [hy]
      · exact absurd (by simpa using hy : i0 = i) (fun y => e y.symm)
      · simp [hy]
/-- the read is over -/
theorem Mid.readOver (h : Mid W G0 b z mb mg w x q c r ws o n) : Mid W G0 b z mb mg (w.setCell ⟨b, 13, none⟩ (.pointer none)) x none c r ws o n := by
  obtain ⟨F, h1, h2, h3, h4, t⟩ := h
  have sub : ∀ i, i ∈ gX b z none F → i ∈ gX b z q F := fun i hy => by
    simp only [gX, List.mem_cons, List.mem_append, Option.toList_none, List.not_mem_nil, false_or] at hy ⊢
    rcases hy with hy | hy | hy <;> simp [hy]
  have tt : Turn (mb :: mg :: gX b z q F) (mb :: mg :: gX b z q F) w (w.setCell ⟨b, 13, none⟩ (.pointer none)) := ⟨rfl, rfl, rfl, by simp, fun i _ hn => heap_setCell_other _ _ _ _ (fun (e : i = b) => hn (by simp [e, gX])), fun i hy => .inl hy⟩
  refine ⟨F, h1.putQ none r (fun n hn => by cases hn), h2.other (fun e => h3 mb (by simp) (e ▸ in_b)) (fun e => h3 mg (by simp) (e ▸ in_b)) 13 _, fun i hi hy => h3 i hi (sub i hy), h4, (t.trans tt).mono fun i hy => t.own i ?_⟩
  simp only [List.mem_cons] at hy ⊢
  exact hy.imp id (Or.imp id (sub i))
/-- its machine: what it may do, and what is then -/
theorem Mid.mach (h : Mid W G0 b z mb mg w x q c r ws o n) : ∃ F, Gm w F z.bm z.K w x.m ∧ (TabAt W G0 → TabAt w F) ∧ ∀ w' m', Gm w F z.bm z.K w' m' → Mid W G0 b z mb mg w' { x with m := m' } q c r ws o n := by
  obtain ⟨F, h1, h2, h3, h4, t⟩ := h
  refine ⟨F, h1.mac.gm, fun hT => ?_, fun w' m' g => ?_⟩
  · have := hT.turn t
    exact ⟨this.1, fun y => this.2 (by simp [gX, y])⟩
  · obtain ⟨F', g1, tF⟩ := h1.mach g
    have nm : ∀ i, i ∈ [mb, mg] → i ∉ F := fun i hi y => h3 i hi (in_F y)
    have lX : Blw w (mb :: mg :: b :: z.xc :: q.toList) := fun k hk => by
      simp only [List.mem_cons, Option.mem_toList] at hk
      rcases hk with rfl | rfl | hk | hk | hk
      · exact h2.ltB
      · exact h2.ltG
      · exact h1.blw k (by simp [gX, hk])
      · exact h1.blw k (by simp [gX, hk])
      · exact h1.blw k (in_q hk)
    have sp : Sep [mb, mg] F' := Sep.turn (fun i hi y => nm i hi y) (fun k hk => lX k (by simp only [List.mem_cons, List.not_mem_nil, or_false] at hk; rcases hk with hk | hk <;> simp [hk])) tF
    refine ⟨F', g1, h2.keep (tF.block mb h2.ltB (nm mb (by simp))) (tF.block mg h2.ltG (nm mg (by simp))), fun i hi hy => ?_, h4, t.trans ?_⟩
    · simp only [gX, List.mem_cons, List.mem_append] at hy
      rcases hy with hy | hy | hy | hy
      · exact h3 i hi (by simp [gX, hy])
      · exact h3 i hi (by simp [gX, hy])
      · exact h3 i hi (by simp [gX]; simp at hy; simp [hy])
      · exact sp i hi hy
    · have := turn_wide tF (mb :: mg :: b :: z.xc :: q.toList)
      simpa [gX] using this
end
end Go.Proofs.YtninicfnhoediaaGreatDoor.Rr
namespace Go.Proofs.YtninicfnhoediaaGreatDoor.Rr
open Go.ChangeShapes Go.WideShapes Go.ChangeAt Go.RowKit Num

/-! its coming and its read, as the numbers have them -/
def comN (x : Rx) : Int := if x.part = 1 then (x.sub : Int) else 3
def comC (x : Rx) : Md.Cv.Cs := ⟨2, 3, x.th, comN x, x.claim, x.stamp⟩
structure RdLike (x : Rx) (r : Md.Ce.Rd) : Prop where
  p : r.p = 3 + x.b
  c : r.c = x.cell
  s : r.s = x.stamp
  k : r.k = x.sub
  v : x.sub = 1 ∨ x.sub = 2 → r.v = x.ver
  x : x.sub = 2 → r.x = fixB x.now.toNat
def RdOk (x : Rx) (q : Option Nat) (r : Md.Ce.Rd) : Prop := (q = none ∧ x.cell < 0) ∨ ((∃ i, q = some i) ∧ 0 ≤ x.cell ∧ RdLike x r)
section
variable {x : Rx} {ws : List Int}
theorem hasB_of {ws : List Int} {i : Int} (h : 0 ≤ i) (k : i < (ws.length : Int)) : hasB ws i = true := decide_eq_true ⟨h, k⟩
theorem errA_of {ws : List Int} {i : Int} (h : 0 ≤ i) (k : i < (ws.length : Int)) : errA ws true i = 0 := by unfold errA; rw [hasB_of h k]; rfl
theorem com_ok (hI : In0 x) : Md.Cv.COk (comC x) := by
  refine ⟨?_, fun h => ?_, fun h => ?_⟩
  · show comN x = 0 ∨ comN x = 1 ∨ comN x = 2 ∨ comN x = 3
    unfold comN
    by_cases e : x.part = 1
    · have := (hI.p1 e).1
      rw [if_pos e]
      omega
    · rw [if_neg e]; omega
  · have h' : comN x = 0 := h
    unfold comN at h'
    by_cases e : x.part = 1
    · rw [if_pos e] at h'
      exact (hI.p1 e).2.2.2.1 (by omega)
    · rw [if_neg e] at h'; omega
  · have h' : comN x ≠ 3 := h
    unfold comN at h'
    by_cases e : x.part = 1
    · exact (hI.p1 e).2.2.1
    · rw [if_neg e] at h'; exact absurd rfl h'
/-- a step of its coming, both ways told -/
theorem com_step (hI : In0 x) (hp : x.part = 1) (hl : plW x ≤ (ws.length : Int)) (n : Int) : Md.Cv.cE (comC x) ws true = 0 ∧ Md.Cv.cO (comC x) ws true = decide (x.sub = 2) ∧ Md.Cv.cW (comC x) ws true = (comeX x ws).2 ∧ Md.Cv.cP (comC x) ws true = false ∧ Md.Cv.cQ (comC x) ws true n = up n ∧ Md.Cv.cC (comC x) ws true = comC (comeX x ws).1 := by
  have hs := (hI.p1 hp).1
  have ht := hI.th
  have hb := hI.cb
  have ha := hI.ca
  have hN : (comC x).N = (x.sub : Int) := by show comN x = _; unfold comN; rw [if_pos hp]
  have hpl : Md.Cv.plc 3 x.th = 3 + x.th := by unfold Md.Cv.plc; rw [if_pos (by omega)]
  unfold plW at hl
  have hE : Md.Cv.cE (comC x) ws true = 0 := by
    unfold Md.Cv.cE
    rw [if_neg (by rw [hN]; omega), show Md.Cv.may8 (comC x).T = true from decide_eq_true (by show 0 ≤ x.th ∧ x.th < 8; omega), if_pos rfl]
    unfold Md.Cv.cI
    split
    · show errA ws true (Md.Cv.plc 3 x.th) = 0
      rw [hpl]
      exact errA_of (by omega) (by omega)
    · exact errA_of (by show (0 : Int) ≤ 2; omega) (by show (2 : Int) < _; omega)
  refine ⟨hE, ?_, ?_, ?_, ?_, ?_⟩
  · unfold Md.Cv.cO
    rw [hE, hN]
    simp
    omega
  · unfold Md.Cv.cW comeX
    rw [if_pos hE, hN]
    rcases (by omega : x.sub = 0 ∨ x.sub = 1 ∨ x.sub = 2) with d | d | d
    · rw [if_neg (by omega), if_pos d]
    · rw [if_pos (by omega), if_neg (by omega), if_pos d]
      show ws.set (Md.Cv.plc 3 x.th).toNat _ = _
      rw [hpl]
      rfl
    · rw [if_neg (by omega), if_neg (by omega), if_neg (by omega)]
  · unfold Md.Cv.cP; rw [if_pos hE]
  · unfold Md.Cv.cQ; rw [if_pos hE]
  · unfold Md.Cv.cC comeX
    rw [if_pos hE, hN]
    rcases (by omega : x.sub = 0 ∨ x.sub = 1 ∨ x.sub = 2) with d | d | d
    · rw [if_pos (by omega), if_neg (by omega), if_pos d]
      simp [comC, comN, hp, d]
    · rw [if_neg (by omega), if_neg (by omega), if_neg (by omega), if_pos d]
      simp [comC, comN, hp, d]
    · rw [if_neg (by omega), if_pos (by omega), if_neg (by omega), if_neg (by omega)]
      simp [comC, comN, d]
theorem come_box (x : Rx) (ws : List Int) : (comeX x ws).1.m = x.m ∧ (comeX x ws).1.args = x.args ∧ (comeX x ws).1.a = x.a ∧ (comeX x ws).1.b = x.b ∧ (comeX x ws).1.th = x.th ∧ (comeX x ws).1.tag = x.tag ∧ (comeX x ws).1.steps = x.steps ∧ (comeX x ws).1.cell = x.cell ∧ (x.sub = 0 ∨ x.sub = 1 → (comeX x ws).1.part = x.part) ∧ (x.sub = 2 → (comeX x ws).1.part = 2) := by
  unfold comeX
  split
  · exact ⟨rfl, rfl, rfl, rfl, rfl, rfl, rfl, rfl, fun _ => rfl, fun h => by omega⟩
  · split
    · exact ⟨rfl, rfl, rfl, rfl, rfl, rfl, rfl, rfl, fun _ => rfl, fun h => by omega⟩
    · exact ⟨rfl, rfl, rfl, rfl, rfl, rfl, rfl, rfl, fun h => by omega, fun h => rfl⟩
/-- a step of its read -/
theorem read_rel {r : Md.Ce.Rd} (ha : 1 ≤ x.a ∧ x.a ≤ 256) (hb : 1 ≤ x.b ∧ x.b ≤ 8) (hn : u64B x.now) (h : RdLike x r) (hc : 0 ≤ x.cell) (hca : x.cell < x.a) (hs : x.sub ≤ 3) (hl : plW x ≤ (ws.length : Int)) (hW : okW ws) : Md.Ce.errR r ws true = 0 ∧
    (((readX x ws).cell = -1 ∧ Md.Ce.endR r ws true = true ∧ (readX x ws).m = giveM x.m (Md.Ce.stepR r ws true).y ∧ (Md.Ce.stepR r ws true).y < 18446744073709551616) ∨ ((readX x ws).cell = x.cell ∧ Md.Ce.endR r ws true = false ∧ (readX x ws).m = x.m ∧ RdLike (readX x ws) (Md.Ce.stepR r ws true))) := by
  have hk : r.k = x.sub := h.k
  unfold plW at hl
  have P : ∀ j : Int, Md.Ce.placeI r.p r.c j = atW x j := fun j => by
    rw [h.p, h.c]; unfold Md.Ce.placeI atW; rw [if_pos (by omega)]
  have hw := Md.Ce.wrd_in r.k
  have A : Md.Ce.errR r ws true = 0 := by
    unfold Md.Ce.errR Md.Ce.errC
    rw [if_pos (by omega), show Md.Ce.mayC r.c = true from decide_eq_true (by rw [h.c]; omega), if_pos rfl, P]
    unfold atW
    exact errA_of (by omega) (by omega)
  have S : Md.Ce.stepR r ws true = Md.Ce.nxt r (wordAt ws (atW x (Md.Ce.wrd x.sub))) := by
    unfold Md.Ce.stepR Md.Ce.wordC
    rw [if_pos A, P, hk]
  refine ⟨A, ?_⟩
  unfold Md.Ce.endR
  rw [A, S]
  rcases (by omega : x.sub = 0 ∨ x.sub = 1 ∨ x.sub = 2 ∨ x.sub = 3) with d | d | d | d
  · have W0 : Md.Ce.wrd x.sub = 0 := by rw [d]; rfl
    rw [W0]
    generalize hu : wordAt ws (atW x 0) = u
    have N : Md.Ce.nxt r u = { r with v := u, k := (if x.stamp < u then 3 else 1), n := up r.n } := by unfold Md.Ce.nxt Md.Ce.nx0; rw [if_pos (by omega), h.s]
    have R : readX x ws = { x with ver := u, sub := if x.stamp < u then 3 else 1 } := by unfold readX; rw [if_pos d, hu]
    rw [N, R]
    have k4 : ¬ 4 ≤ (if x.stamp < u then 3 else 1 : Nat) := by split <;> omega
    exact .inr ⟨rfl, by simp [k4], rfl, ⟨h.p, h.c, h.s, rfl, fun _ => rfl, fun e => by dsimp only at e; split at e <;> omega⟩⟩
  · have W1 : Md.Ce.wrd x.sub = 1 := by rw [d]; rfl
    rw [W1]
    generalize hu : wordAt ws (atW x 1) = u
    have N : Md.Ce.nxt r u = { r with x := fixB u.toNat, k := 2, n := up r.n } := by unfold Md.Ce.nxt Md.Ce.nx0; rw [if_neg (by omega), if_pos (by omega)]
    have R : readX x ws = { x with now := u, sub := 2 } := by unfold readX; rw [if_neg (by omega), if_pos d, hu]
    rw [N, R]
    exact .inr ⟨rfl, by simp, rfl, ⟨h.p, h.c, h.s, rfl, fun _ => h.v (.inl d), fun _ => rfl⟩⟩
  · have W2 : Md.Ce.wrd x.sub = 0 := by rw [d]; rfl
    rw [W2]
    generalize hu : wordAt ws (atW x 0) = u
    have hv := h.v (.inr d)
    by_cases e : u = x.ver
    · have N : Md.Ce.nxt r u = { r with y := r.x, k := 4, n := up r.n } := by unfold Md.Ce.nxt Md.Ce.nx0; rw [if_neg (by omega), if_neg (by omega), if_pos (by omega), if_pos (e.trans hv.symm)]
      have R : readX x ws = { x with m := giveM x.m (fixB x.now.toNat), cell := -1, sub := 3 } := by unfold readX; rw [if_neg (by omega), if_neg (by omega), if_pos d, hu, if_pos e]
      rw [N, R]
      exact .inl ⟨rfl, by simp, by rw [h.x d], by show r.x < _; rw [h.x d]; exact fix_lt _ hn⟩
    · have N : Md.Ce.nxt r u = { r with t := true, k := 3, n := up r.n } := by unfold Md.Ce.nxt Md.Ce.nx0; rw [if_neg (by omega), if_neg (by omega), if_pos (by omega), if_neg (fun y => e (y.trans hv))]
      have R : readX x ws = { x with sub := 3 } := by unfold readX; rw [if_neg (by omega), if_neg (by omega), if_pos d, hu, if_neg e]
      rw [N, R]
      exact .inr ⟨rfl, by simp, rfl, ⟨h.p, h.c, h.s, rfl, fun y => by dsimp only at y; omega, fun y => by dsimp only at y; omega⟩⟩
  · have W3 : Md.Ce.wrd x.sub = 2 := by rw [d]; rfl
    rw [W3]
    have hu64 := hW.at (atW x 2)
    generalize hu : wordAt ws (atW x 2) = u at hu64 ⊢
    have N : Md.Ce.nxt r u = { r with y := fixB u.toNat, k := 4, n := up r.n } := by unfold Md.Ce.nxt Md.Ce.nx0; rw [if_neg (by omega), if_neg (by omega), if_neg (by omega)]
    have R : readX x ws = { x with m := giveM x.m (fixB u.toNat), cell := -1 } := by unfold readX; rw [if_neg (by omega), if_neg (by omega), if_neg (by omega), hu]
    rw [N, R]
    exact .inl ⟨rfl, by simp, rfl, fix_lt _ hu64⟩
end
end Go.Proofs.YtninicfnhoediaaGreatDoor.Rr
namespace Go.Proofs.YtninicfnhoediaaGreatDoor.Rr
open Go.ChangeShapes Go.WideShapes Go.ChangeAt Go.RowKit Num
section
variable {W w : World} {G0 : List Nat} {b mb mg : Nat} {x : Rx} {z : Rz} {q : Option Nat} {c : Md.Cv.Cs} {r : Md.Ce.Rd} {ws : List Int} {o : Bool} {n : Int}
theorem over_any (h : Mid W G0 b z mb mg w x q c r ws o n) : Calls Tryz.prog 40 #[.pointer (some ⟨b, 0, none⟩)] w fun e w' => e = .returned (.bool (decide ((x.part : Int) = 4))) ∧ w' = w := by
  have h11 : w.cell? ⟨b, 11, none⟩ = some (.int .i64 (x.part : Int)) := (h.cell 11).trans rfl
  have hb := h.ltB
  clear h
  go_enter Tryz.func40, Tryz.ntmps40
  go_wp2
  go_ret
  exact ⟨rfl, rfl⟩
theorem fits_any (h : Mid W G0 b z mb mg w x q c r ws o n) : Calls Tryz.prog 39 #[.pointer (some ⟨b, 0, none⟩), .pointer (some ⟨mb, 0, none⟩)] w fun e w' => e = .returned (.bool (decide (plW x ≤ (ws.length : Int)))) ∧ Same w w' := by
  have h5 : w.cell? ⟨b, 5, none⟩ = some (.int .i64 (plW x)) := (h.cell 5).trans rfl
  have hb := h.ltB
  have HL := Lib.hid (Md.len_any h.drew.mem)
  generalize plW x = pl at h5 ⊢
  clear h
  go_enter Tryz.func39, Tryz.ntmps39
  go_wp2_with fail
  refine wp_region_seq (fun u => u.cell? ⟨b, 5, none⟩ = some (.int .i64 pl) )  ((0, true) :: (2, true) :: (3, true) :: (4, true) :: (5, true) :: (6, true) :: (1, false) :: (7, true) :: (8, true) :: [])  Md.Cv.follows13 (by kernel_rfl) (fun _ _ _ _ _ h => h)  h5 ?_
  (repeat (first | (refine wpSeq_take (v := ?_) rfl (by rfl) (fun wq hSq => ?_) ?_; rotate_left; (focus ((try dsimp only at hSq); go_simp; try with_reducible rfl)); simp only [Act.put, List.setIfInBounds_toArray, List.set_cons_zero, List.set_cons_succ]) | (refine wpSeq_skip rfl (by rfl) ?_; simp only [Act.put, List.setIfInBounds_toArray, List.set_cons_zero, List.set_cons_succ])))
  (refine wpSeq_do rfl (by rfl) (fun KK hK => ?_); go_simp)
  refine HL.out.mono ?_
  rintro e w1 ⟨rfl, hw⟩
  subst w1
  refine hK.out _ _ h5 ?_
  (clear hK KK; try simp only [Act.put, List.setIfInBounds_toArray, List.set_cons_zero, List.set_cons_succ])
  (repeat (first | (refine wpSeq_take (v := ?_) rfl (by rfl) (fun wq hSq => ?_) ?_; rotate_left; (focus ((try dsimp only at hSq); go_simp; try with_reducible rfl)); simp only [Act.put, List.setIfInBounds_toArray, List.set_cons_zero, List.set_cons_succ]) | (refine wpSeq_skip rfl (by rfl) ?_; simp only [Act.put, List.setIfInBounds_toArray, List.set_cons_zero, List.set_cons_succ])))
  refine wpSeq_nil ?_
  go_wp2_with fail
  go_ret
  exact ⟨rfl, Same.drew _⟩
theorem open_any (h : Mid W G0 b z mb mg w x q c r ws o n) (h0 : 0 ≤ x.steps) (h1 : x.steps ≤ 100000) : Calls Tryz.prog 41 #[.pointer (some ⟨b, 0, none⟩), .pointer (some ⟨mb, 0, none⟩)] w fun e w' => e = .returned (.tuple #[]) ∧ Mid W G0 b z mb mg w' (tickX x) q c r ws true n := by
  have HL := Lib.hid (Md.open_any h.mem)
  have HD : Hid (∀ w', MemAt 123 w' mb mg ws true n → Chg mb mg w w' → Mid W G0 b z mb mg w' x q c r ws true n) := fun w' k1 k2 => h.memb k2 k1
  have HP : Hid (∀ w', Mid W G0 b z mb mg w' x q c r ws true n → Mid W G0 b z mb mg (w'.setCell ⟨b, 7, none⟩ (.int .i64 (x.steps + 1))) (tickX x) q c r ws true n) := fun w' k => k.put 7 _ (tickX x) rfl rfl rfl
  clear h
  go_enter Tryz.func41, Tryz.ntmps41
  go_wp2_with (go_at_call 81; refine HL.out.mono ?_; rintro e w1 ⟨rfl, k1, k2⟩; have HQ := Lib.hid (HD.out _ k1 k2); have e7 : w1.cell? ⟨b, 7, none⟩ = some (.int .i64 x.steps) := (HQ.out.cell 7).trans rfl; have f7 := HQ.out.free 7; have lb := HQ.out.ltB; clear k1 k2 HL HD)
  go_end0
  exact ⟨rfl, HP.out _ HQ.out⟩
set_option maxRecDepth 100000 in
theorem come_any (h : Mid W G0 b z mb mg w x q (comC x) r ws true n) (hI : In0 x) (hp : x.part = 1) (hl : plW x ≤ (ws.length : Int)) : Calls Tryz.prog 42 #[.pointer (some ⟨b, 0, none⟩), .pointer (some ⟨mb, 0, none⟩)] w fun e w' => e = .returned (.tuple #[]) ∧ Mid W G0 b z mb mg w' (comeX x ws).1 q (comC (comeX x ws).1) r (comeX x ws).2 false (up n) := by
  obtain ⟨f1, f2, f3, f4, f5, f6⟩ := com_step hI hp hl n
  have HS := Lib.hid (Md.Cv.cstep_any h.mem h.com (com_ok hI))
  rw [f1, f2, f3, f4, f5, f6] at HS
  have hs2 := (hI.p1 hp).1
  obtain ⟨g1, g2, g3, g4, g5, g6, g7, g8, g9, g10⟩ := come_box x ws
  have h12 : w.cell? ⟨b, 12, none⟩ = some (.pointer (some ⟨z.xc, 0, none⟩)) := (h.cell 12).trans rfl
  have hb := h.ltB
  have HD : Hid (∀ w', MemAt 123 w' mb mg (comeX x ws).2 false (up n) → Md.Cv.CmAt w' z.xc (comC (comeX x ws).1) → Md.Cv.Ch3 mb mg z.xc w w' → Mid W G0 b z mb mg w' x q (comC (comeX x ws).1) r (comeX x ws).2 false (up n)) := fun w' k1 k2 k3 => h.comes k3 k1 k2
  by_cases d : x.sub = 2
  · have HP : Hid (∀ w', Mid W G0 b z mb mg w' x q (comC (comeX x ws).1) r (comeX x ws).2 false (up n) → Mid W G0 b z mb mg (w'.setCell ⟨b, 11, none⟩ (.int .i64 2)) (comeX x ws).1 q (comC (comeX x ws).1) r (comeX x ws).2 false (up n)) := fun w' k => k.put 11 _ _ (by unfold xboxV; rw [g2, g3, g4, g5, g6, g7, g10 d]; rfl) g1 g2
    rw [decide_eq_true d] at HS
    clear h f1 f2 f3 f4 f5 f6 g1 g2 g3 g4 g5 g6 g7 g8 g9 g10
    go_enter Tryz.func42, Tryz.ntmps42
    go_wp2_with (go_at_call 82; refine HS.out.mono ?_; rintro e w1 ⟨rfl, k1, k2, k3⟩; have HQ := Lib.hid (HD.out _ k1 k2 k3); have e11 : w1.cell? ⟨b, 11, none⟩ = some (.int .i64 (x.part : Int)) := (HQ.out.cell 11).trans rfl; have f11 := HQ.out.free 11; have lb := HQ.out.ltB; clear k1 k2 k3 HS HD)
    go_end0
    exact ⟨rfl, HP.out _ HQ.out⟩
  · have HP : Hid (∀ w', Mid W G0 b z mb mg w' x q (comC (comeX x ws).1) r (comeX x ws).2 false (up n) → Mid W G0 b z mb mg w' (comeX x ws).1 q (comC (comeX x ws).1) r (comeX x ws).2 false (up n)) := fun w' k => by
      obtain ⟨F, k1, k2⟩ := k
      exact ⟨F, ⟨by have := k1.box; unfold xboxV at this ⊢; rw [g2, g3, g4, g5, g6, g7, g9 (by omega)]; exact this, by rw [g1]; exact k1.mac, k1.com, k1.rd, by rw [g2]; exact k1.arg, k1.sf, k1.sk, k1.fa⟩, k2⟩
    rw [decide_eq_false d] at HS
    clear h f1 f2 f3 f4 f5 f6 g1 g2 g3 g4 g5 g6 g7 g8 g9 g10
    go_enter Tryz.func42, Tryz.ntmps42
    go_wp2_with (go_at_call 82; refine HS.out.mono ?_; rintro e w1 ⟨rfl, k1, k2, k3⟩; have HQ := Lib.hid (HD.out _ k1 k2 k3); clear k1 k2 k3 HS HD)
    go_end0
    exact ⟨rfl, HP.out _ HQ.out⟩
set_option maxRecDepth 100000 in
theorem leave_any (h : Mid W G0 b z mb mg w x q c r ws true n) (hI : In0 x) (hl : plW x ≤ (ws.length : Int)) : Calls Tryz.prog 44 #[.pointer (some ⟨b, 0, none⟩), .pointer (some ⟨mb, 0, none⟩)] w fun e w' => e = .returned (.tuple #[]) ∧ Mid W G0 b z mb mg w' (leaveX x) q c r (ws.set (3 + x.th).toNat 0) false (up n) := by
  have ht := hI.th
  have hb8 := hI.cb
  have ha := hI.ca
  have hm8 : Md.Cv.may8 x.th = true := decide_eq_true (by omega)
  have hpl : Md.Cv.plc 3 x.th = 3 + x.th := by unfold Md.Cv.plc; rw [if_pos (by omega)]
  unfold plW at hl
  have hE : errA ws true (3 + x.th) = 0 := errA_of (by omega) (by omega)
  obtain ⟨f1, f2, f3, _⟩ := Md.Cv.ok_facts hE
  have HL := Lib.hid (Md.Cv.leave_any h.drew.mem 0 1 2 3 (3 + x.b) (3 + x.b + 3 * x.a) x.th)
  unfold Md.Cv.lE Md.Cv.lW Md.Cv.lO Md.Cv.lC Md.Cv.plnV at HL
  rw [hm8, if_pos rfl, if_pos rfl, if_pos rfl, if_pos rfl, hpl, hE, f1, f2, f3] at HL
  have h0 : w.cell? ⟨b, 0, none⟩ = some (.int .i64 0) := (h.cell 0).trans rfl
  have h1 : w.cell? ⟨b, 1, none⟩ = some (.int .i64 1) := (h.cell 1).trans rfl
  have h2 : w.cell? ⟨b, 2, none⟩ = some (.int .i64 2) := (h.cell 2).trans rfl
  have h3 : w.cell? ⟨b, 3, none⟩ = some (.int .i64 3) := (h.cell 3).trans rfl
  have h4 : w.cell? ⟨b, 4, none⟩ = some (.int .i64 (3 + x.b)) := (h.cell 4).trans rfl
  have h5 : w.cell? ⟨b, 5, none⟩ = some (.int .i64 (3 + x.b + 3 * x.a)) := (h.cell 5).trans rfl
  have h10 : w.cell? ⟨b, 10, none⟩ = some (.int .i64 x.th) := (h.cell 10).trans rfl
  have hb := h.ltB
  have HD : Hid (∀ w', MemAt 123 w' mb mg (ws.set (3 + x.th).toNat 0) false (up n) → Chg mb mg w.drew w' → Mid W G0 b z mb mg w' x q c r (ws.set (3 + x.th).toNat 0) false (up n)) := fun w' k1 k2 => h.drew.memb k2 k1
  have HP : Hid (∀ w', Mid W G0 b z mb mg w' x q c r (ws.set (3 + x.th).toNat 0) false (up n) → Mid W G0 b z mb mg (w'.setCell ⟨b, 11, none⟩ (.int .i64 4)) (leaveX x) q c r (ws.set (3 + x.th).toNat 0) false (up n)) := fun w' k => k.put 11 _ (leaveX x) rfl rfl rfl
  clear h f1 f2 f3 hm8 hpl hE hl
  have HE4 : Hid (∀ w', Mid W G0 b z mb mg w' x q c r (ws.set (3 + x.th).toNat 0) false (up n) → w'.cell? ⟨b, 4, none⟩ = some (.int .i64 (3 + x.b))) := fun w' k => (k.cell 4).trans rfl
  have HE5 : Hid (∀ w', Mid W G0 b z mb mg w' x q c r (ws.set (3 + x.th).toNat 0) false (up n) → w'.cell? ⟨b, 5, none⟩ = some (.int .i64 (3 + x.b + 3 * x.a))) := fun w' k => (k.cell 5).trans rfl
  generalize 3 + x.b + 3 * x.a = p5 at *
  generalize 3 + x.b = p4 at *
  go_enter Tryz.func44, Tryz.ntmps44
  go_wp2_with fail
  refine wp_region_seq (fun u => u.cell? ⟨b, 0, none⟩ = some (.int .i64 0) ∧ u.cell? ⟨b, 1, none⟩ = some (.int .i64 1) ∧ u.cell? ⟨b, 2, none⟩ = some (.int .i64 2) ∧ u.cell? ⟨b, 3, none⟩ = some (.int .i64 3) ∧ u.cell? ⟨b, 4, none⟩ = some (.int .i64 p4) ∧ u.cell? ⟨b, 5, none⟩ = some (.int .i64 p5) ∧ u.cell? ⟨b, 10, none⟩ = some (.int .i64 x.th) )  ((0, true) :: (1, true) :: (2, true) :: (3, true) :: (4, true) :: (5, true) :: (6, true) :: (7, true) :: (8, true) :: (9, true) :: (10, false) :: [])  Md.Cv.follows13 (by kernel_rfl) (fun _ _ _ _ _ h => h)  ⟨h0, h1, h2, h3, h4, h5, h10⟩ ?_
  (repeat (first | (refine wpSeq_take (v := ?_) rfl (by rfl) (fun wq hSq => ?_) ?_; rotate_left; (focus ((try dsimp only at hSq); go_simp; try with_reducible rfl)); simp only [Act.put, List.setIfInBounds_toArray, List.set_cons_zero, List.set_cons_succ]) | (refine wpSeq_skip rfl (by rfl) ?_; simp only [Act.put, List.setIfInBounds_toArray, List.set_cons_zero, List.set_cons_succ])))
  (refine wpSeq_do rfl (by rfl) (fun KK hK => ?_); go_simp)
  refine HL.out.mono ?_
  rintro e w1 ⟨rfl, k1, k2⟩
  have HQ := Lib.hid (HD.out _ k1 k2)
  have e11 : w1.cell? ⟨b, 11, none⟩ = some (.int .i64 (x.part : Int)) := (HQ.out.cell 11).trans rfl
  have f11 := HQ.out.free 11
  have lb := HQ.out.ltB
  clear k1 k2 HL HD
  refine hK.out _ _ ⟨(HQ.out.cell 0).trans rfl, (HQ.out.cell 1).trans rfl, (HQ.out.cell 2).trans rfl, (HQ.out.cell 3).trans rfl, HE4.out _ HQ.out, HE5.out _ HQ.out, (HQ.out.cell 10).trans rfl⟩ ?_
  (clear hK KK; try simp only [Act.put, List.setIfInBounds_toArray, List.set_cons_zero, List.set_cons_succ])
  refine wpSeq_nil ?_
  go_wp2_with fail
  go_end0
  exact ⟨rfl, HP.out _ HQ.out⟩
end
end Go.Proofs.YtninicfnhoediaaGreatDoor.Rr
namespace Go.Proofs.YtninicfnhoediaaGreatDoor.Rr
open Go.ChangeShapes Go.WideShapes Go.ChangeAt Go.RowKit Num
attribute [local go_sem] run_store_float
section
variable {W w : World} {G0 : List Nat} {b mb mg : Nat} {x : Rx} {z : Rz} {q : Option Nat} {c : Md.Cv.Cs} {r : Md.Ce.Rd} {ws : List Int} {o : Bool} {n : Int}
/-- the cells of its box that nobody changes -/
theorem Mid.plan (h : Mid W G0 b z mb mg w x q c r ws o n) {p4 p5 : Int} (h4 : 3 + x.b = p4) (h5 : 3 + x.b + 3 * x.a = p5) : (w.cell? ⟨b, 0, none⟩ = some (.int .i64 0) ∧ w.cell? ⟨b, 1, none⟩ = some (.int .i64 1) ∧ w.cell? ⟨b, 2, none⟩ = some (.int .i64 2) ∧ w.cell? ⟨b, 3, none⟩ = some (.int .i64 3) ∧ w.cell? ⟨b, 4, none⟩ = some (.int .i64 p4) ∧ w.cell? ⟨b, 5, none⟩ = some (.int .i64 p5)) ∧ w.cell? ⟨b, 6, none⟩ = some (.pointer (some ⟨z.bm, 0, none⟩)) ∧ w.cell? ⟨b, 12, none⟩ = some (.pointer (some ⟨z.xc, 0, none⟩)) ∧ w.cell? ⟨b, 13, none⟩ = some (ptrV q) ∧ b < w.heap.size ∧ w.frozen? ⟨b, 13, none⟩ = false := by
  subst h4 h5
  exact ⟨⟨(h.cell 0).trans rfl, (h.cell 1).trans rfl, (h.cell 2).trans rfl, (h.cell 3).trans rfl, (h.cell 4).trans rfl, (h.cell 5).trans rfl⟩, (h.cell 6).trans rfl, (h.cell 12).trans rfl, (h.cell 13).trans rfl, h.ltB, h.free 13⟩
theorem Mid.step (h : Mid W G0 b z mb mg w x q c r ws o n) (hT : TabAt W G0) (hI : Inv x.m) {M : Mac} {A : Ask} (hM : (stepM x.m).1 = M) (hA : (stepM x.m).2 = A) : Calls Tryz.prog 104 #[.pointer (some ⟨z.bm, 0, none⟩)] w fun e w' => e = .returned (.agg #[.int .i64 A.kind, .int .i64 A.cell, .float .f64 A.x, .bool A.first]) ∧ Mid W G0 b z mb mg w' { x with m := M } q c r ws o n := by
  obtain ⟨F, g, tb, go⟩ := h.mach
  subst hM hA
  refine (step_any g (tb hT) hI).mono ?_
  rintro e w' ⟨rfl, k⟩
  exact ⟨rfl, go _ _ k⟩
theorem Mid.give (h : Mid W G0 b z mb mg w x q c r ws o n) (hI : Inv x.m) (y : Nat) {M : Mac} (hM : giveM x.m y = M) : Calls Tryz.prog 106 #[.pointer (some ⟨z.bm, 0, none⟩), .float .f64 y] w fun e w' => e = .returned (.int .i64 (giveE x.m)) ∧ Mid W G0 b z mb mg w' { x with m := M } q c r ws o n := by
  obtain ⟨F, g, tb, go⟩ := h.mach
  subst hM
  refine (give_any g hI y).mono ?_
  rintro e w' ⟨rfl, k⟩
  exact ⟨rfl, go _ _ k⟩
set_option maxRecDepth 100000 in
set_option maxHeartbeats 1000000 in
theorem instr_read (h : Mid W G0 b z mb mg w x none c r ws o n) (hT : TabAt W G0) (hI : Inv x.m) {M : Mac} {A : Ask} (hM : (stepM x.m).1 = M) (hA : (stepM x.m).2 = A) (hk : A.kind = 1) : Calls Tryz.prog 83 #[.pointer (some ⟨b, 0, none⟩)] w fun e w' => e = .returned (.tuple #[]) ∧ ∃ i0, Mid W G0 b z mb mg w' { x with m := M } (some i0) c (Md.Ce.newR (3 + x.b) A.cell c.S) ws o n := by
  have HS := Lib.hid (h.step hT hI hM hA)
  rw [hk] at HS
  have h6 : w.cell? ⟨b, 6, none⟩ = some (.pointer (some ⟨z.bm, 0, none⟩)) := (h.cell 6).trans rfl
  have hb := h.ltB
  clear h hM hA hT hI
  generalize h4 : 3 + x.b = p4
  generalize h5 : 3 + x.b + 3 * x.a = p5
  have HP : Hid (3 + x.b = p4 ∧ 3 + x.b + 3 * x.a = p5) := ⟨h4, h5⟩
  clear h4 h5
  have HR := Lib.hid (fun (v : World) => Md.Ce.read_any v 0 1 2 3 p4 p5 A.cell c.S)
  unfold Md.Ce.planV at HR
  go_enter Tryz.func83, Tryz.ntmps83
  go_wp2_with (go_at_call 104; refine HS.out.mono ?_; rintro e w1 ⟨rfl, k⟩; have HQ := Lib.hid k; have lb := k.ltB; clear k HS)
  obtain ⟨w2, hw2⟩ : ∃ w2, w2 = w1.alloc (.cells #[.int .i64 1, .int .i64 A.cell, .float .f64 A.x, .bool A.first] 112) := ⟨_, rfl⟩
  rw [← hw2]
  have HU := Lib.hid ((HQ.out.alloc (.cells #[.int .i64 1, .int .i64 A.cell, .float .f64 A.x, .bool A.first] 112)).drew)
  rw [← hw2] at HU
  have eA : w2.cell? ⟨w1.heap.size, 1, none⟩ = some (.int .i64 A.cell) := by rw [hw2]; simp [go_sem]
  have lA : w1.heap.size < w2.heap.size := by rw [hw2]; simp
  clear hw2 HQ
  obtain ⟨⟨e0, e1, e2, e3, e4, e5⟩, e6, e12, e13, eb, _⟩ := HU.out.plan HP.out.1 HP.out.2
  refine wp_region_seq (fun u => (u.cell? ⟨b, 0, none⟩ = some (.int .i64 0) ∧ u.cell? ⟨b, 1, none⟩ = some (.int .i64 1) ∧ u.cell? ⟨b, 2, none⟩ = some (.int .i64 2) ∧ u.cell? ⟨b, 3, none⟩ = some (.int .i64 3) ∧ u.cell? ⟨b, 4, none⟩ = some (.int .i64 p4) ∧ u.cell? ⟨b, 5, none⟩ = some (.int .i64 p5)) ∧ u.cell? ⟨b, 12, none⟩ = some (.pointer (some ⟨z.xc, 0, none⟩)) ∧ u.cell? ⟨w1.heap.size, 1, none⟩ = some (.int .i64 A.cell) )  ((0, true) :: (1, true) :: (2, true) :: (3, true) :: (4, true) :: (5, true) :: (6, true) :: (7, true) :: (8, true) :: (9, true) :: (10, true) :: (11, true) :: (12, false) :: (13, false) :: (14, true) :: (15, true) :: (16, false) :: [])  Md.Cv.follows13 (by kernel_rfl) (fun _ _ _ _ _ h => h)  ⟨⟨e0, e1, e2, e3, e4, e5⟩, e12, eA⟩ ?_
  (repeat (first | (refine wpSeq_take (v := ?_) rfl (by rfl) (fun wq hSq => ?_) ?_; rotate_left; (focus ((try dsimp only at hSq); go_simp; try with_reducible rfl)); simp only [Act.put, List.setIfInBounds_toArray, List.set_cons_zero, List.set_cons_succ]) | (refine wpSeq_skip rfl (by rfl) ?_; simp only [Act.put, List.setIfInBounds_toArray, List.set_cons_zero, List.set_cons_succ])))
  (refine wpSeq_do rfl (by rfl) (fun KK hK => ?_); go_simp)
  refine (Md.Cv.stampC_any HU.out.com).mono ?_
  rintro e u1 ⟨rfl, hw⟩
  subst u1
  refine hK.out _ _ ⟨⟨e0, e1, e2, e3, e4, e5⟩, e12, eA⟩ ?_
  (clear hK KK; try simp only [Act.put, List.setIfInBounds_toArray, List.set_cons_zero, List.set_cons_succ])
  (refine wpSeq_do rfl (by rfl) (fun KK hK => ?_); go_simp)
  refine (HR.out _).mono ?_
  rintro e u3 ⟨i0, rfl, k1, k2, k3⟩
  have HV := Lib.hid (HU.out.on k3)
  have HN := Lib.hid (HU.out.readNew k3 k1 k2)
  have eA3 : u3.cell? ⟨w1.heap.size, 1, none⟩ = some (.int .i64 A.cell) := (k3.cell (p := ⟨w1.heap.size, 1, none⟩) lA).trans eA
  obtain ⟨⟨g0, g1, g2, g3, g4, g5⟩, g6, g12, g13, gb, g14⟩ := HV.out.plan HP.out.1 HP.out.2
  refine hK.out _ _ ⟨⟨g0, g1, g2, g3, g4, g5⟩, g12, eA3⟩ ?_
  (clear hK KK; try simp only [Act.put, List.setIfInBounds_toArray, List.set_cons_zero, List.set_cons_succ])
  (repeat (first | (refine wpSeq_take (v := ?_) rfl (by rfl) (fun wq hSq => ?_) ?_; rotate_left; (focus ((try dsimp only at hSq); go_simp; try with_reducible rfl)); simp only [Act.put, List.setIfInBounds_toArray, List.set_cons_zero, List.set_cons_succ]) | (refine wpSeq_skip rfl (by rfl) ?_; simp only [Act.put, List.setIfInBounds_toArray, List.set_cons_zero, List.set_cons_succ])))
  (refine wpSeq_do rfl (by rfl) (fun KK hK => ?_); go_simp)
  obtain ⟨⟨y0, y1, y2, y3, y4, y5⟩, _, y12, _, _, _⟩ := HN.out.plan HP.out.1 HP.out.2
  refine hK.out _ _ ⟨⟨y0, y1, y2, y3, y4, y5⟩, y12, (Md.Cv.cell_kept (heap_setCell_other _ _ _ _ (fun (e : w1.heap.size = b) => by omega)) 1).trans eA3⟩ ?_
  (clear hK KK; try simp only [Act.put, List.setIfInBounds_toArray, List.set_cons_zero, List.set_cons_succ])
  refine wpSeq_nil ?_
  go_wp2_with fail
  go_end0
  exact ⟨rfl, i0, HN.out⟩
set_option maxRecDepth 100000 in
set_option maxHeartbeats 1000000 in
theorem instr_end (h : Mid W G0 b z mb mg w x q c r ws o n) (hT : TabAt W G0) (hI : Inv x.m) {M : Mac} {A : Ask} (hM : (stepM x.m).1 = M) (hA : (stepM x.m).2 = A) (hk : A.kind = 4) : Calls Tryz.prog 83 #[.pointer (some ⟨b, 0, none⟩)] w fun e w' => e = .returned (.tuple #[]) ∧ Mid W G0 b z mb mg w' { x with m := M, part := 3 } q c r ws o n := by
  have HS := Lib.hid (h.step hT hI hM hA)
  rw [hk] at HS
  have h6 : w.cell? ⟨b, 6, none⟩ = some (.pointer (some ⟨z.bm, 0, none⟩)) := (h.cell 6).trans rfl
  have hb := h.ltB
  have HD : Hid (∀ w1 y, Mid W G0 b z mb mg w1 { x with m := M } q c r ws o n → Mid W G0 b z mb mg ((w1.setCell ⟨b, 11, none⟩ (.int .i64 3)).alloc y) { x with m := M, part := 3 } q c r ws o n) := fun w1 y k => (k.put 11 (.int .i64 3) { x with m := M, part := 3 } rfl rfl rfl).alloc y
  clear h hM hA hT hI
  go_enter Tryz.func83, Tryz.ntmps83
  go_wp2_with (go_at_call 104; refine HS.out.mono ?_; rintro e w1 ⟨rfl, k⟩; have HQ := Lib.hid k; have lb := k.ltB; have e11 : w1.cell? ⟨b, 11, none⟩ = some (.int .i64 (x.part : Int)) := (k.cell 11).trans rfl; have f11 := k.free 11; clear k HS)
  go_end0
  exact ⟨rfl, HD.out _ _ HQ.out⟩
set_option maxRecDepth 100000 in
set_option maxHeartbeats 1000000 in
theorem instr_go (h : Mid W G0 b z mb mg w x q c r ws o n) (hT : TabAt W G0) (hI : Inv x.m) {M : Mac} {A : Ask} (hM : (stepM x.m).1 = M) (hA : (stepM x.m).2 = A) (h1 : (A.kind == 1) = false) (h4 : (A.kind == 4) = false) : Calls Tryz.prog 83 #[.pointer (some ⟨b, 0, none⟩)] w fun e w' => e = .returned (.tuple #[]) ∧ Mid W G0 b z mb mg w' { x with m := M } q c r ws o n := by
  have HS := Lib.hid (h.step hT hI hM hA)
  have h6 : w.cell? ⟨b, 6, none⟩ = some (.pointer (some ⟨z.bm, 0, none⟩)) := (h.cell 6).trans rfl
  have hb := h.ltB
  clear h hM hA hT hI
  go_enter Tryz.func83, Tryz.ntmps83
  go_wp2_with (go_at_call 104; refine HS.out.mono ?_; rintro e w1 ⟨rfl, k⟩; have HQ := Lib.hid k; clear k HS)
  go_end0
  exact ⟨rfl, HQ.out.alloc _⟩
/-- a step of its read that doesn't end it; one that does -/
theorem Mid.nq (h : Mid W G0 b z mb mg w x q c r ws o n) {i0 : Nat} (hq : q = some i0) : i0 ≠ mb ∧ i0 ≠ mg := by
  obtain ⟨F, h1, _, h3, _⟩ := h
  exact ⟨fun e => h3 mb (by simp) (e ▸ in_q hq), fun e => h3 mg (by simp) (e ▸ in_q hq)⟩
set_option maxRecDepth 100000 in
set_option maxHeartbeats 1000000 in
theorem read_on {i0 : Nat} (h : Mid W G0 b z mb mg w x (some i0) c r ws true n) (hE : Md.Ce.errR r ws true = 0) (hD : Md.Ce.endR r ws true = false) : Calls Tryz.prog 84 #[.pointer (some ⟨b, 0, none⟩), .pointer (some ⟨mb, 0, none⟩)] w fun e w' => e = .returned (.tuple #[]) ∧ Mid W G0 b z mb mg w' x (some i0) c (Md.Ce.stepR r ws true) ws false (up n) := by
  have HS := Lib.hid (Md.Ce.rstep_any h.mem (h.rd rfl) (h.nq rfl).1 (h.nq rfl).2)
  rw [hE, hD] at HS
  have HQ0 : Hid (∀ w', MemAt 123 w' mb mg ws false (up n) → Md.Ce.RdAt w' i0 (Md.Ce.stepR r ws true) → Md.Ce.Ch [mb, mg, i0] w w' → Mid W G0 b z mb mg w' x (some i0) c (Md.Ce.stepR r ws true) ws false (up n)) := fun w' k1 k2 k3 => h.reads rfl k3 k1 k2
  have h13 : w.cell? ⟨b, 13, none⟩ = some (.pointer (some ⟨i0, 0, none⟩)) := (h.cell 13).trans rfl
  have hb := h.ltB
  unfold Md.Ce.aftO Md.Ce.aftN at HS
  rw [if_pos rfl, if_pos rfl] at HS
  clear h hE hD
  go_enter Tryz.func84, Tryz.ntmps84
  go_wp2_with (go_at_call 119; refine HS.out.mono ?_; rintro e w1 ⟨rfl, k1, k2, k3⟩; have HQ := Lib.hid (HQ0.out _ k1 k2 k3); clear k1 k2 k3 HS)
  go_end0
  exact ⟨rfl, HQ.out⟩
set_option maxRecDepth 100000 in
set_option maxHeartbeats 1000000 in
theorem read_end {i0 : Nat} (h : Mid W G0 b z mb mg w x (some i0) c r ws true n) (hI : Inv x.m) (hE : Md.Ce.errR r ws true = 0) (hD : Md.Ce.endR r ws true = true) {M : Mac} (hM : giveM x.m (Md.Ce.stepR r ws true).y = M) : Calls Tryz.prog 84 #[.pointer (some ⟨b, 0, none⟩), .pointer (some ⟨mb, 0, none⟩)] w fun e w' => e = .returned (.tuple #[]) ∧ Mid W G0 b z mb mg w' { x with m := M } none c (Md.Ce.stepR r ws true) ws false (up n) := by
  have HS := Lib.hid (Md.Ce.rstep_any h.mem (h.rd rfl) (h.nq rfl).1 (h.nq rfl).2)
  rw [hE, hD] at HS
  have HQ0 : Hid (∀ w', MemAt 123 w' mb mg ws false (up n) → Md.Ce.RdAt w' i0 (Md.Ce.stepR r ws true) → Md.Ce.Ch [mb, mg, i0] w w' → Mid W G0 b z mb mg w' x (some i0) c (Md.Ce.stepR r ws true) ws false (up n)) := fun w' k1 k2 k3 => h.reads rfl k3 k1 k2
  have HG : Hid (∀ w', Mid W G0 b z mb mg w' x (some i0) c (Md.Ce.stepR r ws true) ws false (up n) → Calls Tryz.prog 106 #[.pointer (some ⟨z.bm, 0, none⟩), .float .f64 (Md.Ce.stepR r ws true).y] w' fun e w2 => e = .returned (.int .i64 (giveE x.m)) ∧ Mid W G0 b z mb mg w2 { x with m := M } (some i0) c (Md.Ce.stepR r ws true) ws false (up n)) := fun w' k => k.give hI _ hM
  have h13 : w.cell? ⟨b, 13, none⟩ = some (.pointer (some ⟨i0, 0, none⟩)) := (h.cell 13).trans rfl
  have hb := h.ltB
  unfold Md.Ce.aftO Md.Ce.aftN at HS
  rw [if_pos rfl, if_pos rfl] at HS
  clear h hE hD hM
  generalize Md.Ce.stepR r ws true = r' at *
  generalize giveE x.m = ge at *
  go_enter Tryz.func84, Tryz.ntmps84
  go_wp2_with (go_at_call 119; refine HS.out.mono ?_; rintro e w1 ⟨rfl, k1, k2, k3⟩; have HQ := Lib.hid (HQ0.out _ k1 k2 k3); clear k1 k2 k3 HS)
  have HU := Lib.hid HQ.out.drew
  have e6 : w1.cell? ⟨b, 6, none⟩ = some (.pointer (some ⟨z.bm, 0, none⟩)) := (HQ.out.cell 6).trans rfl
  have e13 : w1.cell? ⟨b, 13, none⟩ = some (.pointer (some ⟨i0, 0, none⟩)) := (HQ.out.cell 13).trans rfl
  have lb := HQ.out.ltB
  clear HQ HQ0
  refine wp_region_seq (fun u => u.cell? ⟨b, 6, none⟩ = some (.pointer (some ⟨z.bm, 0, none⟩)) ∧ u.cell? ⟨b, 13, none⟩ = some (.pointer (some ⟨i0, 0, none⟩)) )  ((0, true) :: (1, true) :: (2, true) :: (3, true) :: (4, true) :: (5, true) :: (6, true) :: (7, true) :: (8, true) :: (9, false) :: (10, false) :: [])  Md.Cv.follows13 (by kernel_rfl) (fun _ _ _ _ _ h => h)  ⟨e6, e13⟩ ?_
  (repeat (first | (refine wpSeq_take (v := ?_) rfl (by rfl) (fun wq hSq => ?_) ?_; rotate_left; (focus ((try dsimp only at hSq); go_simp; try with_reducible rfl)); simp only [Act.put, List.setIfInBounds_toArray, List.set_cons_zero, List.set_cons_succ]) | (refine wpSeq_skip rfl (by rfl) ?_; simp only [Act.put, List.setIfInBounds_toArray, List.set_cons_zero, List.set_cons_succ])))
  (refine wpSeq_do rfl (by rfl) (fun KK hK => ?_); go_simp)
  refine (Md.Ce.value_any (HU.out.rd rfl)).mono ?_
  rintro e u1 ⟨rfl, hw⟩
  subst u1
  refine hK.out _ _ ⟨e6, e13⟩ ?_
  (clear hK KK; try simp only [Act.put, List.setIfInBounds_toArray, List.set_cons_zero, List.set_cons_succ])
  (refine wpSeq_do rfl (by rfl) (fun KK hK => ?_); go_simp)
  refine (HG.out _ HU.out).mono ?_
  rintro e w2 ⟨rfl, k⟩
  have HV := Lib.hid k
  have l2 := k.ltB
  have d13 : w2.cell? ⟨b, 13, none⟩ = some (.pointer (some ⟨i0, 0, none⟩)) := (k.cell 13).trans rfl
  have f13 := k.free 13
  refine hK.out _ _ ⟨(k.cell 6).trans rfl, d13⟩ ?_
  clear k
  (clear hK KK; try simp only [Act.put, List.setIfInBounds_toArray, List.set_cons_zero, List.set_cons_succ])
  refine wpSeq_nil ?_
  go_wp2_with fail
  go_end0
  exact ⟨rfl, HV.out.readOver⟩
end
end Go.Proofs.YtninicfnhoediaaGreatDoor.Rr
namespace Go.Proofs.YtninicfnhoediaaGreatDoor.Rr
open Go.ChangeShapes Go.WideShapes Go.ChangeAt Go.RowKit Num
/-- a reader and its memory, as the numbers have them -/
def Full (W : World) (G0 : List Nat) (b : Nat) (z : Rz) (mb mg : Nat) (w : World) (x : Rx) (ws : List Int) (o : Bool) (n : Int) : Prop := ∃ q r, Mid W G0 b z mb mg w x q (comC x) r ws o n ∧ RdOk x q r
section
variable {W w : World} {G0 : List Nat} {b mb mg : Nat} {x : Rx} {z : Rz} {q : Option Nat} {c : Md.Cv.Cs} {r : Md.Ce.Rd} {ws : List Int} {o : Bool} {n : Int}
/-- the box has the same numbers -/
theorem Mid.like (h : Mid W G0 b z mb mg w x q c r ws o n) {y : Rx} (e : xboxV y z q = xboxV x z q) (em : y.m = x.m) (ea : y.args = x.args) : Mid W G0 b z mb mg w y q c r ws o n := by
  obtain ⟨F, k1, k2⟩ := h
  exact ⟨F, ⟨by rw [e]; exact k1.box, by rw [em]; exact k1.mac, k1.com, k1.rd, by rw [ea]; exact k1.arg, k1.sf, k1.sk, k1.fa⟩, k2⟩
theorem readX_box (x : Rx) (ws : List Int) : (readX x ws).a = x.a ∧ (readX x ws).b = x.b ∧ (readX x ws).th = x.th ∧ (readX x ws).tag = x.tag ∧ (readX x ws).args = x.args ∧ (readX x ws).steps = x.steps ∧ (readX x ws).part = x.part ∧ (readX x ws).claim = x.claim ∧ (readX x ws).stamp = x.stamp := by
  unfold readX
  split
  · exact ⟨rfl, rfl, rfl, rfl, rfl, rfl, rfl, rfl, rfl⟩
  · split
    · exact ⟨rfl, rfl, rfl, rfl, rfl, rfl, rfl, rfl, rfl⟩
    · split
      · split <;> exact ⟨rfl, rfl, rfl, rfl, rfl, rfl, rfl, rfl, rfl⟩
      · exact ⟨rfl, rfl, rfl, rfl, rfl, rfl, rfl, rfl, rfl⟩
/-- its read's step, in the program -/
theorem read_full {i0 : Nat} (h : Mid W G0 b z mb mg w x (some i0) c r ws true n) (hL : RdLike x r) (ha : 1 ≤ x.a ∧ x.a ≤ 256) (hb : 1 ≤ x.b ∧ x.b ≤ 8) (hn : u64B x.now) (hIm : Inv x.m) (hp : x.part = 2) (hc : 0 ≤ x.cell) (hca : x.cell < x.a) (hs : x.sub ≤ 3) (hcc : c = comC x) (hl : plW x ≤ (ws.length : Int)) (hW : okW ws) : Calls Tryz.prog 84 #[.pointer (some ⟨b, 0, none⟩), .pointer (some ⟨mb, 0, none⟩)] w fun e w' => e = .returned (.tuple #[]) ∧ Full W G0 b z mb mg w' (readX x ws) ws false (up n) := by
  obtain ⟨b1, b2, b3, b4, b5, b6, b7, b8, b9⟩ := readX_box x ws
  have hcom : comC (readX x ws) = c := by
    rw [hcc]; unfold comC comN; rw [b3, b7, b8, b9, if_neg (by omega), if_neg (by omega)]
  obtain ⟨hE, hR⟩ := read_rel ha hb hn hL hc hca hs hl hW
  have hbox : ∀ q', xboxV (readX x ws) z q' = xboxV x z q' := fun q' => by unfold xboxV; rw [b1, b2, b3, b4, b5, b6, b7]
  rcases hR with ⟨c1, c2, c3, c4⟩ | ⟨c1, c2, c3, c4⟩
  · refine (read_end h hIm hE c2 c3.symm).mono ?_
    rintro e w' ⟨rfl, k⟩
    exact ⟨rfl, none, Md.Ce.stepR r ws true, by rw [hcom]; exact k.like (hbox none) rfl b5, .inl ⟨rfl, by omega⟩⟩
  · refine (read_on h hE c2).mono ?_
    rintro e w' ⟨rfl, k⟩
    exact ⟨rfl, some i0, Md.Ce.stepR r ws true, by rw [hcom]; exact k.like (hbox _) c3 b5, .inr ⟨⟨i0, rfl⟩, by omega, c4⟩⟩
end
section
variable {W w : World} {G0 : List Nat} {b mb mg : Nat} {x : Rx} {z : Rz} {ws : List Int} {o : Bool} {n : Int}
set_option maxRecDepth 100000 in
set_option maxHeartbeats 1000000 in
/-- a step of its running, in the program: the read that is under way; a new one; another instruction -/
theorem run_old (h : Full W G0 b z mb mg w x ws true n) (hI : In0 x) (hp : x.part = 2) (hc : 0 ≤ x.cell) (hl : plW x ≤ (ws.length : Int)) (hW : okW ws) : Calls Tryz.prog 43 #[.pointer (some ⟨b, 0, none⟩), .pointer (some ⟨mb, 0, none⟩)] w fun e w' => e = .returned (.tuple #[]) ∧ Full W G0 b z mb mg w' (readX x ws) ws false (up n) := by
  obtain ⟨q, r, h, hR⟩ := h
  rcases hR with ⟨_, hR⟩ | ⟨⟨i0, rfl⟩, _, hL⟩
  · omega
  have h2 := (hI.p2 hp).2
  have HR := Lib.hid (read_full h hL hI.ca hI.cb hI.n hI.inv hp hc hI.celB.2 (by omega) rfl hl hW)
  have h13 : w.cell? ⟨b, 13, none⟩ = some (.pointer (some ⟨i0, 0, none⟩)) := (h.cell 13).trans rfl
  have hb := h.ltB
  clear h hL h2
  go_enter Tryz.func43, Tryz.ntmps43
  go_wp2_with (go_at_call 84; refine HR.out.mono ?_; rintro e w1 ⟨rfl, k⟩; have HQ := Lib.hid k; clear k HR)
  go_end0
  exact ⟨rfl, HQ.out⟩
set_option maxRecDepth 100000 in
set_option maxHeartbeats 1000000 in
theorem run_new (h : Full W G0 b z mb mg w x ws true n) (hT : TabAt W G0) (hI : In0 x) (hp : x.part = 2) (hc : x.cell < 0) (hk : (stepM x.m).2.kind = 1) (hl : plW x ≤ (ws.length : Int)) (hW : okW ws) : Calls Tryz.prog 43 #[.pointer (some ⟨b, 0, none⟩), .pointer (some ⟨mb, 0, none⟩)] w fun e w' => e = .returned (.tuple #[]) ∧ Full W G0 b z mb mg w' (readX (begX x) ws) ws false (up n) := by
  obtain ⟨q, r, h, hR⟩ := h
  obtain rfl : q = none := by
    rcases hR with hR | ⟨_, hR, _⟩
    · exact hR.1
    · omega
  obtain ⟨h0, h2⟩ := hI.p2 hp
  have hw : ¬ 0 ≤ x.m.wait := by omega
  obtain ⟨lk, tr⟩ := step_turns hI.inv hw h0
  have hst : (stepM x.m).2.cell = (stepM x.m).1.wait ∧ 0 ≤ (stepM x.m).1.wait ∧ (stepM x.m).1.how = 0 := by
    rcases tr with ⟨k4, _⟩ | ⟨_, e1, e2, e3, _⟩ | ⟨k0, _⟩
    · omega
    · exact ⟨e1, e2, e3⟩
    · omega
  have hIs := inv_step hI.inv
  have hwc := hIs.wait
  have hcl : (stepM x.m).1.cells = x.a := lk.cells.trans hI.cel
  have HI := Lib.hid (instr_read h hT hI.inv rfl rfl hk)
  have HR : Hid (∀ w' i0, Mid W G0 b z mb mg w' { x with m := (stepM x.m).1 } (some i0) (comC x) (Md.Ce.newR (3 + x.b) (stepM x.m).2.cell (comC x).S) ws true n → Calls Tryz.prog 84 #[.pointer (some ⟨b, 0, none⟩), .pointer (some ⟨mb, 0, none⟩)] w' fun e w' => e = .returned (.tuple #[]) ∧ Full W G0 b z mb mg w' (readX (begX x) ws) ws false (up n)) := fun w' i0 k => by
    have kb : Mid W G0 b z mb mg w' (begX x) (some i0) (comC x) (Md.Ce.newR (3 + x.b) (stepM x.m).2.cell (comC x).S) ws true n := k.like rfl rfl rfl
    exact read_full kb ⟨rfl, rfl, rfl, rfl, (fun e => by have e' : (0 : Nat) = 1 ∨ (0 : Nat) = 2 := e; omega), (fun e => by have e' : (0 : Nat) = 2 := e; omega)⟩ hI.ca hI.cb hI.n hIs hp (by show 0 ≤ (stepM x.m).2.cell; omega) (by show (stepM x.m).2.cell < x.a; omega) (by show (0 : Nat) ≤ 3; omega) (by unfold comC comN; rw [if_neg (by omega), if_neg (show ¬ (begX x).part = 1 by show ¬ x.part = 1; omega)]; rfl) hl hW
  have h13 : w.cell? ⟨b, 13, none⟩ = some (.pointer none) := (h.cell 13).trans rfl
  have hb := h.ltB
  clear h hT h0 h2 hw lk tr hst hIs hwc hcl hk hc hI hp hl hW
  go_enter Tryz.func43, Tryz.ntmps43
  go_wp2_with (first
    | (go_at_call 83; refine HI.out.mono ?_; rintro e w1 ⟨rfl, i0, k⟩; have HQ := Lib.hid k; have e13 : w1.cell? ⟨b, 13, none⟩ = some (.pointer (some ⟨i0, 0, none⟩)) := (k.cell 13).trans rfl; have lb := k.ltB; clear k HI)
    | (go_at_call 84; refine (HR.out _ _ HQ.out).mono ?_; rintro e w2 ⟨rfl, k⟩; have HZ := Lib.hid k; clear k HR))
  go_end0
  exact ⟨rfl, HZ.out⟩
set_option maxRecDepth 100000 in
set_option maxHeartbeats 1000000 in
theorem run_ends (h : Full W G0 b z mb mg w x ws true n) (hT : TabAt W G0) (hI : In0 x) (hp : x.part = 2) (hc : x.cell < 0) (hk : (stepM x.m).2.kind = 4) : Calls Tryz.prog 43 #[.pointer (some ⟨b, 0, none⟩), .pointer (some ⟨mb, 0, none⟩)] w fun e w' => e = .returned (.tuple #[]) ∧ Full W G0 b z mb mg w' { x with m := (stepM x.m).1, part := 3 } ws true n := by
  obtain ⟨q, r, h, hR⟩ := h
  obtain rfl : q = none := by
    rcases hR with hR | ⟨_, hR, _⟩
    · exact hR.1
    · omega
  have HI := Lib.hid (instr_end h hT hI.inv rfl rfl hk)
  have h13 : w.cell? ⟨b, 13, none⟩ = some (.pointer none) := (h.cell 13).trans rfl
  have hb := h.ltB
  have HC : Hid (comC x = comC { x with m := (stepM x.m).1, part := 3 }) := by unfold comC comN; rw [if_neg (by omega), if_neg (by show ¬ (3 : Nat) = 1; omega)]; trivial
  have HX : Hid (x.cell < 0) := hc
  clear h hT hk hI hp hc
  go_enter Tryz.func43, Tryz.ntmps43
  go_wp2_with (go_at_call 83; refine HI.out.mono ?_; rintro e w1 ⟨rfl, k⟩; have HQ := Lib.hid k; have e13 : w1.cell? ⟨b, 13, none⟩ = some (.pointer none) := (k.cell 13).trans rfl; have lb := k.ltB; clear k HI)
  go_end0
  exact ⟨rfl, none, r, by rw [← HC.out]; exact HQ.out, .inl ⟨rfl, HX.out⟩⟩
set_option maxRecDepth 100000 in
set_option maxHeartbeats 1000000 in
theorem run_goes (h : Full W G0 b z mb mg w x ws true n) (hT : TabAt W G0) (hI : In0 x) (hp : x.part = 2) (hc : x.cell < 0) (h1 : (stepM x.m).2.kind ≠ 1) (h4 : (stepM x.m).2.kind ≠ 4) : Calls Tryz.prog 43 #[.pointer (some ⟨b, 0, none⟩), .pointer (some ⟨mb, 0, none⟩)] w fun e w' => e = .returned (.tuple #[]) ∧ Full W G0 b z mb mg w' { x with m := (stepM x.m).1, part := 2 } ws true n := by
  obtain ⟨q, r, h, hR⟩ := h
  obtain rfl : q = none := by
    rcases hR with hR | ⟨_, hR, _⟩
    · exact hR.1
    · omega
  have HI := Lib.hid (instr_go h hT hI.inv rfl rfl (by simpa using h1) (by simpa using h4))
  have h13 : w.cell? ⟨b, 13, none⟩ = some (.pointer none) := (h.cell 13).trans rfl
  have hb := h.ltB
  have HC : Hid (comC x = comC { x with m := (stepM x.m).1, part := 2 }) := by unfold comC comN; rw [if_neg (by omega), if_neg (by show ¬ (2 : Nat) = 1; omega)]; trivial
  have HX : Hid (x.cell < 0 ∧ x.part = 2) := ⟨hc, hp⟩
  clear h hT h1 h4 hI hp hc
  go_enter Tryz.func43, Tryz.ntmps43
  go_wp2_with (go_at_call 83; refine HI.out.mono ?_; rintro e w1 ⟨rfl, k⟩; have HQ := Lib.hid k; have e13 : w1.cell? ⟨b, 13, none⟩ = some (.pointer none) := (k.cell 13).trans rfl; have lb := k.ltB; clear k HI)
  go_end0
  exact ⟨rfl, none, r, by rw [← HC.out]; exact HQ.out.like (by unfold xboxV; rw [HX.out.2]) rfl rfl, .inl ⟨rfl, HX.out.1⟩⟩
/-- all of it -/
theorem run_any (h : Full W G0 b z mb mg w x ws true n) (hT : TabAt W G0) (hI : In0 x) (hp : x.part = 2) (hl : plW x ≤ (ws.length : Int)) (hW : okW ws) : Calls Tryz.prog 43 #[.pointer (some ⟨b, 0, none⟩), .pointer (some ⟨mb, 0, none⟩)] w fun e w' => e = .returned (.tuple #[]) ∧ Full W G0 b z mb mg w' (runX x ws).1 ws (!(runX x ws).2) (if (runX x ws).2 then up n else n) := by
  unfold runX
  by_cases hc : 0 ≤ x.cell
  · rw [if_pos hc]; exact run_old h hI hp hc hl hW
  · rw [if_neg hc]
    by_cases h1 : (stepM x.m).2.kind = 1
    · rw [if_pos h1]; exact run_new h hT hI hp (by omega) h1 hl hW
    · rw [if_neg h1]
      by_cases h4 : (stepM x.m).2.kind = 4
      · rw [if_pos h4]; exact run_ends h hT hI hp (by omega) h4
      · rw [if_neg h4]; exact run_goes h hT hI hp (by omega) h1 h4
theorem Full.mid (h : Full W G0 b z mb mg w x ws o n) : ∃ q c r, Mid W G0 b z mb mg w x q c r ws o n := by
  obtain ⟨q, r, h, _⟩ := h
  exact ⟨q, _, r, h⟩
theorem Full.on {w' : World} (h : Full W G0 b z mb mg w x ws o n) (k : Below w.heap.size w w') : Full W G0 b z mb mg w' x ws o n := by
  obtain ⟨q, r, h, h2⟩ := h
  exact ⟨q, r, h.on k, h2⟩
theorem Full.same {w' : World} (h : Full W G0 b z mb mg w x ws o n) (k : Same w w') : Full W G0 b z mb mg w' x ws o n := h.on (k.below _)
/-- what a step of the numbers answers -/
theorem Full.com {w' : World} {y : Rx} {ws' : List Int} {o' : Bool} {n' : Int} (h : Full W G0 b z mb mg w' y ws' o' n') : ∃ q c r, Mid W G0 b z mb mg w' y q c r ws' o' n' := h.mid
set_option maxRecDepth 100000 in
set_option maxHeartbeats 1000000 in
/-- Step, where it is not -/
theorem step_by {part : Nat} (hpt : x.part = part) (hpp : part = 1 ∨ part = 2 ∨ part = 3) (h : Full W G0 b z mb mg w x ws o n) (hT : TabAt W G0) (hI : InX x) (hl : plW x ≤ (ws.length : Int)) (hW : okW ws) {y : Rx} {ws' : List Int} {ac : Bool} (hy : stepX x ws = (y, ws', ac)) :
    Calls Tryz.prog 14 #[.pointer (some ⟨b, 0, none⟩), .pointer (some ⟨mb, 0, none⟩)] w fun e w' => e = .returned (.tuple #[.bool (decide ((y.part : Int) = 4)), .int .i64 0]) ∧ Full W G0 b z mb mg w' y ws' (!ac) (if ac then up n else n) := by
  obtain ⟨o', ho⟩ : ∃ o', o' = !ac := ⟨_, rfl⟩
  obtain ⟨n', hn⟩ : ∃ n', n' = if ac then up n else n := ⟨_, rfl⟩
  rw [← ho, ← hn]
  have HF : Hid (Calls Tryz.prog 39 #[.pointer (some ⟨b, 0, none⟩), .pointer (some ⟨mb, 0, none⟩)] w fun e w' => e = .returned (.bool true) ∧ Same w w') := by
    obtain ⟨q, c, r, h⟩ := h.mid
    have := fits_any h
    rwa [decide_eq_true hl] at this
  have HO : Hid (∀ w', Same w w' → Calls Tryz.prog 40 #[.pointer (some ⟨b, 0, none⟩)] w' fun e w2 => e = .returned (.bool false) ∧ w2 = w') := fun w' k => by
    obtain ⟨q, c, r, h⟩ := (h.same k).mid
    have := over_any h
    rwa [decide_eq_false (by omega)] at this
  have hfs := hI.few_steps.1
  have hfu := hI.inv.fuel
  have HP : Hid (∀ w', Same w w' → Calls Tryz.prog 41 #[.pointer (some ⟨b, 0, none⟩), .pointer (some ⟨mb, 0, none⟩)] w' fun e w2 => e = .returned (.tuple #[]) ∧ Full W G0 b z mb mg w2 (tickX x) ws true n) := fun w' k => by
    obtain ⟨q, r, h, hR⟩ := h.same k
    refine (open_any h hI.pos (by omega)).mono ?_
    rintro e w2 ⟨rfl, k2⟩
    exact ⟨rfl, q, r, k2, by rcases hR with hR | ⟨h1, h2, h3⟩; exact .inl hR; exact .inr ⟨h1, h2, ⟨h3.p, h3.c, h3.s, h3.k, h3.v, h3.x⟩⟩⟩
  have HZ : Hid (∀ w', Full W G0 b z mb mg w' y ws' o' n' → Calls Tryz.prog 40 #[.pointer (some ⟨b, 0, none⟩)] w' fun e w2 => e = .returned (.bool (decide ((y.part : Int) = 4))) ∧ w2 = w') := fun w' k => by
    obtain ⟨q, c, r, h⟩ := k.mid
    exact over_any h
  have HB : Hid (∀ w', Full W G0 b z mb mg w' (tickX x) ws true n → w'.cell? ⟨b, 11, none⟩ = some (.int .i64 (part : Int)) ∧ b < w'.heap.size) := fun w' k => by
    obtain ⟨q, c, r, h⟩ := k.mid
    exact ⟨(h.cell 11).trans (by show some (Value.int .i64 (x.part : Int)) = _; rw [hpt]), h.ltB⟩
  have HB0 : Hid (b < w.heap.size ∧ ∀ w', Same w w' → b < w'.heap.size) := by
    obtain ⟨q, c, r, h⟩ := h.mid
    exact ⟨h.ltB, fun w' k => by rw [k.heap]; exact h.ltB⟩
  have hb := HB0.out.1
  rcases hpp with rfl | rfl | rfl
  · have HC : Hid (∀ w', Full W G0 b z mb mg w' (tickX x) ws true n → Calls Tryz.prog 42 #[.pointer (some ⟨b, 0, none⟩), .pointer (some ⟨mb, 0, none⟩)] w' fun e w2 => e = .returned (.tuple #[]) ∧ Full W G0 b z mb mg w2 y ws' o' n') := fun w' k => by
      have E : stepX x ws = ((comeX (tickX x) ws).1, (comeX (tickX x) ws).2, true) := by unfold stepX; rw [if_pos hpt]
      rw [E] at hy
      cases hy
      subst ho hn
      obtain ⟨q, r, h, hR⟩ := k
      have hc1 := (hI.p1 hpt).2.1
      obtain ⟨g1, g2, g3, g4, g5, g6, g7, g8, g9, g10⟩ := come_box (tickX x) ws
      have g8' : (comeX (tickX x) ws).1.cell = x.cell := g8
      refine (come_any h hI.tick hpt hl).mono ?_
      rintro e w2 ⟨rfl, k2⟩
      refine ⟨rfl, q, r, k2, ?_⟩
      rcases hR with hR | ⟨_, h2, _⟩
      · exact .inl ⟨hR.1, by rw [g8']; omega⟩
      · have h2' : 0 ≤ x.cell := h2
        omega
    clear h hT hI hl hW hy hpt hfs hfu ho hn
    go_enter Tryz.func14, Tryz.ntmps14
    go_wp2_with (first
      | (go_at_call 40; refine (HZ.out _ H4.out).mono ?_; rintro e w5 ⟨rfl, hw⟩; subst w5; clear HZ)
      | (go_at_call 42; refine (HC.out _ H3.out).mono ?_; rintro e w4 ⟨rfl, k⟩; have H4 := Lib.hid k; clear k HC H3)
      | (go_at_call 41; refine (HP.out _ H1.out).mono ?_; rintro e w3 ⟨rfl, k⟩; have H3 := Lib.hid k; obtain ⟨e11, lb3⟩ := HB.out _ k; clear k HP HB)
      | (go_at_call 40; refine (HO.out _ H1.out).mono ?_; rintro e w2 ⟨rfl, hw⟩; subst w2; clear HO)
      | (go_at_call 39; refine HF.out.mono ?_; rintro e w1 ⟨rfl, k⟩; have H1 := Lib.hid k; have lb1 := HB0.out.2 _ k; clear k HF))
    go_ret2
    exact ⟨rfl, H4.out⟩
  · have HC : Hid (∀ w', Full W G0 b z mb mg w' (tickX x) ws true n → Calls Tryz.prog 43 #[.pointer (some ⟨b, 0, none⟩), .pointer (some ⟨mb, 0, none⟩)] w' fun e w2 => e = .returned (.tuple #[]) ∧ Full W G0 b z mb mg w2 y ws' o' n') := fun w' k => by
      have E : stepX x ws = ((runX (tickX x) ws).1, ws, (runX (tickX x) ws).2) := by unfold stepX; rw [if_neg (by omega), if_neg (by omega)]
      rw [E] at hy
      cases hy
      subst ho hn
      exact run_any k hT hI.tick hpt hl hW
    clear h hT hI hl hW hy hpt hfs hfu ho hn
    go_enter Tryz.func14, Tryz.ntmps14
    go_wp2_with (first
      | (go_at_call 40; refine (HZ.out _ H4.out).mono ?_; rintro e w5 ⟨rfl, hw⟩; subst w5; clear HZ)
      | (go_at_call 43; refine (HC.out _ H3.out).mono ?_; rintro e w4 ⟨rfl, k⟩; have H4 := Lib.hid k; clear k HC H3)
      | (go_at_call 41; refine (HP.out _ H1.out).mono ?_; rintro e w3 ⟨rfl, k⟩; have H3 := Lib.hid k; obtain ⟨e11, lb3⟩ := HB.out _ k; clear k HP HB)
      | (go_at_call 40; refine (HO.out _ H1.out).mono ?_; rintro e w2 ⟨rfl, hw⟩; subst w2; clear HO)
      | (go_at_call 39; refine HF.out.mono ?_; rintro e w1 ⟨rfl, k⟩; have H1 := Lib.hid k; have lb1 := HB0.out.2 _ k; clear k HF))
    go_ret2
    exact ⟨rfl, H4.out⟩
  · have HC : Hid (∀ w', Full W G0 b z mb mg w' (tickX x) ws true n → Calls Tryz.prog 44 #[.pointer (some ⟨b, 0, none⟩), .pointer (some ⟨mb, 0, none⟩)] w' fun e w2 => e = .returned (.tuple #[]) ∧ Full W G0 b z mb mg w2 y ws' o' n') := fun w' k => by
      have E : stepX x ws = (leaveX (tickX x), ws.set (3 + x.th).toNat 0, true) := by unfold stepX; rw [if_neg (by omega), if_pos hpt]
      rw [E] at hy
      cases hy
      subst ho hn
      obtain ⟨q, r, h, hR⟩ := k
      have hc1 := (hI.p3 (.inl hpt)).2.1
      refine (leave_any h hI.tick hl).mono ?_
      rintro e w2 ⟨rfl, k2⟩
      refine ⟨rfl, q, r, ?_, ?_⟩
      · have : comC (leaveX (tickX x)) = comC (tickX x) := by
          unfold comC comN
          rw [if_neg (show ¬ (leaveX (tickX x)).part = 1 by show ¬ 4 = 1; omega), if_neg (show ¬ (tickX x).part = 1 by show ¬ x.part = 1; omega)]
          rfl
        rw [this]
        exact k2
      · rcases hR with hR | ⟨_, h2, _⟩
        · exact .inl hR
        · have h2' : 0 ≤ x.cell := h2
          omega
    clear h hT hI hl hW hy hpt hfs hfu ho hn
    go_enter Tryz.func14, Tryz.ntmps14
    go_wp2_with (first
      | (go_at_call 40; refine (HZ.out _ H4.out).mono ?_; rintro e w5 ⟨rfl, hw⟩; subst w5; clear HZ)
      | (go_at_call 44; refine (HC.out _ H3.out).mono ?_; rintro e w4 ⟨rfl, k⟩; have H4 := Lib.hid k; clear k HC H3)
      | (go_at_call 41; refine (HP.out _ H1.out).mono ?_; rintro e w3 ⟨rfl, k⟩; have H3 := Lib.hid k; obtain ⟨e11, lb3⟩ := HB.out _ k; clear k HP HB)
      | (go_at_call 40; refine (HO.out _ H1.out).mono ?_; rintro e w2 ⟨rfl, hw⟩; subst w2; clear HO)
      | (go_at_call 39; refine HF.out.mono ?_; rintro e w1 ⟨rfl, k⟩; have H1 := Lib.hid k; have lb1 := HB0.out.2 _ k; clear k HF))
    go_ret2
    exact ⟨rfl, H4.out⟩
theorem step_any (h : Full W G0 b z mb mg w x ws o n) (hT : TabAt W G0) (hI : InX x) (hp : x.part ≠ 4) (hl : plW x ≤ (ws.length : Int)) (hW : okW ws) {y : Rx} {ws' : List Int} {ac : Bool} (hy : stepX x ws = (y, ws', ac)) :
    Calls Tryz.prog 14 #[.pointer (some ⟨b, 0, none⟩), .pointer (some ⟨mb, 0, none⟩)] w fun e w' => e = .returned (.tuple #[.bool (decide ((y.part : Int) = 4)), .int .i64 0]) ∧ Full W G0 b z mb mg w' y ws' (!ac) (if ac then up n else n) :=
  step_by rfl (by have := hI.part; omega) h hT hI hl hW hy
end
end Go.Proofs.YtninicfnhoediaaGreatDoor.Rr
namespace Go.Proofs.YtninicfnhoediaaGreatDoor.Rr
open Go.ChangeShapes Go.WideShapes Go.ChangeAt Go.RowKit Num
attribute [local go_sem] run_store_float frombits_run bits_run

/-- the first k numbers fixed, the others 0 -/
def rowL (l : List Nat) (k n : Nat) : List Nat := (List.range n).map fun i => if i < k then fixB (l.getD i 0) else 0
theorem rowL_len (l : List Nat) (k n : Nat) : (rowL l k n).length = n := by simp [rowL]
theorem rowL_zero (l : List Nat) (n : Nat) : rowL l 0 n = List.replicate n 0 := by
  apply List.ext_getElem
  · simp [rowL]
  · intro i h1 h2
    simp [rowL]
theorem rowL_all {l : List Nat} {n : Nat} (h : l.length = n) : rowL l n n = l.map fixB := by
  apply List.ext_getElem
  · simp [rowL, h]
  · intro i h1 h2
    have hi : i < n := by simpa [rowL] using h1
    simp [rowL, hi, h]
theorem rowL_set (l : List Nat) (k n : Nat) : (rowL l k n).set k (fixB (l.getD k 0)) = rowL l (k + 1) n := by
  apply List.ext_getElem
  · simp [rowL]
  · intro i h1 h2
    rw [List.getElem_set]
    by_cases e : k = i
    · subst e
      simp [rowL]
    · rw [if_neg e]
      simp only [rowL, List.getElem_map, List.getElem_range]
      by_cases q : i < k
      · rw [if_pos q, if_pos (by omega)]
      · rw [if_neg q, if_neg (by omega)]
theorem fMk (n : Nat) (hn : n ≤ 256) (w : World) : (Instr.makeSlice 27 (.int .i64 (n : Int)) (.int .i64 (n : Int))).run Tryz.prog w = .ok (.slice (some ⟨w.heap.size, 0, none⟩) n n) (w.alloc (.cells (fls (List.replicate n 0)).toArray 71)) := by
  obtain ⟨i, hi, hz0, hz1, hz2⟩ := info_parts fInfo
  rw [run_make w 27 71 i (.float .f64 0) Tryz.underlying27 hi hz0 .i64 .i64 n n (by omega) (Int.le_refl _) (by rw [hz2]; omega) (by omega)]
  have e : (madeCells (.float .f64 0 : Value).cells (((n : Int)).toNat * i.size)) = (fls (List.replicate n 0)).toArray := by
    rw [hz1, Nat.mul_one, Int.toNat_natCast]
    apply Array.toList_inj.1
    rw [show (.float .f64 0 : Value).cells = #[.float .f64 0] from rfl, toList_madeCells_one]
    simp [fls]
  rw [e, Int.toNat_natCast]
theorem row_made {w : World} {l : List Nat} {n : Nat} (hl : l.length = n) (hn : n ≤ 256) : RowAt 71 (w.alloc (.cells (fls l).toArray 71)) (some ⟨w.heap.size, 0, none⟩) n (fls l) := ⟨by
  rw [fls_len, hl]
  exact World.ownsRow_lit w _ n (Nat.zero_le _) (by unfold maxLen; omega) (by rw [List.size_toArray, fls_len, hl, Nat.mul_one])⟩
set_option maxRecDepth 100000 in
set_option maxHeartbeats 1000000 in
theorem fixed_any {w : World} {po : Option Addr} {l : List Nat} {k co : Nat} (hk : l.length = k) (hL : FlAt w po l) (hk8 : k ≤ 8) : Calls Tryz.prog 113 #[.slice po k co] w fun e w' => e = .returned (.slice (some ⟨w.heap.size, 0, none⟩) k k) ∧ RowAt 71 w' (some ⟨w.heap.size, 0, none⟩) k (fls (l.map fixB)) ∧ Below w.heap.size w w' := by
  have hmk := fMk k (by omega) w
  have HL0 : Hid (∀ wr, Below w.heap.size w wr → FlAt wr po l) := fun wr h => hL.on h
  have HE : Hid (rowL l k k = l.map fixB) := rowL_all hk
  have HS0 : Hid (RowAt 71 (w.alloc (.cells (fls (List.replicate k 0)).toArray 71)) (some ⟨w.heap.size, 0, none⟩) k (fls (rowL l 0 k))) := by
    have := row_made (w := w) (rowL_len l 0 k) (by omega)
    rw [rowL_zero] at this ⊢
    exact this
  have HAT : Hid (∀ (v x y s : Int) (w : World), Calls Tryz.prog 29 #[.agg #[.int .u64 v, .int .u64 x, .int .u64 y], .int .u64 s] w fun e w' => e = .returned (.float .f64 (Md.Ce.atV v x y s)) ∧ Below w.heap.size w w') := Md.Ce.cat_any
  have HK : Hid (l.length = k) := hk
  clear hL hk
  go_enter Tryz.func113, Tryz.ntmps113
  go_wp2
  go_loopw [11] (fun vi wr => ∃ i : Nat, vi = .int .i64 i ∧ i ≤ k ∧ Hid (RowAt 71 wr (some ⟨w.heap.size, 0, none⟩) k (fls (rowL l i k))) ∧ Hid (Below w.heap.size w wr)) (fun vi _ => k - (intOf vi).toNat)
  case atStart => exact ⟨0, rfl, Nat.zero_le _, HS0.out, below_alloc w _⟩
  case round =>
    obtain ⟨i, rfl, hi, HR, HB⟩ := hrel
    by_cases hlt : i < k
    · have hlt' : (i : Int) < (k : Int) := by omega
      obtain ⟨g, o, rfl, hg, hx⟩ := HL0.out _ HB.out i (by rw [HK.out]; exact hlt)
      have hAt : Hid (∀ y : Nat, Md.Ce.atV 0 (y : Int) 0 0 = fixB y) := fun y => by unfold Md.Ce.atV; rw [if_neg (by omega)]; rfl
      have HS1 := Lib.hid (rowL_set l i k)
      generalize l.getD i 0 = y at hx HS1
      obtain ⟨r0, r1, r2⟩ := row_get HR.out (j := i) (v := .float .f64 ((rowL l i k).getD i 0)) (by rw [fls_get (by rw [rowL_len]; exact hlt)])
      have HD : Hid (∀ u, Below wr.heap.size wr u → u.cell? ⟨w.heap.size, i, none⟩ = some (.float .f64 ((rowL l i k).getD i 0)) ∧ u.frozen? ⟨w.heap.size, i, none⟩ = false ∧ w.heap.size < u.heap.size ∧ RowAt 71 (u.setCell ⟨w.heap.size, i, none⟩ (.float .f64 (fixB y))) (some ⟨w.heap.size, 0, none⟩) k (fls (rowL l (i + 1) k)) ∧ Below w.heap.size w (u.setCell ⟨w.heap.size, i, none⟩ (.float .f64 (fixB y)))) := fun u hu => by
        have h1 := HR.out.on hu
        obtain ⟨a1, a2, a3⟩ := row_get h1 (j := i) (v := .float .f64 ((rowL l i k).getD i 0)) (by rw [fls_get (by rw [rowL_len]; exact hlt)])
        have q := (row_put h1 i (.float .f64 (fixB y))).1
        rw [fls_set, HS1.out] at q
        exact ⟨a1, a2, a3, q, (HB.out.trans (hu.mono HB.out.size)).setCell (Nat.le_refl _) _⟩
      clear HL0 HS0
      go_wp2_with (go_at_call 29; refine (HAT.out _ _ _ _ _).mono ?_; rintro e u ⟨rfl, hb⟩; rw [hAt.out]; obtain ⟨a1, a2, a3, a4, a5⟩ := HD.out _ hb; have HZ := Lib.hid (And.intro a4 a5); clear a4 a5 hb)
      exact ⟨⟨i + 1, by first | rfl | (congr 1), by omega, HZ.out.1, HZ.out.2⟩, by simp [intOf]; omega⟩
    · have hlt' : ¬ (i : Int) < (k : Int) := by omega
      obtain rfl : i = k := by omega
      have HZ := Lib.hid HR.out
      rw [HE.out] at HZ
      go_wp2
      go_ret
      exact ⟨rfl, HZ.out, HB.out⟩
end Go.Proofs.YtninicfnhoediaaGreatDoor.Rr
namespace Go.Proofs.YtninicfnhoediaaGreatDoor.Rr
open Go.ChangeShapes Go.WideShapes Go.ChangeAt Go.RowKit Num
attribute [local go_sem] run_store_float

/-- a transaction as cells -/
abbrev trC (a b : Int) (bm : Option Addr) (st t : Int) (pa : Option Addr) (n ca : Nat) : Array Value := #[.int .i64 0, .int .i64 1, .int .i64 2, .int .i64 3, .int .i64 (3 + b), .int .i64 (3 + b + 3 * a), .pointer bm, .int .i64 st, .int .i64 t, .slice pa n ca]
abbrev trO (c : Array Value) : Obj := .cells c 102
abbrev trZ : Array Value := #[.int .i64 0, .int .i64 0, .int .i64 0, .int .i64 0, .int .i64 0, .int .i64 0, .pointer none, .int .i64 0, .int .i64 0, .slice none 0 0]
theorem tr_back {fn : Func} {p u : Tmp} (h : fn.results = #[.cell p 102, .tmp u]) {Q : Ending → World → Prop} {a : Act} {w : World} (g : Nat) {v0 v1 v2 v3 v4 v5 v6 v7 v8 v9 : Value} (may : Bool) (hp : a.tmps.getD p undef = .pointer (some ⟨g, 0, none⟩)) (hu : a.tmps.getD u undef = .bool may)
    (hg : w.heap[g]? = some (.cells #[v0, v1, v2, v3, v4, v5, v6, v7, v8, v9] 102 (0, 0))) (hd : a.defers = []) (hR : Q (.returned (.tuple #[.agg #[v0, v1, v2, v3, v4, v5, v6, v7, v8, v9], .bool may])) w) : bodyPost Tryz.prog fn Q .ret a w := by
  refine bodyPost_ret (v := .tuple #[.agg #[v0, v1, v2, v3, v4, v5, v6, v7, v8, v9], .bool may]) ?_ hd hR
  rw [results_cell_tmp h, hp, hu]
  have hl := run_loadVar_row (P := Tryz.prog) w g 102 102 #[v0, v1, v2, v3, v4, v5, v6, v7, v8, v9] (0, 0) _ hg Tryz.underlying102 rfl (by kernel_rfl)
  simp [asAddr, hl, Result.andThen]
abbrev begW (w : World) (a b c e t : Int) (ao : Option Addr) (n cap : Nat) : World := ((w.alloc (cfgO a b c e)).alloc (prgO t ao n cap)).alloc (trO trZ)
theorem heap_old {w : World} {o y : Obj} {k : Nat} (e : w.heap[k]? = some y) : (w.alloc o).heap[k]? = some y := (Below.heap_alloc _ _ _ (Array.getElem?_eq_some_iff.1 e).1).trans e
theorem begW_boxes {w u : World} {a b c e t : Int} {ao : Option Addr} {n cap : Nat} (h : Below (begW w a b c e t ao n cap).heap.size (begW w a b c e t ao n cap) u) :
    u.heap[w.heap.size]? = some (cfgO a b c e) ∧ u.heap[w.heap.size + 1]? = some (prgO t ao n cap) ∧ u.heap[w.heap.size + 1 + 1]? = some (trO trZ) ∧ Below w.heap.size w u := by
  have h0 : (begW w a b c e t ao n cap).heap[w.heap.size]? = some (cfgO a b c e) := heap_old (heap_old (heap_alloc_new _ _))
  have h1 : (begW w a b c e t ao n cap).heap[w.heap.size + 1]? = some (prgO t ao n cap) := heap_old (heap_new (by simp))
  have h2 : (begW w a b c e t ao n cap).heap[w.heap.size + 1 + 1]? = some (trO trZ) := heap_new (by simp)
  refine ⟨(h.block _ (lt_of_block h0)).trans h0, (h.block _ (lt_of_block h1)).trans h1, (h.block _ (lt_of_block h2)).trans h2, ?_⟩
  exact (((below_alloc w _).trans ((below_alloc _ _).mono (by simp))).trans ((below_alloc _ _).mono (by simp; omega))).trans (h.mono (by simp [begW]; omega))
theorem cells10 {w : World} {x : Nat} {v0 v1 v2 v3 v4 v5 v6 v7 v8 v9 : Value} {T : TypeId} (h : w.heap[x]? = some (.cells #[v0, v1, v2, v3, v4, v5, v6, v7, v8, v9] T (0, 0))) : (w.cell? ⟨x, 0, none⟩ = some v0 ∧ w.cell? ⟨x, 1, none⟩ = some v1 ∧ w.cell? ⟨x, 2, none⟩ = some v2 ∧ w.cell? ⟨x, 3, none⟩ = some v3 ∧ w.cell? ⟨x, 4, none⟩ = some v4 ∧ w.cell? ⟨x, 5, none⟩ = some v5 ∧ w.cell? ⟨x, 6, none⟩ = some v6 ∧ w.cell? ⟨x, 7, none⟩ = some v7 ∧ w.cell? ⟨x, 8, none⟩ = some v8 ∧ w.cell? ⟨x, 9, none⟩ = some v9 ∧ x < w.heap.size) ∧ ∀ j, w.frozen? ⟨x, j, none⟩ = false :=
  ⟨⟨(cell_of_row w x 0 _ _ _ h).trans rfl, (cell_of_row w x 1 _ _ _ h).trans rfl, (cell_of_row w x 2 _ _ _ h).trans rfl, (cell_of_row w x 3 _ _ _ h).trans rfl, (cell_of_row w x 4 _ _ _ h).trans rfl, (cell_of_row w x 5 _ _ _ h).trans rfl, (cell_of_row w x 6 _ _ _ h).trans rfl, (cell_of_row w x 7 _ _ _ h).trans rfl, (cell_of_row w x 8 _ _ _ h).trans rfl, (cell_of_row w x 9 _ _ _ h).trans rfl, lt_of_block h⟩, fun j => frozen_of_row w x j _ _ h⟩
theorem set10 {w : World} {x : Nat} {v0 v1 v2 v3 v4 v5 v6 v7 v8 v9 u0 u1 u2 u3 u4 u5 u6 u7 u8 u9 : Value} {T : TypeId} (h : w.heap[x]? = some (.cells #[v0, v1, v2, v3, v4, v5, v6, v7, v8, v9] T (0, 0))) : ((((((((((w.setCell ⟨x, 0, none⟩ u0).setCell ⟨x, 1, none⟩ u1).setCell ⟨x, 2, none⟩ u2).setCell ⟨x, 3, none⟩ u3).setCell ⟨x, 4, none⟩ u4).setCell ⟨x, 5, none⟩ u5).setCell ⟨x, 6, none⟩ u6).setCell ⟨x, 7, none⟩ u7).setCell ⟨x, 8, none⟩ u8).setCell ⟨x, 9, none⟩ u9).heap[x]? = some (.cells #[u0, u1, u2, u3, u4, u5, u6, u7, u8, u9] T (0, 0)) := by
  have h0 := (heap_setCell_same _ x 0 _ _ u0 h).trans (show _ = some (Obj.cells #[u0, v1, v2, v3, v4, v5, v6, v7, v8, v9] T (0, 0)) from rfl)
  have h1 := (heap_setCell_same _ x 1 _ _ u1 h0).trans (show _ = some (Obj.cells #[u0, u1, v2, v3, v4, v5, v6, v7, v8, v9] T (0, 0)) from rfl)
  have h2 := (heap_setCell_same _ x 2 _ _ u2 h1).trans (show _ = some (Obj.cells #[u0, u1, u2, v3, v4, v5, v6, v7, v8, v9] T (0, 0)) from rfl)
  have h3 := (heap_setCell_same _ x 3 _ _ u3 h2).trans (show _ = some (Obj.cells #[u0, u1, u2, u3, v4, v5, v6, v7, v8, v9] T (0, 0)) from rfl)
  have h4 := (heap_setCell_same _ x 4 _ _ u4 h3).trans (show _ = some (Obj.cells #[u0, u1, u2, u3, u4, v5, v6, v7, v8, v9] T (0, 0)) from rfl)
  have h5 := (heap_setCell_same _ x 5 _ _ u5 h4).trans (show _ = some (Obj.cells #[u0, u1, u2, u3, u4, u5, v6, v7, v8, v9] T (0, 0)) from rfl)
  have h6 := (heap_setCell_same _ x 6 _ _ u6 h5).trans (show _ = some (Obj.cells #[u0, u1, u2, u3, u4, u5, u6, v7, v8, v9] T (0, 0)) from rfl)
  have h7 := (heap_setCell_same _ x 7 _ _ u7 h6).trans (show _ = some (Obj.cells #[u0, u1, u2, u3, u4, u5, u6, u7, v8, v9] T (0, 0)) from rfl)
  have h8 := (heap_setCell_same _ x 8 _ _ u8 h7).trans (show _ = some (Obj.cells #[u0, u1, u2, u3, u4, u5, u6, u7, u8, v9] T (0, 0)) from rfl)
  have h9 := (heap_setCell_same _ x 9 _ _ u9 h8).trans (show _ = some (Obj.cells #[u0, u1, u2, u3, u4, u5, u6, u7, u8, u9] T (0, 0)) from rfl)
  exact h9
theorem oth10 {w : World} {x y : Nat} (u0 u1 u2 u3 u4 u5 u6 u7 u8 u9 : Value) (h : y ≠ x) : ((((((((((w.setCell ⟨x, 0, none⟩ u0).setCell ⟨x, 1, none⟩ u1).setCell ⟨x, 2, none⟩ u2).setCell ⟨x, 3, none⟩ u3).setCell ⟨x, 4, none⟩ u4).setCell ⟨x, 5, none⟩ u5).setCell ⟨x, 6, none⟩ u6).setCell ⟨x, 7, none⟩ u7).setCell ⟨x, 8, none⟩ u8).setCell ⟨x, 9, none⟩ u9).heap[y]? = w.heap[y]? := (heap_setCell_other _ _ _ _ h).trans ((heap_setCell_other _ _ _ _ h).trans ((heap_setCell_other _ _ _ _ h).trans ((heap_setCell_other _ _ _ _ h).trans ((heap_setCell_other _ _ _ _ h).trans ((heap_setCell_other _ _ _ _ h).trans ((heap_setCell_other _ _ _ _ h).trans ((heap_setCell_other _ _ _ _ h).trans ((heap_setCell_other _ _ _ _ h).trans (heap_setCell_other _ _ _ _ h)))))))))
theorem bel10 {B : Nat} {a w : World} {x : Nat} (u0 u1 u2 u3 u4 u5 u6 u7 u8 u9 : Value) (h : Below B a w) (hx : B ≤ x) : Below B a ((((((((((w.setCell ⟨x, 0, none⟩ u0).setCell ⟨x, 1, none⟩ u1).setCell ⟨x, 2, none⟩ u2).setCell ⟨x, 3, none⟩ u3).setCell ⟨x, 4, none⟩ u4).setCell ⟨x, 5, none⟩ u5).setCell ⟨x, 6, none⟩ u6).setCell ⟨x, 7, none⟩ u7).setCell ⟨x, 8, none⟩ u8).setCell ⟨x, 9, none⟩ u9) := (((((((((h.setCell hx _).setCell hx _).setCell hx _).setCell hx _).setCell hx _).setCell hx _).setCell hx _).setCell hx _).setCell hx _).setCell hx _
theorem cells6 {w : World} {x : Nat} {v0 v1 v2 v3 v4 v5 : Value} {T : TypeId} (h : w.heap[x]? = some (.cells #[v0, v1, v2, v3, v4, v5] T (0, 0))) : w.cell? ⟨x, 0, none⟩ = some v0 ∧ w.cell? ⟨x, 1, none⟩ = some v1 ∧ w.cell? ⟨x, 2, none⟩ = some v2 ∧ w.cell? ⟨x, 3, none⟩ = some v3 ∧ w.cell? ⟨x, 4, none⟩ = some v4 ∧ w.cell? ⟨x, 5, none⟩ = some v5 ∧ x < w.heap.size :=
  ⟨(cell_of_row w x 0 _ _ _ h).trans rfl, (cell_of_row w x 1 _ _ _ h).trans rfl, (cell_of_row w x 2 _ _ _ h).trans rfl, (cell_of_row w x 3 _ _ _ h).trans rfl, (cell_of_row w x 4 _ _ _ h).trans rfl, (cell_of_row w x 5 _ _ _ h).trans rfl, lt_of_block h⟩
theorem cells4 {w : World} {x : Nat} {v0 v1 v2 v3 : Value} {T : TypeId} (h : w.heap[x]? = some (.cells #[v0, v1, v2, v3] T (0, 0))) : w.cell? ⟨x, 0, none⟩ = some v0 ∧ w.cell? ⟨x, 1, none⟩ = some v1 ∧ w.cell? ⟨x, 2, none⟩ = some v2 ∧ w.cell? ⟨x, 3, none⟩ = some v3 ∧ x < w.heap.size :=
  ⟨(cell_of_row w x 0 _ _ _ h).trans rfl, (cell_of_row w x 1 _ _ _ h).trans rfl, (cell_of_row w x 2 _ _ _ h).trans rfl, (cell_of_row w x 3 _ _ _ h).trans rfl, lt_of_block h⟩
theorem cells2 {w : World} {x : Nat} {v0 v1 : Value} {T : TypeId} (h : w.heap[x]? = some (.cells #[v0, v1] T (0, 0))) : w.cell? ⟨x, 0, none⟩ = some v0 ∧ w.cell? ⟨x, 1, none⟩ = some v1 ∧ x < w.heap.size :=
  ⟨(cell_of_row w x 0 _ _ _ h).trans rfl, (cell_of_row w x 1 _ _ _ h).trans rfl, lt_of_block h⟩
section
variable {w : World} {a b c e t : Int} {ao : Option Addr} {cs : List Ins} {n cap : Nat} {po : Option Addr} {l : List Nat} {k co : Nat}
set_option maxRecDepth 100000 in
set_option maxHeartbeats 1000000 in
/-- begin, where nothing may be -/
theorem begin_no (h : (Md.cfgB a b c e && decide (k ≤ 8)) = false) : Calls Tryz.prog 75 #[cfgV a b c e, .agg #[.int .i64 t, .slice ao n cap], .slice po k co] w fun r w' => r = .returned (.tuple #[.agg trZ, .bool false]) ∧ Below w.heap.size w w' := by
  have HN : Hid (∀ u, Calls Tryz.prog 65 #[cfgV a b c e, .agg #[.int .i64 t, .slice ao n cap], .slice po k co] u fun r w' => r = .returned (.pointer none) ∧ Below u.heap.size u w') := fun u => mnew_nil h
  have HX : Hid (∀ u, Below (begW w a b c e t ao n cap).heap.size (begW w a b c e t ao n cap) u → u.heap[w.heap.size]? = some (cfgO a b c e) ∧ u.heap[w.heap.size + 1]? = some (prgO t ao n cap) ∧ u.heap[w.heap.size + 1 + 1]? = some (trO trZ) ∧ Below w.heap.size w u) := fun u hb => begW_boxes hb
  have HP := Lib.hid (fun u => Md.place_any a b c e u)
  cases hc : Md.cfgB a b c e
  · simp only [hc] at HP
    go_enter Tryz.func75, Tryz.ntmps75
    go_wp2_with (first
      | (go_at_call 65; refine (HN.out _).mono ?_; rintro e u2 ⟨rfl, q⟩; have H2 := Lib.hid (below_chain (H1.out.alloc H1.out.size _) q); obtain ⟨⟨s0, s1, s2, s3, s4, s5, s6, s7, s8, s9, s10⟩, f⟩ := cells10 (HX.out _ H2.out).2.2.1; have f0 := f 0; have f1 := f 1; have f2 := f 2; have f3 := f 3; have f4 := f 4; have f5 := f 5; have f6 := f 6; have f7 := f 7; have f8 := f 8; have f9 := f 9; clear q f)
      | (go_at_call 97; refine (HP.out _).mono ?_; rintro e u1 ⟨rfl, q⟩; have H1 := Lib.hid q; obtain ⟨b0, b1, b2, b3⟩ := HX.out _ q; obtain ⟨c0, c1, c2, c3, c4⟩ := cells4 b0; obtain ⟨d0, d1, d2⟩ := cells2 b1; clear b0 b1 b2 b3 q))
    exact tr_back rfl (w.heap.size + 1 + 1) false rfl rfl (set10 (HX.out _ H2.out).2.2.1) rfl ⟨rfl, bel10 _ _ _ _ _ _ _ _ _ _ (HX.out _ H2.out).2.2.2 (by omega)⟩
  · simp only [hc] at HP
    go_enter Tryz.func75, Tryz.ntmps75
    go_wp2_with (first
      | (go_at_call 65; refine (HN.out _).mono ?_; rintro e u2 ⟨rfl, q⟩; have H2 := Lib.hid (below_chain (H1.out.alloc H1.out.size _) q); obtain ⟨⟨s0, s1, s2, s3, s4, s5, s6, s7, s8, s9, s10⟩, f⟩ := cells10 (HX.out _ H2.out).2.2.1; have f0 := f 0; have f1 := f 1; have f2 := f 2; have f3 := f 3; have f4 := f 4; have f5 := f 5; have f6 := f 6; have f7 := f 7; have f8 := f 8; have f9 := f 9; clear q f)
      | (go_at_call 97; refine (HP.out _).mono ?_; rintro e u1 ⟨rfl, q⟩; have H1 := Lib.hid q; obtain ⟨b0, b1, b2, b3⟩ := HX.out _ q; obtain ⟨c0, c1, c2, c3, c4⟩ := cells4 b0; obtain ⟨d0, d1, d2⟩ := cells2 b1; clear b0 b1 b2 b3 q))
    exact tr_back rfl (w.heap.size + 1 + 1) false rfl rfl (set10 (HX.out _ H2.out).2.2.1) rfl ⟨rfl, bel10 _ _ _ _ _ _ _ _ _ _ (HX.out _ H2.out).2.2.2 (by omega)⟩
set_option maxRecDepth 100000 in
set_option maxHeartbeats 1000000 in
/-- begin, where it may -/
theorem begin_yes (hc : Md.cfgB a b c e = true) (hn : cs.length = n) (hk : l.length = k) (hk8 : k ≤ 8) (hT : Shaped5 w) (hC : CodeAt w ao cs) (hL : FlAt w po l) (hnl : n ≤ 9223372036854775807) : Calls Tryz.prog 75 #[cfgV a b c e, .agg #[.int .i64 t, .slice ao n cap], .slice po k co] w fun r w' => ∃ bm K pa, r = .returned (.tuple #[.agg (trC a b (some ⟨bm, 0, none⟩) 0 t (some ⟨pa, 0, none⟩) k k), .bool true]) ∧ ∃ F, Mc w' bm F K (newM a c e t cs l) ∧ Abv w.heap.size F ∧ Abv w.heap.size K ∧ pa ∉ F ∧ pa ∉ K ∧ w.heap.size ≤ pa ∧ RowAt 71 w' (some ⟨pa, 0, none⟩) k (fls (l.map fixB)) ∧ Below w.heap.size w w' := by
  have HN : Hid (∀ u, Below w.heap.size w u → Calls Tryz.prog 65 #[cfgV a b c e, .agg #[.int .i64 t, .slice ao n cap], .slice po k co] u fun r w' => ∃ bm K, r = .returned (.pointer (some ⟨bm, 0, none⟩)) ∧ Gm u [] bm K w' (newM a c e t cs l) ∧ Abv u.heap.size K) := fun u hb => mnew_any hn hk (hT.on hb) (hC.on hb) (hL.on hb) hnl hc hk8
  have HX : Hid (∀ u, Below (begW w a b c e t ao n cap).heap.size (begW w a b c e t ao n cap) u → u.heap[w.heap.size]? = some (cfgO a b c e) ∧ u.heap[w.heap.size + 1]? = some (prgO t ao n cap) ∧ u.heap[w.heap.size + 1 + 1]? = some (trO trZ) ∧ Below w.heap.size w u) := fun u hb => begW_boxes hb
  have HP := Lib.hid (fun u => Md.place_any a b c e u)
  simp only [hc] at HP
  have HFX : Hid (∀ u, Below w.heap.size w u → Calls Tryz.prog 113 #[.slice po k co] u fun e w' => e = .returned (.slice (some ⟨u.heap.size, 0, none⟩) k k) ∧ RowAt 71 w' (some ⟨u.heap.size, 0, none⟩) k (fls (l.map fixB)) ∧ Below u.heap.size u w') := fun u hb => fixed_any hk (hL.on hb) hk8
  clear hT hC hL hnl hn hk hc
  generalize newM a c e t cs l = m0 at *
  generalize h4 : 3 + b = p4 at *
  generalize h5 : p4 + 3 * a = p5 at *
  go_enter Tryz.func75, Tryz.ntmps75
  go_wp2_with (first
    | (go_at_call 65; refine (HN.out _ ((HX.out _ (H1.out.alloc H1.out.size _)).2.2.2)).mono ?_; rintro e u2 ⟨bm, K, rfl, q1, q2⟩; have G2 := Lib.hid (And.intro q1 q2); have H2 := Lib.hid (below_chain (H1.out.alloc H1.out.size _) q1.fresh); clear q1 q2)
    | (go_at_call 97; refine (HP.out _).mono ?_; rintro e u1 ⟨rfl, q⟩; have H1 := Lib.hid q; obtain ⟨b0, b1, b2, b3⟩ := HX.out _ q; obtain ⟨c0, c1, c2, c3, c4⟩ := cells4 b0; obtain ⟨d0, d1, d2⟩ := cells2 b1; clear b0 b1 b2 b3 q))
  have Hb0 : Hid (u2.heap[u1.heap.size]? = some (.cells #[.int .i64 0, .int .i64 1, .int .i64 2, .int .i64 3, .int .i64 p4, .int .i64 p5] 51)) := (G2.out.1.fresh.block _ (by simp)).trans (heap_alloc_new _ _)
  obtain ⟨m0', m1, m2, m3⟩ := HX.out _ H2.out
  have HB2 : Hid (Below w.heap.size w u2) := m3
  obtain ⟨d20, d21, d22⟩ := cells2 m1
  obtain ⟨e0, e1, e2, e3, e4, e5, e6⟩ := cells6 Hb0.out
  have HTZ : Hid (u2.heap[w.heap.size + 1 + 1]? = some (trO trZ)) := m2
  have HNE := Lib.hid (show u1.heap.size ≠ w.heap.size + 1 + 1 ∧ w.heap.size + 1 + 1 < u1.heap.size by have := H1.out.size; simp at this; omega)
  clear m0' m1 m2 m3
  refine wp_region_seq (fun u => (u.cell? ⟨u1.heap.size, 0, none⟩ = some (.int .i64 0) ∧ u.cell? ⟨u1.heap.size, 1, none⟩ = some (.int .i64 1) ∧ u.cell? ⟨u1.heap.size, 2, none⟩ = some (.int .i64 2) ∧ u.cell? ⟨u1.heap.size, 3, none⟩ = some (.int .i64 3) ∧ u.cell? ⟨u1.heap.size, 4, none⟩ = some (.int .i64 p4) ∧ u.cell? ⟨u1.heap.size, 5, none⟩ = some (.int .i64 p5)) ∧ u.cell? ⟨w.heap.size + 1, 0, none⟩ = some (.int .i64 t) )  ((0, true) :: (1, true) :: (2, true) :: (3, true) :: (4, true) :: (5, false) :: (6, true) :: (7, false) :: (8, true) :: [])  Md.Cv.follows13 (by kernel_rfl) (fun _ _ _ _ _ h => h)  ⟨⟨e0, e1, e2, e3, e4, e5⟩, d20⟩ ?_
  (repeat (first | (refine wpSeq_take (v := ?_) rfl (by rfl) (fun wq hSq => ?_) ?_; rotate_left; (focus ((try dsimp only at hSq); go_simp; try with_reducible rfl)); simp only [Act.put, List.setIfInBounds_toArray, List.set_cons_zero, List.set_cons_succ]) | (refine wpSeq_skip rfl (by rfl) ?_; simp only [Act.put, List.setIfInBounds_toArray, List.set_cons_zero, List.set_cons_succ])))
  (refine wpSeq_do rfl (by rfl) (fun KK hK => ?_); go_simp)
  refine (HFX.out _ (HB2.out.trans ((Same.drew u2).below _))).mono ?_
  rintro e u3 ⟨rfl, q1, q2⟩
  have HR := Lib.hid (And.intro q1 q2)
  have HB3 : Hid (Below w.heap.size w u3 ∧ Below u2.heap.size u2 u3) := ⟨(HB2.out.trans ((Same.drew u2).below _)).trans (q2.mono HB2.out.size), ((Same.drew u2).below _).trans q2⟩
  have HT3 : Hid (u3.heap[w.heap.size + 1 + 1]? = some (trO trZ)) := (HB3.out.2.block _ (lt_of_block HTZ.out)).trans HTZ.out
  obtain ⟨e30, e31, e32, e33, e34, e35, e36⟩ := cells6 ((HB3.out.2.block _ (lt_of_block Hb0.out)).trans Hb0.out)
  have d30 : u3.cell? ⟨w.heap.size + 1, 0, none⟩ = some (.int .i64 t) := (HB3.out.2.cell (p := ⟨w.heap.size + 1, 0, none⟩) d22).trans d20
  obtain ⟨⟨s0, s1, s2, s3, s4, s5, s6, s7, s8, s9, s10⟩, f⟩ := cells10 HT3.out
  have f0 := f 0; have f1 := f 1; have f2 := f 2; have f3 := f 3; have f4 := f 4; have f5 := f 5; have f6 := f 6; have f7 := f 7; have f8 := f 8; have f9 := f 9
  clear q1 q2 f
  refine hK.out _ _ ⟨⟨e30, e31, e32, e33, e34, e35⟩, d30⟩ ?_
  (clear hK KK; try simp only [Act.put, List.setIfInBounds_toArray, List.set_cons_zero, List.set_cons_succ])
  (repeat (first | (refine wpSeq_take (v := ?_) rfl (by rfl) (fun wq hSq => ?_) ?_; rotate_left; (focus ((try dsimp only at hSq); go_simp; try with_reducible rfl)); simp only [Act.put, List.setIfInBounds_toArray, List.set_cons_zero, List.set_cons_succ]) | (refine wpSeq_skip rfl (by rfl) ?_; simp only [Act.put, List.setIfInBounds_toArray, List.set_cons_zero, List.set_cons_succ])))
  (refine wpSeq_do rfl (by rfl) (fun KK hK => ?_); go_simp)
  have O : ∀ j y, y ≠ w.heap.size + 1 + 1 → _ := fun j y hy => Md.Cv.cell_kept (w := u3) (oth10 (.int .i64 0) (.int .i64 1) (.int .i64 2) (.int .i64 3) (.int .i64 p4) (.int .i64 p5) (.pointer (some ⟨bm, 0, none⟩)) (.int .i64 0) (.int .i64 t) (.slice (some ⟨u2.heap.size, 0, none⟩) k k) hy) j
  refine hK.out _ _ ⟨⟨(O 0 _ HNE.out.1).trans e30, (O 1 _ HNE.out.1).trans e31, (O 2 _ HNE.out.1).trans e32, (O 3 _ HNE.out.1).trans e33, (O 4 _ HNE.out.1).trans e34, (O 5 _ HNE.out.1).trans e35⟩, (O 0 _ (by omega)).trans d30⟩ ?_
  clear O
  (clear hK KK; try simp only [Act.put, List.setIfInBounds_toArray, List.set_cons_zero, List.set_cons_succ])
  (repeat (first | (refine wpSeq_take (v := ?_) rfl (by rfl) (fun wq hSq => ?_) ?_; rotate_left; (focus ((try dsimp only at hSq); go_simp; try with_reducible rfl)); simp only [Act.put, List.setIfInBounds_toArray, List.set_cons_zero, List.set_cons_succ]) | (refine wpSeq_skip rfl (by rfl) ?_; simp only [Act.put, List.setIfInBounds_toArray, List.set_cons_zero, List.set_cons_succ])))
  refine wpSeq_nil ?_
  go_wp2_with fail
  subst h4 h5
  refine tr_back rfl (w.heap.size + 1 + 1) true rfl rfl (set10 HT3.out) rfl ⟨bm, K, u2.heap.size, rfl, ?_⟩
  obtain ⟨F, hM, tF⟩ := G2.out.1.mc
  have lo : Abv (u1.alloc (.cells #[.int .i64 0, .int .i64 1, .int .i64 2, .int .i64 3, .int .i64 (3 + b), .int .i64 (3 + b + 3 * a)] 51)).heap.size F := fun i hi => (tF.own i hi).elim (fun q => by simp at q) id
  have lo2 := G2.out.2
  have sz : (u1.alloc (.cells #[.int .i64 0, .int .i64 1, .int .i64 2, .int .i64 3, .int .i64 (3 + b), .int .i64 (3 + b + 3 * a)] 51)).heap.size = u1.heap.size + 1 := by simp
  rw [sz] at lo lo2
  have hne := HNE.out.2
  have hs2 := tF.size
  rw [sz] at hs2
  have kk : ∀ L : List Nat, Blw u2 L → Abv (u1.heap.size + 1) L → Kept L u2 (((((((((((u3.setCell ⟨w.heap.size + 1 + 1, 0, none⟩ (.int .i64 0)).setCell ⟨w.heap.size + 1 + 1, 1, none⟩ (.int .i64 1)).setCell ⟨w.heap.size + 1 + 1, 2, none⟩ (.int .i64 2)).setCell ⟨w.heap.size + 1 + 1, 3, none⟩ (.int .i64 3)).setCell ⟨w.heap.size + 1 + 1, 4, none⟩ (.int .i64 (3 + b))).setCell ⟨w.heap.size + 1 + 1, 5, none⟩ (.int .i64 (3 + b + 3 * a))).setCell ⟨w.heap.size + 1 + 1, 6, none⟩ (.pointer (some ⟨bm, 0, none⟩))).setCell ⟨w.heap.size + 1 + 1, 7, none⟩ (.int .i64 0)).setCell ⟨w.heap.size + 1 + 1, 8, none⟩ (.int .i64 t)).setCell ⟨w.heap.size + 1 + 1, 9, none⟩ (.slice (some ⟨u2.heap.size, 0, none⟩) k k))) := fun L hb ha => ⟨by have := HB3.out.2.size; simpa using this, fun i hi => (oth10 _ _ _ _ _ _ _ _ _ _ (by have := ha i hi; omega)).trans (HB3.out.2.block i (hb i hi))⟩
  refine ⟨F, hM.keep (kk F hM.blw lo) (kk K hM.blwK lo2), fun i hi => by have := lo i hi; omega, fun i hi => by have := lo2 i hi; omega, fun q => absurd (hM.blw _ q) (Nat.lt_irrefl _), fun q => absurd (hM.blwK _ q) (Nat.lt_irrefl _), by omega, HR.out.1.keep ⟨by simp, fun i hi => oth10 _ _ _ _ _ _ _ _ _ _ ?_⟩, bel10 _ _ _ _ _ _ _ _ _ _ HB3.out.1 (by omega)⟩
  simp [fpR] at hi
  omega
end
end Go.Proofs.YtninicfnhoediaaGreatDoor.Rr
namespace Go.Proofs.YtninicfnhoediaaGreatDoor.Rr
open Go.ChangeShapes Go.WideShapes Go.ChangeAt Go.RowKit Num
attribute [local go_sem] run_store_float

/-- a reader at its beginning -/
def newX (a b c e t : Int) (cs : List Ins) (l : List Nat) (th : Int) : Rx := ⟨a, b, th, t, l.map fixB, newM a c e t cs l, 0, 1, 0, 0, 0, -1, 0, 0⟩
theorem new_in {a b c e t : Int} {cs : List Ins} {l : List Nat} {th : Int} (hc : Md.cfgB a b c e = true) (hx : ∀ k, k < cs.length → (ci cs k).x < 18446744073709551616) (hl : ∀ x ∈ l, x < 18446744073709551616) (hk : l.length ≤ 8) (ht : 0 ≤ th ∧ th < b) : InX (newX a b c e t cs l th) := by
  obtain ⟨h1, h2, h3, h4⟩ := Md.cfgB_iff.1 hc
  have z : u64B 0 := ⟨by decide, by decide⟩
  exact ⟨⟨h1, h2, rfl, ht, inv_new hc hx hl, by show (l.map fixB).length ≤ 8; simpa using hk, ⟨by show 1 ≤ 1; omega, by show 1 ≤ 4; omega⟩, fun _ => ⟨by show 0 ≤ 2; omega, rfl, rfl, fun _ => rfl, rfl, by show ¬ (0 : Int) ≤ -1; omega⟩, (fun q => by cases q), (fun q => by rcases q with q | q <;> cases q), z, z, z, z⟩, by show (0 : Int) ≤ 0; omega, fun _ => rfl, (fun q => by cases q), (fun q => by cases q), (fun q => by cases q)⟩
section
variable {w : World} {a b c e t th : Int} {ao : Option Addr} {cs : List Ins} {n cap : Nat} {po : Option Addr} {l : List Nat} {k co : Nat}
def mayX (a b c e : Int) (k : Nat) (th : Int) : Bool := Md.cfgB a b c e && decide (k ≤ 8) && decide (0 ≤ th ∧ th < b)
set_option maxRecDepth 100000 in
set_option maxHeartbeats 1000000 in
theorem new_nil (h : (Md.cfgB a b c e && decide (k ≤ 8)) = false) : Calls Tryz.prog 35 #[cfgV a b c e, .int .i64 th, .agg #[.int .i64 t, .slice ao n cap], .slice po k co] w fun r w' => r = .returned (.pointer none) ∧ Below w.heap.size w w' := by
  have HN : Hid (∀ u, Calls Tryz.prog 75 #[cfgV a b c e, .agg #[.int .i64 t, .slice ao n cap], .slice po k co] u fun r w' => r = .returned (.tuple #[.agg trZ, .bool false]) ∧ Below u.heap.size u w') := fun u => begin_no h
  clear h
  go_enter Tryz.func35, Tryz.ntmps35
  go_wp2_with (go_at_call 75; refine (HN.out _).mono ?_; rintro e u1 ⟨rfl, q⟩; have H1 := Lib.hid (below_chain (((below_alloc w _).trans ((below_alloc _ _).mono (by simp)))) q); clear q HN)
  go_ret
  exact ⟨rfl, H1.out.alloc H1.out.size _⟩
/-- begin's answer -/
def Begun (w w' : World) (bm pa : Nat) (K : List Nat) (k : Nat) (l : List Nat) (m : Mac) : Prop := ∃ F, Mc w' bm F K m ∧ Abv w.heap.size F ∧ Abv w.heap.size K ∧ pa ∉ F ∧ pa ∉ K ∧ w.heap.size ≤ pa ∧ RowAt 71 w' (some ⟨pa, 0, none⟩) k (fls (l.map fixB)) ∧ Below w.heap.size w w'
theorem Begun.on {w w' w2 : World} {bm pa : Nat} {K : List Nat} {k : Nat} {l : List Nat} {m : Mac} (h : Begun w w' bm pa K k l m) (q : Below w'.heap.size w' w2) : Begun w w2 bm pa K k l m := by
  obtain ⟨F, h1, h2, h3, h4, h5, h6, h7, h8⟩ := h
  exact ⟨F, h1.on q, h2, h3, h4, h5, h6, h7.on q, h8.trans (q.mono h8.size)⟩
theorem Begun.below {w w' : World} {bm pa : Nat} {K : List Nat} {k : Nat} {l : List Nat} {m : Mac} (h : Begun w w' bm pa K k l m) : Below w.heap.size w w' := by
  obtain ⟨F, _, _, _, _, _, _, _, h8⟩ := h
  exact h8
theorem Begun.from {w0 w w' : World} {bm pa : Nat} {K : List Nat} {k : Nat} {l : List Nat} {m : Mac} (h : Begun w w' bm pa K k l m) (q : Below w0.heap.size w0 w) : Begun w0 w' bm pa K k l m := by
  obtain ⟨F, h1, h2, h3, h4, h5, h6, h7, h8⟩ := h
  exact ⟨F, h1, h2.mono q.size, h3.mono q.size, h4, h5, Nat.le_trans q.size h6, h7, q.trans (h8.mono q.size)⟩
/-- a reader that is made: nothing of it was there before -/
structure Made (w w' : World) (bx : Nat) (x : Rx) : Prop where
  at_ : ∃ z F r, RawAt w' bx x z none F (comC x) r ∧ Abv w.heap.size (gX bx z none F) ∧ Abv w.heap.size z.KK
  bl : Below w.heap.size w w'
theorem made_of {w u1 u3 : World} {bm pa xc : Nat} {K : List Nat} (hk : l.length = k) (h : Begun w u1 bm pa K k l (newM a c e t cs l)) (hb : Below u1.heap.size u1 u3) (hx : u1.heap.size ≤ xc) (hc : Md.Cv.CmAt u3 xc ⟨2, 3, th, 0, 0, 0⟩) {v : World} (hv : Same (u3.alloc (.cells #[.int .i64 0, .int .i64 1, .int .i64 2, .int .i64 3, .int .i64 (3 + b), .int .i64 (3 + b + 3 * a), .pointer (some ⟨bm, 0, none⟩), .int .i64 0, .int .i64 t, .slice (some ⟨pa, 0, none⟩) k k, .int .i64 th, .int .i64 1, .pointer (some ⟨xc, 0, none⟩), .pointer none] 106)) v) : Made w v u3.heap.size (newX a b c e t cs l th) := by
  obtain ⟨F, h1, h2, h3, h4, h5, h6, h7, h8⟩ := h
  have ha : Below u3.heap.size u3 v := (below_alloc _ _).trans (hv.below _)
  have hb2 : Below u1.heap.size u1 v := hb.trans (ha.mono hb.size)
  have l1 : ∀ i ∈ F, i < u1.heap.size := h1.blw
  have l2 : ∀ i ∈ K, i < u1.heap.size := h1.blwK
  have l3 : pa < u1.heap.size := h7.blw pa (by simp [fpR])
  have hs := hb.size
  have hs8 := h8.size
  refine ⟨⟨⟨bm, K, xc, some ⟨pa, 0, none⟩, k⟩, F, ⟨0, 0, 0, 0, 0, 0, 0, 0, false⟩, ⟨?_, h1.on hb2, hc.on ha, (fun n hn => by cases hn), h7.on hb2, ?_, ?_, ?_⟩, ?_, ?_⟩, h8.trans (hb2.mono hs8)⟩
  · rw [hv.heap]
    refine (heap_alloc_new _ _).trans ?_
    unfold xboxV newX ptrV
    dsimp only
    rw [List.length_map, hk]
    rfl
  · intro i hi q
    have := l1 i q
    simp at hi
    omega
  · intro i hi q
    have q' : i ∈ K ∨ i = pa := by simpa [Rz.KK, fpR] using q
    have := fun z => l2 i z
    simp at hi
    rcases q' with q' | q'
    · have := l2 i q'; omega
    · omega
  · intro i hi q
    simp [fpR] at hi
    subst hi
    exact h4 q
  · intro i hi
    simp only [gX, List.mem_cons, Option.toList_none, List.nil_append] at hi
    rcases hi with hi | hi | hi
    · omega
    · have hi' : i = xc := hi
      omega
    · exact h2 i hi
  · intro i hi
    have q' : i ∈ K ∨ i = pa := by simpa [Rz.KK, fpR] using hi
    rcases q' with q' | q'
    · exact h3 i q'
    · omega
set_option maxRecDepth 100000 in
set_option maxHeartbeats 1000000 in
theorem new_out (hc : Md.cfgB a b c e = true) (hn : cs.length = n) (hk : l.length = k) (hk8 : k ≤ 8) (hT : Shaped5 w) (hC : CodeAt w ao cs) (hL : FlAt w po l) (hnl : n ≤ 9223372036854775807) (ht : ¬ (0 ≤ th ∧ th < b)) : Calls Tryz.prog 35 #[cfgV a b c e, .int .i64 th, .agg #[.int .i64 t, .slice ao n cap], .slice po k co] w fun r w' => r = .returned (.pointer none) ∧ Below w.heap.size w w' := by
  have HN : Hid (∀ u, Below w.heap.size w u → Calls Tryz.prog 75 #[cfgV a b c e, .agg #[.int .i64 t, .slice ao n cap], .slice po k co] u fun r w' => ∃ bm K pa, r = .returned (.tuple #[.agg (trC a b (some ⟨bm, 0, none⟩) 0 t (some ⟨pa, 0, none⟩) k k), .bool true]) ∧ Begun u w' bm pa K k l (newM a c e t cs l)) := fun u hb => begin_yes hc hn hk hk8 (hT.on hb) (hC.on hb) (hL.on hb) hnl
  have HW : Hid (Below w.heap.size w ((w.alloc (cfgO a b c e)).alloc (prgO t ao n cap))) := (below_alloc w _).trans ((below_alloc _ _).mono (by simp))
  clear hc hn hk hk8 hT hC hL hnl
  by_cases h0 : th < 0
  · go_enter Tryz.func35, Tryz.ntmps35
    go_wp2_with (go_at_call 75; refine (HN.out _ HW.out).mono ?_; rintro e u1 ⟨bm, K, pa, rfl, q⟩; have H1 := Lib.hid (q.from HW.out).below; clear q HN)
    go_ret
    exact ⟨rfl, H1.out.alloc H1.out.size _⟩
  · have h1 : b ≤ th := by omega
    go_enter Tryz.func35, Tryz.ntmps35
    go_wp2_with (go_at_call 75; refine (HN.out _ HW.out).mono ?_; rintro e u1 ⟨bm, K, pa, rfl, q⟩; have H1 := Lib.hid (q.from HW.out).below; have e1 : u1.cell? ⟨w.heap.size, 1, none⟩ = some (.int .i64 b) := (newW_boxes4 q.below).2.1; have l1 : w.heap.size < u1.heap.size := (newW_boxes4 q.below).2.2.2.2; clear q HN)
    go_ret
    exact ⟨rfl, H1.out.alloc H1.out.size _⟩
set_option maxRecDepth 100000 in
set_option maxHeartbeats 1000000 in
theorem new_yes (hc : Md.cfgB a b c e = true) (hn : cs.length = n) (hk : l.length = k) (hk8 : k ≤ 8) (hT : Shaped5 w) (hC : CodeAt w ao cs) (hL : FlAt w po l) (hnl : n ≤ 9223372036854775807) (h0 : 0 ≤ th) (h1 : th < b) : Calls Tryz.prog 35 #[cfgV a b c e, .int .i64 th, .agg #[.int .i64 t, .slice ao n cap], .slice po k co] w fun r w' => ∃ bx, r = .returned (.pointer (some ⟨bx, 0, none⟩)) ∧ Made w w' bx (newX a b c e t cs l th) := by
  have HN : Hid (∀ u, Below w.heap.size w u → Calls Tryz.prog 75 #[cfgV a b c e, .agg #[.int .i64 t, .slice ao n cap], .slice po k co] u fun r w' => ∃ bm K pa, r = .returned (.tuple #[.agg (trC a b (some ⟨bm, 0, none⟩) 0 t (some ⟨pa, 0, none⟩) k k), .bool true]) ∧ Begun u w' bm pa K k l (newM a c e t cs l)) := fun u hb => begin_yes hc hn hk hk8 (hT.on hb) (hC.on hb) (hL.on hb) hnl
  have HW : Hid (Below w.heap.size w ((w.alloc (cfgO a b c e)).alloc (prgO t ao n cap))) := (below_alloc w _).trans ((below_alloc _ _).mono (by simp))
  have HMD : Hid (∀ u1 u3 bm pa xc K v, Begun w u1 bm pa K k l (newM a c e t cs l) → Below u1.heap.size u1 u3 → u1.heap.size ≤ xc → Md.Cv.CmAt u3 xc ⟨2, 3, th, 0, 0, 0⟩ → Same (u3.alloc (.cells #[.int .i64 0, .int .i64 1, .int .i64 2, .int .i64 3, .int .i64 (3 + b), .int .i64 (3 + b + 3 * a), .pointer (some ⟨bm, 0, none⟩), .int .i64 0, .int .i64 t, .slice (some ⟨pa, 0, none⟩) k k, .int .i64 th, .int .i64 1, .pointer (some ⟨xc, 0, none⟩), .pointer none] 106)) v → Made w v u3.heap.size (newX a b c e t cs l th)) := fun u1 u3 bm pa xc K v q1 q2 q3 q4 q5 => made_of hk q1 q2 q3 q4 q5
  have HCO : Hid (∀ u, Calls Tryz.prog 76 #[.agg #[.int .i64 0, .int .i64 1, .int .i64 2, .int .i64 3, .int .i64 (3 + b), .int .i64 (3 + b + 3 * a)], .int .i64 th] u fun e w' => ∃ x, e = .returned (.pointer (some ⟨x, 0, none⟩)) ∧ u.heap.size ≤ x ∧ Md.Cv.CmAt w' x ⟨2, 3, th, 0, 0, 0⟩ ∧ Below u.heap.size u w') := fun u => Md.Cv.come_any 0 1 2 3 (3 + b) (3 + b + 3 * a) th u
  clear hc hn hk hk8 hT hC hL hnl
  generalize newX a b c e t cs l th = X at *
  generalize newM a c e t cs l = m0 at *
  have h4 : Hid (∃ p4, p4 = 3 + b) := ⟨_, rfl⟩
  obtain ⟨p5, h5⟩ : ∃ p5, 3 + b + 3 * a = p5 := ⟨_, rfl⟩
  obtain ⟨p4, h4⟩ : ∃ p4, 3 + b = p4 := ⟨_, rfl⟩
  rw [h5, h4] at HMD HCO
  unfold trC at HN
  rw [h5, h4] at HN
  clear h4 h5
  go_enter Tryz.func35, Tryz.ntmps35
  go_wp2_with (go_at_call 75; refine (HN.out _ HW.out).mono ?_; rintro e u1 ⟨bm, K, pa, rfl, q⟩; have H1 := Lib.hid (q.from HW.out); have e1 : u1.cell? ⟨w.heap.size, 1, none⟩ = some (.int .i64 b) := (newW_boxes4 q.below).2.1; have l1 : w.heap.size < u1.heap.size := (newW_boxes4 q.below).2.2.2.2; clear q HN)
  obtain ⟨u2, hu2⟩ : ∃ u2, u2 = u1.alloc (.cells #[.int .i64 0, .int .i64 1, .int .i64 2, .int .i64 3, .int .i64 p4, .int .i64 p5, .pointer (some ⟨bm, 0, none⟩), .int .i64 0, .int .i64 t, .slice (some ⟨pa, 0, none⟩) k k] 102) := ⟨_, rfl⟩
  rw [← hu2]
  have H2 := Lib.hid (H1.out.on (below_alloc u1 (.cells #[.int .i64 0, .int .i64 1, .int .i64 2, .int .i64 3, .int .i64 p4, .int .i64 p5, .pointer (some ⟨bm, 0, none⟩), .int .i64 0, .int .i64 t, .slice (some ⟨pa, 0, none⟩) k k] 102)))
  rw [← hu2] at H2
  obtain ⟨⟨s0, s1, s2, s3, s4, s5, s6, s7, s8, s9, s10⟩, _⟩ := cells10 (show u2.heap[u1.heap.size]? = _ by rw [hu2]; exact heap_alloc_new _ _)
  clear hu2
  refine wp_region_seq (fun u => u.cell? ⟨u1.heap.size, 0, none⟩ = some (.int .i64 0) ∧ u.cell? ⟨u1.heap.size, 1, none⟩ = some (.int .i64 1) ∧ u.cell? ⟨u1.heap.size, 2, none⟩ = some (.int .i64 2) ∧ u.cell? ⟨u1.heap.size, 3, none⟩ = some (.int .i64 3) ∧ u.cell? ⟨u1.heap.size, 4, none⟩ = some (.int .i64 p4) ∧ u.cell? ⟨u1.heap.size, 5, none⟩ = some (.int .i64 p5) ∧ u.cell? ⟨u1.heap.size, 6, none⟩ = some (.pointer (some ⟨bm, 0, none⟩)) ∧ u.cell? ⟨u1.heap.size, 7, none⟩ = some (.int .i64 0) ∧ u.cell? ⟨u1.heap.size, 8, none⟩ = some (.int .i64 t) ∧ u.cell? ⟨u1.heap.size, 9, none⟩ = some (.slice (some ⟨pa, 0, none⟩) k k) )  ((0, true) :: (1, true) :: (2, true) :: (3, true) :: (4, true) :: (5, false) :: (6, true) :: (7, false) :: (8, true) :: [])  Md.Cv.follows13 (by kernel_rfl) (fun _ _ _ _ _ h => h)  ⟨s0, s1, s2, s3, s4, s5, s6, s7, s8, s9⟩ ?_
  (repeat (first | (refine wpSeq_take (v := ?_) rfl (by rfl) (fun wq hSq => ?_) ?_; rotate_left; (focus ((try dsimp only at hSq); go_simp; try with_reducible rfl)); simp only [Act.put, List.setIfInBounds_toArray, List.set_cons_zero, List.set_cons_succ]) | (refine wpSeq_skip rfl (by rfl) ?_; simp only [Act.put, List.setIfInBounds_toArray, List.set_cons_zero, List.set_cons_succ])))
  (refine wpSeq_do rfl (by rfl) (fun KK hK => ?_); go_simp)
  refine (HCO.out _).mono ?_
  rintro e u3 ⟨xc, rfl, q1, q2, q3⟩
  have H3 : Hid (u2.heap.size ≤ xc ∧ Md.Cv.CmAt u3 xc ⟨2, 3, th, 0, 0, 0⟩ ∧ Below u2.heap.size u2 u3) := ⟨q1, q2, ((Same.drew u2).below _).trans q3⟩
  clear q1 q2 q3
  have ck : ∀ (j : Nat) (v : Value), u2.cell? ⟨u1.heap.size, j, none⟩ = some v → u3.cell? ⟨u1.heap.size, j, none⟩ = some v := fun j v hv => (H3.out.2.2.cell (p := ⟨u1.heap.size, j, none⟩) s10).trans hv
  refine hK.out _ _ ⟨ck 0 _ s0, ck 1 _ s1, ck 2 _ s2, ck 3 _ s3, ck 4 _ s4, ck 5 _ s5, ck 6 _ s6, ck 7 _ s7, ck 8 _ s8, ck 9 _ s9⟩ ?_
  (clear hK KK; try simp only [Act.put, List.setIfInBounds_toArray, List.set_cons_zero, List.set_cons_succ])
  (repeat (first | (refine wpSeq_take (v := ?_) rfl (by rfl) (fun wq hSq => ?_) ?_; rotate_left; (focus ((try dsimp only at hSq); go_simp; try with_reducible rfl)); simp only [Act.put, List.setIfInBounds_toArray, List.set_cons_zero, List.set_cons_succ]) | (refine wpSeq_skip rfl (by rfl) ?_; simp only [Act.put, List.setIfInBounds_toArray, List.set_cons_zero, List.set_cons_succ])))
  (refine wpSeq_do rfl (by rfl) (fun KK hK => ?_); go_simp)
  have l3 : u1.heap.size < u3.heap.size := Nat.lt_of_lt_of_le s10 H3.out.2.2.size
  have ck2 : ∀ (o : Obj) (j : Nat) (v : Value), u2.cell? ⟨u1.heap.size, j, none⟩ = some v → (u3.alloc o).cell? ⟨u1.heap.size, j, none⟩ = some v := fun o j v hv => (World.cell?_alloc_old _ _ _ (Nat.ne_of_lt l3)).trans (ck j v hv)
  refine hK.out _ _ ⟨ck2 _ 0 _ s0, ck2 _ 1 _ s1, ck2 _ 2 _ s2, ck2 _ 3 _ s3, ck2 _ 4 _ s4, ck2 _ 5 _ s5, ck2 _ 6 _ s6, ck2 _ 7 _ s7, ck2 _ 8 _ s8, ck2 _ 9 _ s9⟩ ?_
  clear ck ck2
  (clear hK KK; try simp only [Act.put, List.setIfInBounds_toArray, List.set_cons_zero, List.set_cons_succ])
  (repeat (first | (refine wpSeq_take (v := ?_) rfl (by rfl) (fun wq hSq => ?_) ?_; rotate_left; (focus ((try dsimp only at hSq); go_simp; try with_reducible rfl)); simp only [Act.put, List.setIfInBounds_toArray, List.set_cons_zero, List.set_cons_succ]) | (refine wpSeq_skip rfl (by rfl) ?_; simp only [Act.put, List.setIfInBounds_toArray, List.set_cons_zero, List.set_cons_succ])))
  refine wpSeq_nil ?_
  go_wp2_with fail
  go_ret
  exact ⟨_, rfl, HMD.out _ _ _ _ _ _ _ H2.out H3.out.2.2 H3.out.1 H3.out.2.1 (Same.refl _)⟩
end
end Go.Proofs.YtninicfnhoediaaGreatDoor.Rr
