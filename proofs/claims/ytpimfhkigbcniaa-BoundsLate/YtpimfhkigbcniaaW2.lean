import Derived.Test.YtpimfhkigbcniaaW1
namespace Go.Proofs.Ytpimfhkigbcniaa.Bo
open Go.ChangeShapes Go.WideShapes Go.ChangeAt Go.RowKit Go.Shelf Md En
attribute [local go_sem] Oper.semAt_some

/-! deeds in memory; the two iterators -/
section
variable {F : Fence} {n : Nat} {P : Program}
theorem wpListIn_load_at {ops : Array Oper} {rest : List Oper} {o : Oper} {a : Act} {w : World} {Q : Exit → Act → World → Prop} (hgd : o.guard = none) (ty : TypeId) (x : Operand) (ho : o.op = .load ty x)
    (g off : Nat) (hx : a.eval x = .pointer (some ⟨g, off, none⟩)) (cs : Array Value) (d : TypeDesc) (hc : ∀ j, j < cs.size → w.cell? ⟨g, off + j, none⟩ = cs[j]?)
    (hu : P.underlying ty = some d) (hd : (match d with | .struct _ | .array _ _ => true | _ => false) = true) (hi : (P.info? ty).map (·.size) = some cs.size)
    (h : wpListIn F n P ops Q rest (a.put o.dst (.agg cs)) w) : wpListIn F n P ops Q (o :: rest) a w := by
  refine wpListIn_plain hgd fun K hK => ?_
  unfold Oper.wpIn
  refine ⟨?_, ?_⟩
  · simp [Oper.about, ho]
  · rw [Oper.semAt_plain F _ _ (by rw [ho]; intro c hc'; cases hc')]
    simp only [execOp, ho, hx, Instr.loadAt, Instr.sureAddr, Sem.run_bind, Sem.run_pure, Result.andThen_ok, run_loadVar_at w g off ty cs d hc hu hd hi]
    exact hK _ _ h
theorem wpListIn_store_at {ops : Array Oper} {rest : List Oper} {o : Oper} {a : Act} {w : World} {Q : Exit → Act → World → Prop} (hgd : o.guard = none) (ty : TypeId) (x y : Operand) (ho : o.op = .store ty x y)
    (g : Nat) (cells : Array Value) (hx : a.eval x = .pointer (some ⟨g, 0, none⟩)) (hy : a.eval y = .agg cells)
    (t : TypeId) (old : Array Value) (hg : w.heap[g]? = some (.cells old t (0, 0))) (hi : (P.info? ty).map (·.size) = some cells.size)
    (hold : old.size = cells.size) (h1 : cells.all (·.oneCell') = true)
    (h : wpListIn F n P ops Q rest (a.put o.dst undef) (w.setRow g cells)) : wpListIn F n P ops Q (o :: rest) a w := by
  refine wpListIn_plain hgd fun K hK => ?_
  unfold Oper.wpIn
  refine ⟨?_, ?_⟩
  · simp [Oper.about, ho]
  · rw [Oper.semAt_plain F _ _ (by rw [ho]; intro c hc'; cases hc')]
    have e : putsA old 0 cells.toList = cells := by
      apply Array.ext
      · rw [putsA_size]; omega
      · intro i h1 h2
        have := putsA_get cells.toList 0 old i (by simp; omega)
        rw [if_pos ⟨Nat.zero_le _, by simpa using h2⟩] at this
        simpa [h1, h2] using this
    have hs := run_storeVar_at (P := P) w g 0 t ty old cells hg hi (by omega) h1
    rw [e] at hs
    simp only [execOp, ho, hx, hy, Instr.storeAt, Instr.sureAddr, Sem.run_bind, Sem.run_pure, Result.andThen_ok, hs]
    exact hK _ _ h
end
/-- what of a deed counts -/
structure Dn where
  tag : Int
  mark : Int
  steps : Int
  ahead : Int
  frm : Int
  til : Int
/-- a deed's nineteen cells -/
structure DnC (cs : Array Value) (d : Dn) : Prop where
  size : cs.size = 19
  one : cs.all (·.oneCell') = true
  tag : cs[3]? = some (.int .i64 d.tag)
  mark : cs[5]? = some (.int .i64 d.mark)
  steps : cs[15]? = some (.int .i64 d.steps)
  ahead : cs[16]? = some (.int .i64 d.ahead)
  frm : cs[17]? = some (.int .i64 d.frm)
  til : cs[18]? = some (.int .i64 d.til)
/-- deeds behind one another from a place on, all below a block -/
def DnsAt (B : Nat) (w : World) (b off : Nat) (ds : List Dn) : Prop := b < B ∧ ∀ k d, ds[k]? = some d → ∃ cs, (∀ j, j < 19 → w.cell? ⟨b, off + k * 19 + j, none⟩ = cs[j]?) ∧ DnC cs d
/-- a list of deeds, or none -/
def DnL (B : Nat) (w : World) (v : Value) (ds : List Dn) : Prop := (ds = [] ∧ ∃ p c, v = .slice p 0 c) ∨ ∃ b off c, v = .slice (some ⟨b, off, none⟩) ds.length c ∧ DnsAt B w b off ds
theorem DnsAt.below {B : Nat} {w w' : World} {b off : Nat} {ds : List Dn} (h : DnsAt B w b off ds) (hb : Below B w w') : DnsAt B w' b off ds :=
  ⟨h.1, fun k d hk => by obtain ⟨cs, h1, h2⟩ := h.2 k d hk; exact ⟨cs, fun j hj => (hb.cell (p := ⟨b, _, none⟩) h.1).trans (h1 j hj), h2⟩⟩
theorem DnL.below {B : Nat} {w w' : World} {v : Value} {ds : List Dn} (h : DnL B w v ds) (hb : Below B w w') : DnL B w' v ds := by
  rcases h with h | ⟨b, off, c, rfl, h⟩
  · exact .inl h
  · exact .inr ⟨b, off, c, rfl, h.below hb⟩
theorem DnL.mono {B C : Nat} {w : World} {v : Value} {ds : List Dn} (h : DnL B w v ds) (hb : B ≤ C) : DnL C w v ds := by
  rcases h with h | ⟨b, off, c, rfl, h⟩
  · exact .inl h
  · exact .inr ⟨b, off, c, rfl, Nat.lt_of_lt_of_le h.1 hb, h.2⟩
theorem deedInfo : (Try.prog.info? 38).map (·.size) = some 19 := by kernel_rfl
/-- what the iterators tell of a deed, of the first k -/
def cn4 (d : Dn) : List Int := [d.steps, d.ahead, d.frm, d.til]
def cnL (ds : List Dn) : List Int := ds.flatMap cn4
/-- a box with a deed -/
theorem box_cells {w : World} {x : Nat} {cs : Array Value} {T : TypeId} {d : Dn} (hd : DnC cs d) (h : w.heap[x]? = some (.cells cs T (0, 0))) :
    w.cell? ⟨x, 3, none⟩ = some (.int .i64 d.tag) ∧ w.cell? ⟨x, 5, none⟩ = some (.int .i64 d.mark) ∧ w.cell? ⟨x, 15, none⟩ = some (.int .i64 d.steps) ∧ w.cell? ⟨x, 16, none⟩ = some (.int .i64 d.ahead) ∧ w.cell? ⟨x, 17, none⟩ = some (.int .i64 d.frm) ∧ w.cell? ⟨x, 18, none⟩ = some (.int .i64 d.til) :=
  ⟨by rw [cell_of_row w x 3 _ _ _ h]; exact hd.tag, by rw [cell_of_row w x 5 _ _ _ h]; exact hd.mark, by rw [cell_of_row w x 15 _ _ _ h]; exact hd.steps, by rw [cell_of_row w x 16 _ _ _ h]; exact hd.ahead, by rw [cell_of_row w x 17 _ _ _ h]; exact hd.frm, by rw [cell_of_row w x 18 _ _ _ h]; exact hd.til⟩
end Go.Proofs.Ytpimfhkigbcniaa.Bo
