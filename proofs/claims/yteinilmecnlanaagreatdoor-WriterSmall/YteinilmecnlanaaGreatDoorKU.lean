import Derived.Test.YteinilmecnlanaaGreatDoorKS
namespace Go.Proofs.YteinilmecnlanaaGreatDoor
open Go.ChangeShapes Go.WideShapes Go.ChangeAt Go.RowKit Num
attribute [local go_sem] run_store_float

/-! two machines side by side, and what tells that they answer the same -/
theorem row_at {w : World} {p : Option Addr} {c n : Nat} {l : List Nat} (h : RowAt 73 w p c (fls l)) (hn : l.length = n) (i : Nat) (hi : i < n) : ∃ g, p = some ⟨g, 0, none⟩ ∧ g < w.heap.size ∧ w.cell? ⟨g, i, none⟩ = some (.float .f64 (l.getD i 0)) := by
  rcases h.own.2 with ⟨hv, _⟩ | ⟨g, cap, cur, hv, _⟩
  · injection hv with _ h2 _
    rw [fls_len] at h2
    omega
  · injection hv with h1 _ _
    subst h1
    obtain ⟨r1, _, r2⟩ := row_get h (j := i) (v := .float .f64 (l.getD i 0)) (by simp [fls, show i < l.length by omega])
    exact ⟨g, rfl, r2, r1⟩
theorem trow_at {w : World} {p : Option Addr} {c n : Nat} {l : Wr} (h : TRow w p c l) (hn : l.length = n) (i : Nat) (hi : i < n) : ∃ g, p = some ⟨g, 0, none⟩ ∧ g < w.heap.size ∧ w.cell? ⟨g, i * 2, none⟩ = some (.int .i64 (l.getD i (0, 0)).1) ∧ w.cell? ⟨g, i * 2 + 1, none⟩ = some (.float .f64 (l.getD i (0, 0)).2) := by
  obtain ⟨g, r1, r2, r3, r4, _⟩ := h.at i (by omega)
  rw [show l.getD i (0, 0) = l[i]'(by omega) by simp [show i < l.length by omega]]
  exact ⟨g, r1, r2, r3, r4⟩
theorem ask_cells {w : World} {g : Nat} {a : Ask} (h : w.heap[g]? = some (.cells #[.int .i64 a.kind, .int .i64 a.cell, .float .f64 a.x, .bool a.first] 139 (0, 0))) : w.cell? ⟨g, 0, none⟩ = some (.int .i64 a.kind) := by
  rw [cell_of_row w g 0 _ _ _ h]; rfl
/-- two machines, all new since N -/
structure TwoM (N wr : World) (b1 b2 : Nat) (K1 K2 : List Nat) (m1 m2 : Mac) : Prop where
  mc : ∃ F1 F2, Mc wr b1 F1 K1 m1 ∧ Mc wr b2 F2 K2 m2 ∧ Sep F1 F2 ∧ Sep K1 F2 ∧ Sep K2 F1 ∧ Abv N.heap.size F1 ∧ Abv N.heap.size F2
  bl : Below N.heap.size N wr
  sh : Shaped5 N
section
variable {N wr : World} {b1 b2 : Nat} {K1 K2 : List Nat} {m1 m2 : Mac}
theorem TwoM.swap (h : TwoM N wr b1 b2 K1 K2 m1 m2) : TwoM N wr b2 b1 K2 K1 m2 m1 := by
  obtain ⟨⟨F1, F2, q1, q2, s, s1, s2, a1, a2⟩, hb, hs⟩ := h
  exact ⟨⟨F2, F1, q2, q1, fun k hk z => s k z hk, s2, s1, a2, a1⟩, hb, hs⟩
theorem TwoM.on (h : TwoM N wr b1 b2 K1 K2 m1 m2) {u : World} (k : Below wr.heap.size wr u) : TwoM N u b1 b2 K1 K2 m1 m2 := by
  obtain ⟨⟨F1, F2, q1, q2, s, s1, s2, a1, a2⟩, hb, hs⟩ := h
  exact ⟨⟨F1, F2, q1.on k, q2.on k, s, s1, s2, a1, a2⟩, hb.trans (k.mono hb.size), hs⟩
theorem TwoM.alloc (h : TwoM N wr b1 b2 K1 K2 m1 m2) (o : Obj) : TwoM N (wr.alloc o) b1 b2 K1 K2 m1 m2 := h.on (below_alloc _ o)
theorem two_turned {F1 F2 : List Nat} {u : World} {m' : Mac} (q2 : Mc wr b2 F2 K2 m2) (s : Sep F1 F2) (s1 : Sep K1 F2) (s2 : Sep K2 F1) (a1 : Abv N.heap.size F1) (a2 : Abv N.heap.size F2) (hb : Below N.heap.size N wr) (hs : Shaped5 N) (q : Gm wr F1 b1 K1 u m') : TwoM N u b1 b2 K1 K2 m' m2 := by
  obtain ⟨F', hM, t⟩ := q.mc
  exact ⟨⟨F', F2, hM, q2.turn t (fun k hk z => s k z hk) s2, fun k hk z => (t.own k hk).elim (fun y => s k y z) (fun y => absurd (q2.blw k z) (Nat.not_lt.2 y)), s1, fun k hk z => (t.own k z).elim (fun y => s2 k hk y) (fun y => absurd (q2.blwK k hk) (Nat.not_lt.2 y)), a1.turn hb.size t, a2⟩, hb.trans (t.below a1 hb.size), hs⟩
theorem TwoM.step (h : TwoM N wr b1 b2 K1 K2 m1 m2) (hI : Inv m1) : Calls Tryz.prog 91 #[.pointer (some ⟨b1, 0, none⟩)] wr fun e u => e = .returned (askV (stepM m1).2) ∧ TwoM N u b1 b2 K1 K2 (stepM m1).1 m2 := by
  obtain ⟨⟨F1, F2, q1, q2, s, s1, s2, a1, a2⟩, hb, hs⟩ := h
  exact (step_any q1.gm ⟨hs.on hb, fun q => absurd (World.block_lt_of_cell? N _ (hs.shp 0 (by omega)).1) (Nat.not_lt.2 (a1 _ q))⟩ hI).mono fun e u ⟨r1, r2⟩ => ⟨r1, two_turned q2 s s1 s2 a1 a2 hb hs r2⟩
theorem TwoM.step2 (h : TwoM N wr b1 b2 K1 K2 m1 m2) (hI : Inv m2) : Calls Tryz.prog 91 #[.pointer (some ⟨b2, 0, none⟩)] wr fun e u => e = .returned (askV (stepM m2).2) ∧ TwoM N u b1 b2 K1 K2 m1 (stepM m2).1 :=
  (h.swap.step hI).mono fun _ _ ⟨r1, r2⟩ => ⟨r1, r2.swap⟩
theorem TwoM.give (h : TwoM N wr b1 b2 K1 K2 m1 m2) (hI : Inv m1) (x : Nat) : Calls Tryz.prog 93 #[.pointer (some ⟨b1, 0, none⟩), .float .f64 x] wr fun e u => e = .returned (.int .i64 (giveE m1)) ∧ TwoM N u b1 b2 K1 K2 (giveM m1 x) m2 := by
  obtain ⟨⟨F1, F2, q1, q2, s, s1, s2, a1, a2⟩, hb, hs⟩ := h
  exact (give_any q1.gm hI x).mono fun e u ⟨r1, r2⟩ => ⟨r1, two_turned q2 s s1 s2 a1 a2 hb hs r2⟩
theorem TwoM.give2 (h : TwoM N wr b1 b2 K1 K2 m1 m2) (hI : Inv m2) (x : Nat) : Calls Tryz.prog 93 #[.pointer (some ⟨b2, 0, none⟩), .float .f64 x] wr fun e u => e = .returned (.int .i64 (giveE m2)) ∧ TwoM N u b1 b2 K1 K2 m1 (giveM m2 x) :=
  (h.swap.give hI x).mono fun _ _ ⟨r1, r2⟩ => ⟨r1, r2.swap⟩
theorem TwoM.gm (h : TwoM N wr b1 b2 K1 K2 m1 m2) : ∃ F, Gm wr F b1 K1 wr m1 := by
  obtain ⟨⟨F1, F2, q1, _⟩, _⟩ := h
  exact ⟨F1, q1.gm⟩
theorem two_made {N u v : World} {b1 b2 : Nat} {K1 K2 : List Nat} {m1 m2 : Mac} (g : Gm N [] b1 K1 u m1) (g2 : Gm u [] b2 K2 v m2) (hA : Abv u.heap.size K2) (hsh : Shaped5 N) : TwoM N v b1 b2 K1 K2 m1 m2 := by
  obtain ⟨F, hM, t⟩ := g.mc
  obtain ⟨F2, hM2, t2⟩ := g2.mc
  have hu := g.fresh
  have a1 : Abv N.heap.size F := fun k hk => (t.own k hk).elim (fun z => by simp at z) id
  have a2 : Abv u.heap.size F2 := fun k hk => (t2.own k hk).elim (fun z => by simp at z) id
  exact ⟨⟨F, F2, hM.on g2.fresh, hM2, fun k hk z => absurd (hM.blw k hk) (Nat.not_lt.2 (a2 k z)), fun k hk z => absurd (hM.blwK k hk) (Nat.not_lt.2 (a2 k z)), fun k hk z => absurd (hM.blw k z) (Nat.not_lt.2 (hA k hk)), a1, fun k hk => Nat.le_trans hu.size (a2 k hk)⟩, hu.trans (g2.fresh.mono hu.size), hsh⟩
end
end Go.Proofs.YteinilmecnlanaaGreatDoor
