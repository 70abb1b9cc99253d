import Derived.Test.YtdfmmolhfacahaaVA
namespace Go.Proofs.Ytdfmmolhfacahaa
open Go.ChangeShapes Go.WideShapes Go.ChangeAt Go.RowKit

/-- with clones of a memory, of a coming and of a scan beside -/
structure Cl (W w : World) (X bm gm br gr xc yc xs ys : Nat) (A : Int) (ws : List Int) (o : Bool) (n : Int) (vs : List Int) (p : Bool) (k : Int) (c e : Cs) (s u : Ss) (nb gn x2 z2 : Nat) (wt : List Int) (ot : Bool) (nt : Int) (ct : Cs) (st : Ss) : Prop where
  y : Wd W w X bm gm br gr xc yc xs ys A ws o n vs p k c e s u
  m2 : MemAt 79 w nb gn wt ot nt
  ne2 : bm ≠ nb ∧ gm ≠ gn ∧ gr ≠ gn
  lo2 : W.heap.size ≤ nb ∧ W.heap.size ≤ gn ∧ W.heap.size ≤ x2 ∧ W.heap.size ≤ z2
  c2 : CmAt w x2 ct
  s2 : ScAt w z2 st
  nx : xc ≠ x2
  nz : xs ≠ z2
section
variable {W w w' : World} {X bm gm br gr xc yc xs ys : Nat} {A : Int} {ws ws' vs vs' : List Int} {o o' p p' : Bool} {n n' k k' : Int} {c c' e e' : Cs} {s s' u u' : Ss}
variable {nb gn x2 z2 : Nat} {wt wt' : List Int} {ot ot' : Bool} {nt nt' : Int} {ct : Cs} {st : Ss}
theorem Cl.open2 (h : Cl W w X bm gm br gr xc yc xs ys A ws o n vs p k c e s u nb gn x2 z2 wt ot nt ct st) (hm : MemAt 79 w' nb gn wt' ot' nt') (q : Chg nb gn w w') : Cl W w' X bm gm br gr xc yc xs ys A ws o n vs p k c e s u nb gn x2 z2 wt' ot' nt' ct st :=
  ⟨⟨((q.block X (lt_of_block h.y.box) (ne_ty h.y.box h.m2.box rfl) (ne_ty h.y.box h.m2.row rfl)).trans h.y.box), (h.y.m.keep (q.block bm h.y.m.ltB h.ne2.1 (ne_ty h.y.m.box h.m2.row rfl)) (q.block gm h.y.m.ltG (ne_ty h.y.m.row h.m2.box rfl) h.ne2.2.1)), (h.y.d.keep (q.block br h.y.d.ltB (ne_ty h.y.d.box h.m2.box rfl) (ne_ty h.y.d.box h.m2.row rfl)) (q.block gr h.y.d.ltG (ne_ty h.y.d.row h.m2.box rfl) h.ne2.2.2)), ((q.block xc (lt_of_block h.y.c) (ne_ty h.y.c h.m2.box rfl) (ne_ty h.y.c h.m2.row rfl)).trans h.y.c), ((q.block yc (lt_of_block h.y.e) (ne_ty h.y.e h.m2.box rfl) (ne_ty h.y.e h.m2.row rfl)).trans h.y.e), ((q.block xs (lt_of_block h.y.s) (ne_ty h.y.s h.m2.box rfl) (ne_ty h.y.s h.m2.row rfl)).trans h.y.s), ((q.block ys (lt_of_block h.y.u) (ne_ty h.y.u h.m2.box rfl) (ne_ty h.y.u h.m2.row rfl)).trans h.y.u), below_chg h.y.below q h.lo2.1 h.lo2.2.1, h.y.lo, h.y.ne⟩, hm, h.ne2, h.lo2, ((q.block x2 (lt_of_block h.c2) (ne_ty h.c2 h.m2.box rfl) (ne_ty h.c2 h.m2.row rfl)).trans h.c2), ((q.block z2 (lt_of_block h.s2) (ne_ty h.s2 h.m2.box rfl) (ne_ty h.s2 h.m2.row rfl)).trans h.s2), h.nx, h.nz⟩
theorem Cl.onC2 (h : Cl W w X bm gm br gr xc yc xs ys A ws o n vs p k c e s u nb gn x2 z2 wt ot nt ct st) (hm : MemAt 79 w' nb gn wt' ot' nt') (hx : CmAt w' xc c') (q : Ch3 nb gn xc w w') : Cl W w' X bm gm br gr xc yc xs ys A ws o n vs p k c' e s u nb gn x2 z2 wt' ot' nt' ct st :=
  ⟨⟨((q.block X (lt_of_block h.y.box) (ne_ty h.y.box h.m2.box rfl) (ne_ty h.y.box h.m2.row rfl) (ne_ty h.y.box h.y.c rfl)).trans h.y.box), (h.y.m.keep (q.block bm h.y.m.ltB h.ne2.1 (ne_ty h.y.m.box h.m2.row rfl) (ne_ty h.y.m.box h.y.c rfl)) (q.block gm h.y.m.ltG (ne_ty h.y.m.row h.m2.box rfl) h.ne2.2.1 (ne_ty h.y.m.row h.y.c rfl))), (h.y.d.keep (q.block br h.y.d.ltB (ne_ty h.y.d.box h.m2.box rfl) (ne_ty h.y.d.box h.m2.row rfl) (ne_ty h.y.d.box h.y.c rfl)) (q.block gr h.y.d.ltG (ne_ty h.y.d.row h.m2.box rfl) h.ne2.2.2 (ne_ty h.y.d.row h.y.c rfl))), hx, ((q.block yc (lt_of_block h.y.e) (ne_ty h.y.e h.m2.box rfl) (ne_ty h.y.e h.m2.row rfl) (ne_ty h.y.e h.y.c rfl)).trans h.y.e), ((q.block xs (lt_of_block h.y.s) (ne_ty h.y.s h.m2.box rfl) (ne_ty h.y.s h.m2.row rfl) (ne_ty h.y.s h.y.c rfl)).trans h.y.s), ((q.block ys (lt_of_block h.y.u) (ne_ty h.y.u h.m2.box rfl) (ne_ty h.y.u h.m2.row rfl) (ne_ty h.y.u h.y.c rfl)).trans h.y.u), h.y.below.trans (q.below h.lo2.1 h.lo2.2.1 h.y.lo.2.1 h.y.below.size), h.y.lo, h.y.ne⟩, hm, h.ne2, h.lo2, ((q.block x2 (lt_of_block h.c2) (ne_ty h.c2 h.m2.box rfl) (ne_ty h.c2 h.m2.row rfl) h.nx.symm).trans h.c2), ((q.block z2 (lt_of_block h.s2) (ne_ty h.s2 h.m2.box rfl) (ne_ty h.s2 h.m2.row rfl) (ne_ty h.s2 h.y.c rfl)).trans h.s2), h.nx, h.nz⟩
theorem Cl.onS2 (h : Cl W w X bm gm br gr xc yc xs ys A ws o n vs p k c e s u nb gn x2 z2 wt ot nt ct st) (hm : MemAt 79 w' nb gn wt' ot' nt') (hx : ScAt w' xs s') (q : Ch3 nb gn xs w w') : Cl W w' X bm gm br gr xc yc xs ys A ws o n vs p k c e s' u nb gn x2 z2 wt' ot' nt' ct st :=
  ⟨⟨((q.block X (lt_of_block h.y.box) (ne_ty h.y.box h.m2.box rfl) (ne_ty h.y.box h.m2.row rfl) (ne_ty h.y.box h.y.s rfl)).trans h.y.box), (h.y.m.keep (q.block bm h.y.m.ltB h.ne2.1 (ne_ty h.y.m.box h.m2.row rfl) (ne_ty h.y.m.box h.y.s rfl)) (q.block gm h.y.m.ltG (ne_ty h.y.m.row h.m2.box rfl) h.ne2.2.1 (ne_ty h.y.m.row h.y.s rfl))), (h.y.d.keep (q.block br h.y.d.ltB (ne_ty h.y.d.box h.m2.box rfl) (ne_ty h.y.d.box h.m2.row rfl) (ne_ty h.y.d.box h.y.s rfl)) (q.block gr h.y.d.ltG (ne_ty h.y.d.row h.m2.box rfl) h.ne2.2.2 (ne_ty h.y.d.row h.y.s rfl))), ((q.block xc (lt_of_block h.y.c) (ne_ty h.y.c h.m2.box rfl) (ne_ty h.y.c h.m2.row rfl) (ne_ty h.y.c h.y.s rfl)).trans h.y.c), ((q.block yc (lt_of_block h.y.e) (ne_ty h.y.e h.m2.box rfl) (ne_ty h.y.e h.m2.row rfl) (ne_ty h.y.e h.y.s rfl)).trans h.y.e), hx, ((q.block ys (lt_of_block h.y.u) (ne_ty h.y.u h.m2.box rfl) (ne_ty h.y.u h.m2.row rfl) (ne_ty h.y.u h.y.s rfl)).trans h.y.u), h.y.below.trans (q.below h.lo2.1 h.lo2.2.1 h.y.lo.2.2.2.1 h.y.below.size), h.y.lo, h.y.ne⟩, hm, h.ne2, h.lo2, ((q.block x2 (lt_of_block h.c2) (ne_ty h.c2 h.m2.box rfl) (ne_ty h.c2 h.m2.row rfl) (ne_ty h.c2 h.y.s rfl)).trans h.c2), ((q.block z2 (lt_of_block h.s2) (ne_ty h.s2 h.m2.box rfl) (ne_ty h.s2 h.m2.row rfl) h.nz.symm).trans h.s2), h.nx, h.nz⟩
theorem cl_new {w1 w2 w3 : World} (h : Wd W w X bm gm br gr xc yc xs ys A ws o n vs p k c e s u) (ln : w.heap.size ≤ nb) (hm : MemAt 79 w1 nb w.heap.size wt ot nt) (h1 : Below w.heap.size w w1) (lx : w1.heap.size ≤ x2) (hx : CmAt w2 x2 ct) (h2 : Below w1.heap.size w1 w2) (lz : w2.heap.size ≤ z2) (hz : ScAt w3 z2 st) (h3 : Below w2.heap.size w2 w3) : Cl W w3 X bm gm br gr xc yc xs ys A ws o n vs p k c e s u nb w.heap.size x2 z2 wt ot nt ct st := by
  have e1 := h.m.ltB
  have e2 := h.m.ltG
  have e3 := h.d.ltG
  have e4 := h.c.lt
  have e5 := h.s.lt
  have e6 := h1.size
  have e7 := h2.size
  have e8 := h.below.size
  exact ⟨((h.on h1).on h2).on h3, (hm.on h2).on h3, ⟨by omega, by omega, by omega⟩, ⟨by omega, by omega, by omega, by omega⟩, hx.on h3, hz, by omega, by omega⟩
set_option maxRecDepth 100000 in
set_option maxHeartbeats 4000000 in
theorem clones_any (h : Wd W w X bm gm br gr xc yc xs ys A ws o n vs p k c e s u) (hc : COk c) (hs : SOk s) : Calls Try.prog 50 #[.pointer (some ⟨X, 0, none⟩)] w fun r w' => r = .returned (.tuple #[]) ∧ ∃ x2 z2, Wd W w' X bm gm br gr x2 yc z2 ys A ws o n vs p k c e s u := by
  obtain ⟨a0, a1, a2, a3, a4, a5, a6, a7⟩ := h.cells
  have H0 := Lib.hid h
  have HC := Lib.hid hc
  have HS := Lib.hid hs
  clear h hc hs
  go_enter Try.func50, Try.ntmps50
  go_wp2_with (first
    | (go_at_call 68; refine (clone_any H0.out.m).mono ?_; rintro r w1 ⟨nb, rfl, ln, hm, hb⟩; have H1 := Lib.hid (And.intro ln (And.intro hm hb)); obtain ⟨b0, b1, b2, b3, b4, b5, b6, b7⟩ := (H0.out.on hb).cells; clear ln hm hb)
    | (go_at_call 69; refine (cclone_any (H0.out.on H1.out.2.2).c).mono ?_; rintro r w2 ⟨x2, rfl, lx, hx, hb⟩; have H2 := Lib.hid (And.intro lx (And.intro hx hb)); obtain ⟨c0, c1, c2, c3, c4, c5, c6, c7⟩ := ((H0.out.on H1.out.2.2).on hb).cells; clear lx hx hb)
    | (go_at_call 70; refine (sclone_any ((H0.out.on H1.out.2.2).on H2.out.2.2).s).mono ?_; rintro r w3 ⟨z2, rfl, lz, hz, hb⟩; have H3 := Lib.hid (cl_new H0.out H1.out.1 H1.out.2.1 H1.out.2.2 H2.out.1 H2.out.2.1 H2.out.2.2 lz hz hb); clear lz hz hb H0 H1 H2)
    | (go_at_call 11; refine (open_any H3.out.m2).mono ?_; rintro r w4 ⟨rfl, hm, hch⟩; have H4 := Lib.hid (H3.out.open2 hm hch); obtain ⟨e0, e1, e2, e3, e4, e5, e6, e7⟩ := H4.out.y.cells; clear hm hch H3)
    | (go_at_call 12; refine (cstep_any H4.out.m2 H4.out.y.c HC.out).mono ?_; rintro r w5 ⟨rfl, hm, hx, hch⟩; have H5 := Lib.hid (H4.out.onC2 hm hx hch); clear hm hx hch H4)
    | (go_at_call 11; refine (open_any H5.out.m2).mono ?_; rintro r w6 ⟨rfl, hm, hch⟩; have H6 := Lib.hid (H5.out.open2 hm hch); obtain ⟨f0, f1, f2, f3, f4, f5, f6, f7⟩ := H6.out.y.cells; clear hm hch H5)
    | (go_at_call 13; refine (sstep_any H6.out.m2 H6.out.y.s HS.out).mono ?_; rintro r w7 ⟨rfl, hm, hx, hch⟩; have H7 := Lib.hid (H6.out.onS2 hm hx hch); obtain ⟨g0, g1, g2, g3, g4, g5, g6, g7⟩ := H7.out.y.cells; have g72 := g7 2; have g74 := g7 4; clear hm hx hch H6))
  go_end0
  have z1 := H7.out.y.setC H7.out.c2 H7.out.lo2.2.2.1
  exact ⟨rfl, _, _, z1.setS (H7.out.s2.keep (heap_setCell_other _ _ _ _ (ne_ty H7.out.s2 H7.out.y.box rfl))) H7.out.lo2.2.2.2⟩
end
end Go.Proofs.Ytdfmmolhfacahaa
