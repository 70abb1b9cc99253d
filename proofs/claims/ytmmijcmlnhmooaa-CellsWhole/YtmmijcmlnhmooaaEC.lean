import Derived.Test.YtmmijcmlnhmooaaEO
namespace Go.Proofs.Ytmmijcmlnhmooaa
open Go.ChangeShapes Go.WideShapes Go.ChangeAt Go.RowKit Num

/-- a memory, a read, a write, and a plan in a block of its own -/
structure Quad (W w : World) (bm gm br bw pb : Nat) (ws : List Int) (o : Bool) (n : Int) (r : Rd) (t : Wt) : Prop where
  trio : Trio W w bm gm br bw ws o n r t
  pl : w.heap[pb]? = some (.cells (planC 0 0 0 0 0 0) 31 (0, 0))
  neP : pb ≠ bm ∧ pb ≠ gm ∧ pb ≠ br ∧ pb ≠ bw
section
variable {W w w' : World} {bm gm br bw pb : Nat} {ws ws' : List Int} {o o' : Bool} {n n' : Int} {r : Rd} {t : Wt}
theorem Quad.m (h : Quad W w bm gm br bw pb ws o n r t) : MemAt 90 w bm gm ws o n := h.trio.duo.m
theorem Quad.rd (h : Quad W w bm gm br bw pb ws o n r t) : RdAt w br r := h.trio.duo.rd
theorem Quad.below (h : Quad W w bm gm br bw pb ws o n r t) : Below W.heap.size W w := h.trio.duo.below
theorem Quad.on (h : Quad W w bm gm br bw pb ws o n r t) (k : Below w.heap.size w w') : Quad W w' bm gm br bw pb ws o n r t := ⟨h.trio.on k, (k.block pb (lt_of_block h.pl)).trans h.pl, h.neP⟩
theorem Quad.mem (h : Quad W w bm gm br bw pb ws o n r t) (m : MemAt 90 w' bm gm ws' o' n') (k : Chg bm gm w w') : Quad W w' bm gm br bw pb ws' o' n' r t :=
  ⟨h.trio.mem m k, (k.block pb (lt_of_block h.pl) h.neP.1 h.neP.2.1).trans h.pl, h.neP⟩
theorem Quad.opened (h : Quad W w bm gm br bw pb ws o n r t) : Calls Try.prog 28 #[.pointer (some ⟨bm, 0, none⟩)] w fun e w' => e = .returned (.tuple #[]) ∧ Quad W w' bm gm br bw pb ws true n r t :=
  (open_any h.m).mono fun _ _ ⟨he, hm, hc⟩ => ⟨he, h.mem hm hc⟩
theorem Quad.poke (h : Quad W w bm gm br bw pb ws o n r t) (i v : Int) : Calls Try.prog 25 #[.pointer (some ⟨bm, 0, none⟩), .int .i64 i, .int .u64 v] w fun e w' => e = .returned (.int .i64 (errP ws i)) ∧ Quad W w' bm gm br bw pb (poked ws i v) o n r t :=
  (poke_any h.m i v).mono fun _ _ ⟨he, hm, hc⟩ => ⟨he, h.mem hm hc⟩
theorem Quad.stepR (h : Quad W w bm gm br bw pb ws o n r t) : Calls Try.prog 29 #[.pointer (some ⟨br, 0, none⟩), .pointer (some ⟨bm, 0, none⟩)] w fun e w' => e = .returned (.tuple #[.bool (endR r ws o), .int .i64 (errR r ws o)]) ∧ Quad W w' bm gm br bw pb ws (aftO (errR r ws o) o) (aftN (errR r ws o) n) (Go.Proofs.Ytmmijcmlnhmooaa.stepR r ws o) t :=
  (rstep_any h.m h.rd h.trio.duo.ne.1 h.trio.duo.ne.2).mono fun e w' ⟨he, hm, hr, hc⟩ => ⟨he, ⟨⟨h.below.trans (hc.below (by simp; exact h.trio.duo.new) h.below.size), hm, hr, h.trio.duo.new, h.trio.duo.ne⟩, h.trio.wt.ch hc (by simp; exact h.trio.neW), h.trio.newW, h.trio.neW⟩, (hc.block pb (lt_of_block h.pl) (by simp; exact ⟨h.neP.1, h.neP.2.1, h.neP.2.2.1⟩)).trans h.pl, h.neP⟩
theorem Quad.stepW (h : Quad W w bm gm br bw pb ws o n r t) : Calls Try.prog 30 #[.pointer (some ⟨bw, 0, none⟩), .pointer (some ⟨bm, 0, none⟩)] w fun e w' => e = .returned (.tuple #[.bool (endW t ws o), .int .i64 (errW t ws o)]) ∧ Quad W w' bm gm br bw pb (laidW t ws o) (aftO (errW t ws o) o) (aftN (errW t ws o) n) r (Go.Proofs.Ytmmijcmlnhmooaa.stepW t ws o) :=
  (wstep_any h.m h.trio.wt h.trio.neW.1 h.trio.neW.2.1).mono fun e w' ⟨he, hm, hr, hc⟩ => ⟨he, ⟨⟨h.below.trans (hc.below (by simp; exact ⟨h.trio.duo.new.1, h.trio.duo.new.2.1, h.trio.newW⟩) h.below.size), hm, h.rd.ch hc (by simp; exact ⟨h.trio.duo.ne.1, h.trio.duo.ne.2, Ne.symm h.trio.neW.2.2⟩), h.trio.duo.new, h.trio.duo.ne⟩, hr, h.trio.newW, h.trio.neW⟩, (hc.block pb (lt_of_block h.pl) (by simp; exact ⟨h.neP.1, h.neP.2.1, h.neP.2.2.2⟩)).trans h.pl, h.neP⟩
/-- another read begins in the place of the one that there was -/
theorem Quad.begin {q : Nat} {r' : Rd} (h : Quad W w bm gm br bw pb ws o n r t) (hq : w.heap.size ≤ q) (hr : RdAt w' q r') (k : Below w.heap.size w w') : Quad W w' bm gm q bw pb ws o n r' t :=
  ⟨⟨duo_new h.below h.m h.trio.duo.new.1 h.trio.duo.new.2.1 hq hr k, h.trio.wt.on k, h.trio.newW, ⟨h.trio.neW.1, h.trio.neW.2.1, fun e => by have := h.trio.wt.lt; omega⟩⟩, (k.block pb (lt_of_block h.pl)).trans h.pl, ⟨h.neP.1, h.neP.2.1, fun e => by have := lt_of_block h.pl; omega, h.neP.2.2.2⟩⟩
end
/-- a memory and a plan -/
structure Mpl (W w : World) (bm gm pb : Nat) (ws : List Int) (o : Bool) (n : Int) : Prop where
  below : Below W.heap.size W w
  m : MemAt 90 w bm gm ws o n
  pl : w.heap[pb]? = some (.cells (planC 0 0 0 0 0 0) 31 (0, 0))
  new : W.heap.size ≤ bm ∧ W.heap.size ≤ gm
  ne : pb ≠ bm ∧ pb ≠ gm
section
variable {W w w' w1 w2 : World} {bm gm pb : Nat} {ws ws' : List Int} {o o' : Bool} {n n' : Int}
theorem mpl_new (hb : Below W.heap.size W w) (hm : MemAt 90 w bm gm ws o n) (h1 : W.heap.size ≤ bm) (h2 : W.heap.size ≤ gm) : Mpl W (w.alloc (.cells (planC 0 0 0 0 0 0) 31)) bm gm w.heap.size ws o n :=
  ⟨bl_alloc hb _, hm.alloc _, alloc_at rfl, ⟨h1, h2⟩, ⟨fun e => by have := hm.ltB; omega, fun e => by have := hm.ltG; omega⟩⟩
theorem Mpl.on (h : Mpl W w bm gm pb ws o n) (k : Below w.heap.size w w') : Mpl W w' bm gm pb ws o n := ⟨below_step h.below k, h.m.on k, (k.block pb (lt_of_block h.pl)).trans h.pl, h.new, h.ne⟩
theorem Mpl.mem (h : Mpl W w bm gm pb ws o n) (m : MemAt 90 w' bm gm ws' o' n') (k : Chg bm gm w w') : Mpl W w' bm gm pb ws' o' n' :=
  ⟨h.below.trans (k.below h.new.1 h.new.2 h.below.size), m, (k.block pb (lt_of_block h.pl) h.ne.1 h.ne.2).trans h.pl, h.new, h.ne⟩
/-- a read, then a write, begin beside a memory and a plan -/
theorem quad_new {q v : Nat} {r : Rd} {t : Wt} (h : Mpl W w bm gm pb ws o n) (hq : w.heap.size ≤ q) (hr : RdAt w1 q r) (k : Below w.heap.size w w1) (hv : w1.heap.size ≤ v) (ht : WtAt w2 v t) (k2 : Below w1.heap.size w1 w2) : Quad W w2 bm gm q v pb ws o n r t :=
  have hp := lt_of_block h.pl
  ⟨trio_new (duo_new h.below h.m h.new.1 h.new.2 hq hr k) hv ht k2, (k2.block pb (Nat.lt_of_lt_of_le hp k.size)).trans ((k.block pb hp).trans h.pl), ⟨h.ne.1, h.ne.2, fun e => by omega, fun e => by have := k.size; omega⟩⟩
end
end Go.Proofs.Ytmmijcmlnhmooaa
