import Derived.Test.YtlebjdohneiaaaaYO
namespace Go.Proofs.Ytlebjdohneiaaaa
open Go.ChangeShapes Go.WideShapes Go.ChangeAt Go.RowKit Num Go.Maps
attribute [local go_sem] run_store_float frombits_run bits_run

/-- a block of three cells -/
theorem cells3 {w : World} {x : Nat} {v0 v1 v2 : Value} {T : TypeId} (h : w.heap[x]? = some (.cells #[v0, v1, v2] T (0, 0))) :
    w.cell? ⟨x, 0, none⟩ = some v0 ∧ w.cell? ⟨x, 1, none⟩ = some v1 ∧ w.cell? ⟨x, 2, none⟩ = some v2 ∧ x < w.heap.size :=
  ⟨by rw [cell_of_row w x 0 _ _ _ h]; rfl, by rw [cell_of_row w x 1 _ _ _ h]; rfl, by rw [cell_of_row w x 2 _ _ _ h]; rfl, lt_of_block h⟩
/-- both buffers, apart from one another and from all that was there -/
structure Play (W w : World) (bm : Nat) (Fm : List Nat) (br : Nat) (Fr : List Nat) (mo : Int) (l l' : Wr) : Prop where
  m : Buf w bm Fm mo l
  r : Ref w br Fr mo l'
  below : Below W.heap.size W w
  am : Abv W.heap.size Fm
  ar : Abv W.heap.size Fr
  ap : Sep Fm Fr
section
variable {W w w' : World} {bm br : Nat} {Fm Fr : List Nat} {m : Int} {l l' : Wr}
theorem Play.onM {F' : List Nat} {k : Wr} (h : Play W w bm Fm br Fr m l l') (hm : Buf w' bm F' m k) (ht : Turn Fm F' w w') : Play W w' bm F' br Fr m k l' :=
  ⟨hm, h.r.turn ht h.ap.symm, turn_chain h.below ht h.am, h.am.turn h.below.size ht, h.ar, (h.ap.symm.turn h.r.blw ht).symm⟩
theorem Play.onR {F' : List Nat} {k : Wr} (h : Play W w bm Fm br Fr m l l') (hr : Ref w' br F' m k) (ht : Turn Fr F' w w') : Play W w' bm Fm br F' m l k :=
  ⟨h.m.turn ht h.ap, hr, turn_chain h.below ht h.ar, h.am, h.ar.turn h.below.size ht, h.ap.turn h.m.blw ht⟩
theorem Play.on (h : Play W w bm Fm br Fr m l l') (hb : Below w.heap.size w w') : Play W w' bm Fm br Fr m l l' :=
  ⟨h.m.on hb, h.r.on hb, below_chain h.below hb, h.am, h.ar, h.ap⟩
theorem Play.same (h : Play W w bm Fm br Fr m l l') (hb : Same w w') : Play W w' bm Fm br Fr m l l' := h.on (hb.below _)
theorem Play.alloc (h : Play W w bm Fm br Fr m l l') (x : Obj) : Play W (w.alloc x) bm Fm br Fr m l l' := h.on (below_alloc _ x)
/-- a clone in the buffer's place, the old one left -/
theorem Play.clone {w1 : World} {nb : Nat} {F' F2 : List Nat} (h : Play W w bm Fm br Fr m l l') (hm : Buf w1 nb F' m l) (ha : Abv w.heap.size F') (hb : Below w.heap.size w w1) (ht : Turn Fm F2 w1 w') : Play W w' nb F' br Fr m l l' :=
  ⟨hm.turn ht (ha.sep h.m.blw), (h.r.on hb).turn ht h.ap.symm, turn_chain (below_chain h.below hb) ht h.am, ha.mono h.below.size, h.ar, ha.sep h.r.blw⟩
/-- a clone changed and left -/
theorem Play.leave {w1 : World} {F' F2 : List Nat} (h : Play W w bm Fm br Fr m l l') (ha : Abv w.heap.size F') (hb : Below w.heap.size w w1) (ht : Turn F' F2 w1 w') : Play W w' bm Fm br Fr m l l' :=
  h.on (hb.trans (ht.below ha hb.size))
/-- what lies behind all of these -/
theorem Turn.new {F F' : List Nat} {w w' : World} {x : Obj} (ht : Turn F F' (w.alloc x) w') (hb : Blw w F) : w'.heap[w.heap.size]? = (w.alloc x).heap[w.heap.size]? :=
  ht.block _ (by simp) (fun q => absurd (hb _ q) (Nat.lt_irrefl _))
theorem box_old {F F' : List Nat} {w w1 w2 : World} {x : Obj} (ht : Turn F F' w1 w2) (hl : Blw w F) (hb : Below (w.alloc x).heap.size (w.alloc x) w1) : w2.heap[w.heap.size]? = (w.alloc x).heap[w.heap.size]? :=
  (ht.block _ (Nat.lt_of_lt_of_le (by simp) hb.size) (fun q => absurd (hl _ q) (Nat.lt_irrefl _))).trans (hb.block _ (by simp))
theorem box_new {F F' : List Nat} {w w1 w2 : World} {x : Obj} (ht : Turn F F' w1 w2) (ha : Abv (w.alloc x).heap.size F) (hb : Below (w.alloc x).heap.size (w.alloc x) w1) : w2.heap[w.heap.size]? = (w.alloc x).heap[w.heap.size]? :=
  (ht.block _ (Nat.lt_of_lt_of_le (by simp) hb.size) (fun q => absurd (ha _ q) (by simp))).trans (hb.block _ (by simp))
end
/-- both have come to the same -/
def Goes (W w : World) (bm br : Nat) (m : Int) : Prop := ∃ Fm Fr l, Play W w bm Fm br Fr m l l
theorem Goes.mk {W w : World} {bm br : Nat} {Fm Fr : List Nat} {m : Int} {l : Wr} (h : Play W w bm Fm br Fr m l l) : Goes W w bm br m := ⟨_, _, _, h⟩
section
variable {W w : World} {bm br : Nat} {Fm Fr : List Nat} {m : Int} {l : Wr}
set_option maxHeartbeats 2000000 in
set_option maxRecDepth 100000 in
theorem step_put (h : Play W w bm Fm br Fr m l l) {C : Int} (hC : (Lit.int .i64 C).wf = true) (X : Nat) : Calls Try.prog 13 #[.pointer (some ⟨bm, 0, none⟩), .pointer (some ⟨br, 0, none⟩), .agg #[.int .i64 1, .int .i64 C, .int .u64 X]] w fun e w' => e = .returned (.bool true) ∧ Goes W w' bm br m := by
  have HP := Lib.hid (h.alloc (.cells #[.int .i64 1, .int .i64 C, .int .u64 X] 34))
  have HX := Lib.hid (heap_alloc_new w (.cells #[.int .i64 1, .int .i64 C, .int .u64 X] 34))
  have HBL := Lib.hid h.m.blw
  have HS : Hid (∀ w1, Same (w.alloc (.cells #[.int .i64 1, .int .i64 C, .int .u64 X] 34)) w1 → Calls Try.prog 18 #[.pointer (some ⟨bm, 0, none⟩), .int .i64 C, .float .f64 X] w1 fun e w' => e = .returned (.tuple #[.bool (putF m l C), .int .i64 (putE m l C)]) ∧ (∃ F', Play W w' bm F' br Fr m (putL m l C X) l) ∧ w'.heap[w.heap.size]? = (w.alloc (.cells #[.int .i64 1, .int .i64 C, .int .u64 X] 34)).heap[w.heap.size]?) := fun w1 k => (put_any (HP.out.m.same k) hC X).mono fun e w' ⟨F', a1, a2, a3⟩ => by
    have ht := (k.turn _).trans a3
    exact ⟨a1, ⟨F', HP.out.onM a2 ht⟩, ht.new HBL.out⟩
  have HBR := Lib.hid h.r.blw
  have HR : Hid (∀ w1 w2 F', Play W w1 bm F' br Fr m (putL m l C X) l → Same w1 w2 → w.heap.size < w1.heap.size → Calls Try.prog 22 #[.pointer (some ⟨br, 0, none⟩), .int .i64 C, .float .f64 X] w2 fun e w' => e = .returned (.tuple #[.bool (putF m l C), .int .i64 (putE m l C)]) ∧ Goes W w' bm br m ∧ w'.heap[w.heap.size]? = w1.heap[w.heap.size]?) := fun w1 w2 F' h k hlt => (refPut_any (h.r.same k) C X).mono fun e w' ⟨F2, a1, a2, a3⟩ => by
    have ht := (k.turn _).trans a3
    exact ⟨a1, Goes.mk (h.onR a2 ht), ht.block _ hlt (fun q => absurd (HBR.out _ q) (Nat.lt_irrefl _))⟩
  generalize putF m l C = y at HS HR
  generalize putE m l C = z at HS HR
  generalize putL m l C X = l2 at HS HR
  clear h hC
  go_enter Try.func13, Try.ntmps13
  go_wp2
  go_region_held (fun w' => w'.cell? ⟨w.heap.size, 1, none⟩ = some (.int .i64 C) ∧ w'.cell? ⟨w.heap.size, 2, none⟩ = some (.int .u64 X)) (go_keep) (first
    | (go_at_call 19; refine (raw7_any _ _).mono ?_; rintro e w1 ⟨rfl, hw⟩; subst w1)
    | (go_at_call 18; refine (HS.out _ (by first | exact Same.refl _ | exact Same.drew _ | exact Same.drewN _ _)).mono ?_; rintro e w1 ⟨rfl, ⟨F1, hp⟩, hx⟩; have HP1 := Lib.hid hp; have HX1 := Lib.hid (hx.trans HX.out); obtain ⟨q0, q1, q2, q3⟩ := cells3 HX1.out; clear hp hx))
  go_wp2
  go_region_held (fun w' => w'.cell? ⟨w.heap.size, 1, none⟩ = some (.int .i64 C) ∧ w'.cell? ⟨w.heap.size, 2, none⟩ = some (.int .u64 X)) (go_keep) (first
    | (go_at_call 19; refine (raw7_any _ _).mono ?_; rintro e w2 ⟨rfl, hw⟩; subst w2)
    | (go_at_call 22; refine (HR.out w1 _ F1 HP1.out (by first | exact Same.refl _ | exact Same.drew _ | exact Same.drewN _ _) q3).mono ?_; rintro e w2 ⟨rfl, hg, hx⟩; have HP2 := Lib.hid hg; obtain ⟨r0, r1, r2, r3⟩ := cells3 (hx.trans HX1.out); clear hg hx))
  go_wp2
  go_ret
  exact ⟨by simp, HP2.out⟩
end
end Go.Proofs.Ytlebjdohneiaaaa
