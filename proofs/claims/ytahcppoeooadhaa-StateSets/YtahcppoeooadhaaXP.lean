import Derived.Test.YtahcppoeooadhaaXO
namespace Go.Proofs.Ytahcppoeooadhaa
open Go.ChangeShapes Go.WideShapes Go.ChangeAt Go.RowKit Num
attribute [local go_sem] run_store_float frombits_run bits_run

/-- a block of four cells -/
theorem cells4 {w : World} {x : Nat} {v0 v1 v2 v3 : Value} {T : TypeId} (h : w.heap[x]? = some (.cells #[v0, v1, v2, v3] T (0, 0))) :
    w.cell? ⟨x, 0, none⟩ = some v0 ∧ w.cell? ⟨x, 1, none⟩ = some v1 ∧ w.cell? ⟨x, 2, none⟩ = some v2 ∧ w.cell? ⟨x, 3, none⟩ = some v3 ∧ x < w.heap.size :=
  ⟨by rw [cell_of_row w x 0 _ _ _ h]; rfl, by rw [cell_of_row w x 1 _ _ _ h]; rfl, by rw [cell_of_row w x 2 _ _ _ h]; rfl, by rw [cell_of_row w x 3 _ _ _ h]; rfl, lt_of_block h⟩
/-- both states, apart from one another and from all that was there -/
structure Play (W w : World) (bm : Nat) (Fm : List Nat) (br : Nat) (Fr : List Nat) (l : List Nat) : Prop where
  m : Cel 54 w bm Fm l
  r : Cel 56 w br Fr l
  below : Below W.heap.size W w
  am : Abv W.heap.size Fm
  ar : Abv W.heap.size Fr
  ap : Sep Fm Fr
section
variable {W w w' : World} {bm br : Nat} {Fm Fr : List Nat} {l : List Nat}
/-- first the one, then the other one has turned -/
theorem Play.both {w1 : World} {l' : List Nat} (h : Play W w bm Fm br Fr l) (hm : Cel 54 w1 bm Fm l') (ht : Turn Fm Fm w w1) (hr : Cel 56 w1 br Fr l → Cel 56 w' br Fr l' ∧ Turn Fr Fr w1 w') : Play W w' bm Fm br Fr l' := by
  have q := hr (h.r.turn ht h.ap.symm)
  exact ⟨hm.turn q.2 h.ap, q.1, turn_chain (turn_chain h.below ht h.am) q.2 h.ar, h.am, h.ar, h.ap⟩
theorem Play.on (h : Play W w bm Fm br Fr l) (hb : Below w.heap.size w w') : Play W w' bm Fm br Fr l :=
  ⟨h.m.on hb, h.r.on hb, below_chain h.below hb, h.am, h.ar, h.ap⟩
theorem Play.same (h : Play W w bm Fm br Fr l) (hb : Same w w') : Play W w' bm Fm br Fr l := h.on (hb.below _)
theorem Play.alloc (h : Play W w bm Fm br Fr l) (x : Obj) : Play W (w.alloc x) bm Fm br Fr l := h.on (below_alloc _ x)
/-- a clone in the state's place, the old one left -/
theorem Play.clone {w1 : World} {nb : Nat} {F' : List Nat} (h : Play W w bm Fm br Fr l) (hm : Cel 54 w1 nb F' l) (ha : Abv w.heap.size F') (hb : Below w.heap.size w w1) (ht : Turn Fm Fm w1 w') : Play W w' nb F' br Fr l :=
  ⟨hm.turn ht (ha.sep h.m.blw), (h.r.on hb).turn ht h.ap.symm, turn_chain (below_chain h.below hb) ht h.am, ha.mono h.below.size, h.ar, ha.sep h.r.blw⟩
/-- a clone changed and left -/
theorem Play.leave {w1 : World} {F' : List Nat} (h : Play W w bm Fm br Fr l) (ha : Abv w.heap.size F') (hb : Below w.heap.size w w1) (ht : Turn F' F' w1 w') : Play W w' bm Fm br Fr l :=
  h.on (hb.trans (ht.below ha hb.size))
/-- what lies behind all of these -/
theorem Turn.new {F F' : List Nat} {w w' : World} {x : Obj} (ht : Turn F F' (w.alloc x) w') (hb : Blw w F) : w'.heap[w.heap.size]? = (w.alloc x).heap[w.heap.size]? :=
  ht.block _ (by simp) (fun q => absurd (hb _ q) (Nat.lt_irrefl _))
theorem box_old {F F' : List Nat} {w w1 w2 : World} {x : Obj} (ht : Turn F F' w1 w2) (hl : Blw w F) (hb : Below (w.alloc x).heap.size (w.alloc x) w1) : w2.heap[w.heap.size]? = (w.alloc x).heap[w.heap.size]? :=
  (ht.block _ (Nat.lt_of_lt_of_le (by simp) hb.size) (fun q => absurd (hl _ q) (Nat.lt_irrefl _))).trans (hb.block _ (by simp))
theorem box_new {F F' : List Nat} {w w1 w2 : World} {x : Obj} (ht : Turn F F' w1 w2) (ha : Abv (w.alloc x).heap.size F) (hb : Below (w.alloc x).heap.size (w.alloc x) w1) : w2.heap[w.heap.size]? = (w.alloc x).heap[w.heap.size]? :=
  (ht.block _ (Nat.lt_of_lt_of_le (by simp) hb.size) (fun q => absurd (ha _ q) (by simp))).trans (hb.block _ (by simp))
theorem sameB_comm (l m : List Nat) : sameB l m = sameB m l := by
  unfold sameB
  rw [Bool.eq_iff_iff, beq_iff_eq, beq_iff_eq]
  exact eq_comm
end
/-- both have come to the same -/
def Goes (W w : World) (bm br : Nat) : Prop := ∃ Fm Fr l, Play W w bm Fm br Fr l
theorem Goes.mk {W w : World} {bm br : Nat} {Fm Fr : List Nat} {l : List Nat} (h : Play W w bm Fm br Fr l) : Goes W w bm br := ⟨_, _, _, h⟩
section
variable {W w : World} {bm br : Nat} {Fm Fr : List Nat} {l : List Nat}
set_option maxHeartbeats 2000000 in
set_option maxRecDepth 100000 in
theorem step_get (h : Play W w bm Fm br Fr l) (C : Int) (X : Nat) (P : Value) : Calls Try.prog 27 #[.pointer (some ⟨bm, 0, none⟩), .pointer (some ⟨br, 0, none⟩), .agg #[.int .i64 1, .int .i64 C, .int .u64 X, P]] w fun e w' => e = .returned (.bool true) ∧ Goes W w' bm br := by
  have HP := Lib.hid (h.alloc (.cells #[.int .i64 1, .int .i64 C, .int .u64 X, P] 59))
  have HG := Lib.hid (get_any HP.out.m C)
  have HR := Lib.hid (refGet_any HP.out.r C)
  generalize getV l C = x at HG HR
  generalize cellE l.length C = y at HG HR
  clear h
  go_enter Try.func27, Try.ntmps27
  go_wp2_with (first
    | (go_at_call 20; refine HG.out.mono ?_; rintro e w1 ⟨rfl, hw⟩; subst w1)
    | (go_at_call 36; refine HR.out.mono ?_; rintro e w2 ⟨rfl, hw⟩; subst w2))
  go_ret
  exact ⟨by simp, Goes.mk HP.out⟩
set_option maxHeartbeats 2000000 in
set_option maxRecDepth 100000 in
theorem step_set (h : Play W w bm Fm br Fr l) (C : Int) (X : Nat) (P : Value) : Calls Try.prog 27 #[.pointer (some ⟨bm, 0, none⟩), .pointer (some ⟨br, 0, none⟩), .agg #[.int .i64 2, .int .i64 C, .int .u64 X, P]] w fun e w' => e = .returned (.bool true) ∧ Goes W w' bm br := by
  have HP := Lib.hid (h.alloc (.cells #[.int .i64 2, .int .i64 C, .int .u64 X, P] 59))
  have HX := Lib.hid (heap_alloc_new w (.cells #[.int .i64 2, .int .i64 C, .int .u64 X, P] 59))
  have HBL := Lib.hid h.m.blw
  have HS : Hid (∀ w1, Same (w.alloc (.cells #[.int .i64 2, .int .i64 C, .int .u64 X, P] 59)) w1 → Calls Try.prog 18 #[.pointer (some ⟨bm, 0, none⟩), .int .i64 C, .float .f64 X] w1 fun e w' => e = .returned (.int .i64 (cellE l.length C)) ∧ Cel 54 w' bm Fm (setL l C X) ∧ Turn Fm Fm (w.alloc (.cells #[.int .i64 2, .int .i64 C, .int .u64 X, P] 59)) w') := fun w1 k => (set_any (HP.out.m.same k) C X).mono fun e w' ⟨a1, a2, a3⟩ => ⟨a1, a2, (k.turn _).trans a3⟩
  have HR : Hid (∀ w1 w2, Cel 56 w1 br Fr l → Same w1 w2 → Calls Try.prog 37 #[.pointer (some ⟨br, 0, none⟩), .int .i64 C, .float .f64 X] w2 fun e w' => e = .returned (.int .i64 (cellE l.length C)) ∧ Cel 56 w' br Fr (setL l C X) ∧ Turn Fr Fr w1 w') := fun w1 w2 h k => (refSet_any (h.same k) C X).mono fun e w' ⟨a1, a2, a3⟩ => ⟨a1, a2, (k.turn _).trans a3⟩
  generalize setL l C X = l2 at HS HR
  generalize cellE l.length C = y at HS HR
  clear h
  go_enter Try.func27, Try.ntmps27
  go_wp2
  go_region_with (first
    | (go_at_call 19; refine (raw6_any _ _).mono ?_; rintro e w1 ⟨rfl, hw⟩; subst w1)
    | (go_at_call 18; refine (HS.out _ (by first | exact Same.refl _ | exact Same.drew _ | exact Same.drewN _ _)).mono ?_; rintro e w1 ⟨rfl, hc, ht⟩; have HC1 := Lib.hid hc; have HT1 := Lib.hid ht; have hx := (ht.new HBL.out).trans HX.out; obtain ⟨q0, q1, q2, q3, q4⟩ := cells4 hx; clear hc ht hx))
  all_goals (try go_wp2)
  all_goals (go_region_with (first
    | (go_at_call 19; refine (raw6_any _ _).mono ?_; rintro e w2 ⟨rfl, hw⟩; subst w2)
    | (go_at_call 37; refine (HR.out w1 _ (HP.out.r.turn HT1.out HP.out.ap.symm) (by first | exact Same.refl _ | exact Same.drew _ | exact Same.drewN _ _)).mono ?_; rintro e w2 ⟨rfl, hc, ht⟩; have HP2 := Lib.hid (HP.out.both HC1.out HT1.out (fun _ => ⟨hc, ht⟩)); clear hc ht)))
  all_goals (try go_wp2)
  all_goals go_ret
  all_goals first
    | exact ⟨by simp, Goes.mk HP2.out⟩
    | exact ⟨by simp, Goes.mk (HP2.out.same (Same.drew _))⟩
    | exact ⟨by simp, Goes.mk (HP2.out.same (Same.drewN _ _))⟩
set_option maxHeartbeats 2000000 in
set_option maxRecDepth 100000 in
theorem step_other (h : Play W w bm Fm br Fr l) (K : Int) (h1 : K ≠ 1) (h2 : K ≠ 2) (h3 : K ≠ 3) (h4 : K ≠ 4) (h5 : K ≠ 5) (C : Int) (X : Nat) (P : Value) : Calls Try.prog 27 #[.pointer (some ⟨bm, 0, none⟩), .pointer (some ⟨br, 0, none⟩), .agg #[.int .i64 K, .int .i64 C, .int .u64 X, P]] w fun e w' => e = .returned (.bool true) ∧ Goes W w' bm br := by
  have HP := Lib.hid (h.alloc (.cells #[.int .i64 K, .int .i64 C, .int .u64 X, P] 59))
  clear h
  go_enter Try.func27, Try.ntmps27
  go_wp2
  go_ret
  exact ⟨rfl, Goes.mk HP.out⟩
end
end Go.Proofs.Ytahcppoeooadhaa
