import Derived.Test.YtbeijepdklchaaaM5
import Derived.Test.YtbeijepdklchaaaM10
namespace Go.Proofs.Ytbeijepdklchaaa
open Go.ChangeShapes Go.WideShapes Go.ChangeAt Go.RowKit

/-- a block of three cells -/
theorem cells3 {w : World} {x : Nat} {v0 v1 v2 : Value} {T : TypeId} (h : w.heap[x]? = some (.cells #[v0, v1, v2] T (0, 0))) :
    w.cell? ⟨x, 0, none⟩ = some v0 ∧ w.cell? ⟨x, 1, none⟩ = some v1 ∧ w.cell? ⟨x, 2, none⟩ = some v2 ∧ x < w.heap.size :=
  ⟨by rw [cell_of_row w x 0 _ _ _ h]; rfl, by rw [cell_of_row w x 1 _ _ _ h]; rfl, by rw [cell_of_row w x 2 _ _ _ h]; rfl, lt_of_block h⟩
/-- both memories, apart from one another and from all that was there -/
structure Play (W w : World) (bm gm br gr : Nat) (ws : List Int) (o : Bool) (c : Int) (vs : List Int) (p : Bool) (d : Int) : Prop where
  m : MemAt 57 w bm gm ws o c
  r : MemAt 59 w br gr vs p d
  below : Below W.heap.size W w
  hm : W.heap.size ≤ bm ∧ W.heap.size ≤ gm
  hr : W.heap.size ≤ br ∧ W.heap.size ≤ gr
  ap : bm ≠ br ∧ bm ≠ gr ∧ gm ≠ br ∧ gm ≠ gr
/-- both have come to the same -/
def Goes (W w : World) (bm gm br gr : Nat) : Prop := ∃ ws o c, Play W w bm gm br gr ws o c ws o c
theorem Goes.mk {W w : World} {bm gm br gr : Nat} {ws : List Int} {o : Bool} {c : Int} (h : Play W w bm gm br gr ws o c ws o c) : Goes W w bm gm br gr := ⟨_, _, _, h⟩
section
variable {W w : World} {bm gm br gr : Nat} {ws vs : List Int} {o p : Bool} {c d : Int}
theorem Play.onM {w' : World} {ws' : List Int} {o' : Bool} {c' : Int} (h : Play W w bm gm br gr ws o c vs p d) (hm : MemAt 57 w' bm gm ws' o' c') (hc : Chg bm gm w w') : Play W w' bm gm br gr ws' o' c' vs p d :=
  ⟨hm, h.r.chg hc h.ap.1.symm h.ap.2.2.1.symm h.ap.2.1.symm h.ap.2.2.2.symm, below_chg h.below hc h.hm.1 h.hm.2, h.hm, h.hr, h.ap⟩
theorem Play.onR {w' : World} {vs' : List Int} {p' : Bool} {d' : Int} (h : Play W w bm gm br gr ws o c vs p d) (hr : MemAt 59 w' br gr vs' p' d') (hc : Chg br gr w w') : Play W w' bm gm br gr ws o c vs' p' d' :=
  ⟨h.m.chg hc h.ap.1 h.ap.2.1 h.ap.2.2.1 h.ap.2.2.2, hr, below_chg h.below hc h.hr.1 h.hr.2, h.hm, h.hr, h.ap⟩
theorem Play.on {w' : World} (h : Play W w bm gm br gr ws o c vs p d) (hb : Below w.heap.size w w') : Play W w' bm gm br gr ws o c vs p d :=
  ⟨h.m.on hb, h.r.on hb, below_chain h.below hb, h.hm, h.hr, h.ap⟩
theorem Play.alloc (h : Play W w bm gm br gr ws o c vs p d) (x : Obj) : Play W (w.alloc x) bm gm br gr ws o c vs p d := h.on ((Below.refl _ _).alloc (Nat.le_refl _) x)
/-- a clone in the memory's place, the old one left -/
theorem Play.clone {w1 w2 : World} {nb : Nat} {vs' : List Int} {p' : Bool} {d' : Int} (h : Play W w bm gm br gr ws o c vs' p' d') (hn : w.heap.size ≤ nb) (hm : MemAt 57 w1 nb w.heap.size ws o c) (hb : Below w.heap.size w w1) (hc : Chg bm gm w1 w2) : Play W w2 nb w.heap.size br gr ws o c vs' p' d' := by
  have h1 := h.m.ltB
  have h2 := h.m.ltG
  have h3 := h.r.ltB
  have h4 := h.r.ltG
  have hs := h.below.size
  refine ⟨hm.chg hc (by omega) (by omega) (by omega) (by omega), (h.r.on hb).chg hc h.ap.1.symm h.ap.2.2.1.symm h.ap.2.1.symm h.ap.2.2.2.symm, below_chg (below_chain h.below hb) hc h.hm.1 h.hm.2, ⟨by omega, hs⟩, h.hr, ⟨by omega, by omega, by omega, by omega⟩⟩
/-- a clone changed and left -/
theorem Play.leave {w1 w2 : World} {nb : Nat} {vs' : List Int} {p' : Bool} {d' : Int} (h : Play W w bm gm br gr ws o c vs' p' d') (hn : w.heap.size ≤ nb) (hb : Below w.heap.size w w1) (hc : Chg nb w.heap.size w1 w2) : Play W w2 bm gm br gr ws o c vs' p' d' :=
  h.on (hb.trans (hc.below hn (Nat.le_refl _) hb.size))

set_option maxHeartbeats 2000000 in
set_option maxRecDepth 100000 in
theorem step_open (h : Play W w bm gm br gr ws o c ws o c) (A V : Int) : Calls Try.prog 15 #[.pointer (some ⟨bm, 0, none⟩), .pointer (some ⟨br, 0, none⟩), .agg #[.int .i64 1, .int .i64 A, .int .u64 V]] w fun e w' => e = .returned (.bool true) ∧ Goes W w' bm gm br gr := by
  have HP := Lib.hid (h.alloc (.cells #[.int .i64 1, .int .i64 A, .int .u64 V] 34))
  have HX := Lib.hid (heap_alloc_new w (.cells #[.int .i64 1, .int .i64 A, .int .u64 V] 34))
  have HNE : Hid (w.heap.size ≠ bm ∧ w.heap.size ≠ gm) := ⟨Nat.ne_of_gt h.m.ltB, Nat.ne_of_gt h.m.ltG⟩
  clear h
  go_enter Try.func15, Try.ntmps15
  go_wp2_with (first
    | (go_at_call 24; refine (open_any HP.out.m).mono ?_; rintro e w1 ⟨rfl, hm, hc⟩; have HP1 := Lib.hid (HP.out.onM hm hc); have hx := (hc.block w.heap.size (by simp) HNE.out.1 HNE.out.2).trans HX.out; obtain ⟨q0, q1, q2, q3⟩ := cells3 hx; clear hm hc hx)
    | (go_at_call 31; refine (refOpen_any HP1.out.r).mono ?_; rintro e w2 ⟨rfl, hm, hc⟩; have HP2 := Lib.hid (HP1.out.onR hm hc); clear hm hc))
  go_ret
  exact ⟨rfl, Goes.mk HP2.out⟩
set_option maxHeartbeats 2000000 in
set_option maxRecDepth 100000 in
theorem step_load (h : Play W w bm gm br gr ws o c ws o c) (A V : Int) : Calls Try.prog 15 #[.pointer (some ⟨bm, 0, none⟩), .pointer (some ⟨br, 0, none⟩), .agg #[.int .i64 2, .int .i64 A, .int .u64 V]] w fun e w' => e = .returned (.bool true) ∧ Goes W w' bm gm br gr := by
  have HP := Lib.hid (h.alloc (.cells #[.int .i64 2, .int .i64 A, .int .u64 V] 34))
  have HX := Lib.hid (heap_alloc_new w (.cells #[.int .i64 2, .int .i64 A, .int .u64 V] 34))
  have HNE : Hid (w.heap.size ≠ bm ∧ w.heap.size ≠ gm) := ⟨Nat.ne_of_gt h.m.ltB, Nat.ne_of_gt h.m.ltG⟩
  clear h
  go_enter Try.func15, Try.ntmps15
  go_wp2_with (first
    | (go_at_call 25; refine (load_any HP.out.m _).mono ?_; rintro e w1 ⟨rfl, hm, hc⟩; have HP1 := Lib.hid (HP.out.onM hm hc); have hx := (hc.block w.heap.size (by simp) HNE.out.1 HNE.out.2).trans HX.out; obtain ⟨q0, q1, q2, q3⟩ := cells3 hx; clear hm hc hx)
    | (go_at_call 32; refine (refLoad_any HP1.out.r _).mono ?_; rintro e w2 ⟨rfl, hm, hc⟩; have HP2 := Lib.hid (HP1.out.onR hm hc); clear hm hc))
  go_ret
  exact ⟨by simp, Goes.mk HP2.out⟩
set_option maxHeartbeats 2000000 in
set_option maxRecDepth 100000 in
theorem step_store (h : Play W w bm gm br gr ws o c ws o c) (A V : Int) : Calls Try.prog 15 #[.pointer (some ⟨bm, 0, none⟩), .pointer (some ⟨br, 0, none⟩), .agg #[.int .i64 3, .int .i64 A, .int .u64 V]] w fun e w' => e = .returned (.bool true) ∧ Goes W w' bm gm br gr := by
  have HP := Lib.hid (h.alloc (.cells #[.int .i64 3, .int .i64 A, .int .u64 V] 34))
  have HX := Lib.hid (heap_alloc_new w (.cells #[.int .i64 3, .int .i64 A, .int .u64 V] 34))
  have HNE : Hid (w.heap.size ≠ bm ∧ w.heap.size ≠ gm) := ⟨Nat.ne_of_gt h.m.ltB, Nat.ne_of_gt h.m.ltG⟩
  clear h
  go_enter Try.func15, Try.ntmps15
  go_wp2_with (first
    | (go_at_call 26; refine (store_any HP.out.m _ _).mono ?_; rintro e w1 ⟨rfl, hm, hc⟩; have HP1 := Lib.hid (HP.out.onM hm hc); have hx := (hc.block w.heap.size (by simp) HNE.out.1 HNE.out.2).trans HX.out; obtain ⟨q0, q1, q2, q3⟩ := cells3 hx; clear hm hc hx)
    | (go_at_call 33; refine (refStore_any HP1.out.r _ _).mono ?_; rintro e w2 ⟨rfl, hm, hc⟩; have HP2 := Lib.hid (HP1.out.onR hm hc); clear hm hc))
  go_ret
  exact ⟨by simp, Goes.mk HP2.out⟩
set_option maxHeartbeats 2000000 in
set_option maxRecDepth 100000 in
theorem step_add (h : Play W w bm gm br gr ws o c ws o c) (A V : Int) : Calls Try.prog 15 #[.pointer (some ⟨bm, 0, none⟩), .pointer (some ⟨br, 0, none⟩), .agg #[.int .i64 4, .int .i64 A, .int .u64 V]] w fun e w' => e = .returned (.bool true) ∧ Goes W w' bm gm br gr := by
  have HP := Lib.hid (h.alloc (.cells #[.int .i64 4, .int .i64 A, .int .u64 V] 34))
  have HX := Lib.hid (heap_alloc_new w (.cells #[.int .i64 4, .int .i64 A, .int .u64 V] 34))
  have HNE : Hid (w.heap.size ≠ bm ∧ w.heap.size ≠ gm) := ⟨Nat.ne_of_gt h.m.ltB, Nat.ne_of_gt h.m.ltG⟩
  clear h
  go_enter Try.func15, Try.ntmps15
  go_wp2_with (first
    | (go_at_call 27; refine (add_any HP.out.m _ _).mono ?_; rintro e w1 ⟨rfl, hm, hc⟩; have HP1 := Lib.hid (HP.out.onM hm hc); have hx := (hc.block w.heap.size (by simp) HNE.out.1 HNE.out.2).trans HX.out; obtain ⟨q0, q1, q2, q3⟩ := cells3 hx; clear hm hc hx)
    | (go_at_call 34; refine (refAdd_any HP1.out.r _ _).mono ?_; rintro e w2 ⟨rfl, hm, hc⟩; have HP2 := Lib.hid (HP1.out.onR hm hc); clear hm hc))
  go_ret
  exact ⟨by simp, Goes.mk HP2.out⟩
set_option maxHeartbeats 2000000 in
set_option maxRecDepth 100000 in
theorem step_peek (h : Play W w bm gm br gr ws o c ws o c) (A V : Int) : Calls Try.prog 15 #[.pointer (some ⟨bm, 0, none⟩), .pointer (some ⟨br, 0, none⟩), .agg #[.int .i64 5, .int .i64 A, .int .u64 V]] w fun e w' => e = .returned (.bool true) ∧ Goes W w' bm gm br gr := by
  have HP := Lib.hid (h.alloc (.cells #[.int .i64 5, .int .i64 A, .int .u64 V] 34))
  have HX := Lib.hid (heap_alloc_new w (.cells #[.int .i64 5, .int .i64 A, .int .u64 V] 34))
  have HNE : Hid (w.heap.size ≠ bm ∧ w.heap.size ≠ gm) := ⟨Nat.ne_of_gt h.m.ltB, Nat.ne_of_gt h.m.ltG⟩
  clear h
  obtain ⟨x, hx⟩ : ∃ x, (if hasB ws A then wordAt ws A else 0) = x := ⟨_, rfl⟩
  obtain ⟨y, hy⟩ : ∃ y, errP ws A = y := ⟨_, rfl⟩
  have HV := Lib.hid hx
  have HE := Lib.hid hy
  clear hx hy
  go_enter Try.func15, Try.ntmps15
  go_wp2_with (first
    | (go_at_call 30; refine (peek_any HP.out.m _).mono ?_; rw [HV.out, HE.out]; rintro e w1 ⟨rfl, hw⟩; subst w1)
    | (go_at_call 35; refine (refPeek_any HP.out.r _).mono ?_; rw [HV.out, HE.out]; rintro e w2 ⟨rfl, hw⟩; subst w2))
  go_ret
  exact ⟨by simp, Goes.mk HP.out⟩
set_option maxHeartbeats 2000000 in
set_option maxRecDepth 100000 in
theorem step_poke (h : Play W w bm gm br gr ws o c ws o c) (A V : Int) : Calls Try.prog 15 #[.pointer (some ⟨bm, 0, none⟩), .pointer (some ⟨br, 0, none⟩), .agg #[.int .i64 6, .int .i64 A, .int .u64 V]] w fun e w' => e = .returned (.bool true) ∧ Goes W w' bm gm br gr := by
  have HP := Lib.hid (h.alloc (.cells #[.int .i64 6, .int .i64 A, .int .u64 V] 34))
  have HX := Lib.hid (heap_alloc_new w (.cells #[.int .i64 6, .int .i64 A, .int .u64 V] 34))
  have HNE : Hid (w.heap.size ≠ bm ∧ w.heap.size ≠ gm) := ⟨Nat.ne_of_gt h.m.ltB, Nat.ne_of_gt h.m.ltG⟩
  clear h
  go_enter Try.func15, Try.ntmps15
  go_wp2_with (first
    | (go_at_call 28; refine (poke_any HP.out.m _ _).mono ?_; rintro e w1 ⟨rfl, hm, hc⟩; have HP1 := Lib.hid (HP.out.onM hm hc); have hx := (hc.block w.heap.size (by simp) HNE.out.1 HNE.out.2).trans HX.out; obtain ⟨q0, q1, q2, q3⟩ := cells3 hx; clear hm hc hx)
    | (go_at_call 36; refine (refPoke_any HP1.out.r _ _).mono ?_; rintro e w2 ⟨rfl, hm, hc⟩; have HP2 := Lib.hid (HP1.out.onR hm hc); clear hm hc))
  go_ret
  exact ⟨by simp, Goes.mk HP2.out⟩
set_option maxHeartbeats 2000000 in
set_option maxRecDepth 100000 in
theorem step_none (h : Play W w bm gm br gr ws o c ws o c) (K A V : Int) (h1 : ¬ K = 1) (h2 : ¬ K = 2) (h3 : ¬ K = 3) (h4 : ¬ K = 4) (h5 : ¬ K = 5) (h6 : ¬ K = 6) (h7 : ¬ K = 7) : Calls Try.prog 15 #[.pointer (some ⟨bm, 0, none⟩), .pointer (some ⟨br, 0, none⟩), .agg #[.int .i64 K, .int .i64 A, .int .u64 V]] w fun e w' => e = .returned (.bool true) ∧ Goes W w' bm gm br gr := by
  have HP := Lib.hid (h.alloc (.cells #[.int .i64 K, .int .i64 A, .int .u64 V] 34))
  clear h
  go_enter Try.func15, Try.ntmps15
  go_wp2
  go_ret
  exact ⟨rfl, Goes.mk HP.out⟩
theorem words_all {w : World} {ga B gv cv : Nat} {l : List Int} (hl : l.length ≤ 4096) (ha : RowAt w ga l) (hb : w.ownsRow B 32 1 (.slice (some ⟨gv, 0, none⟩) l.length cv) l.length (u64s l)) :
    Calls Try.prog 17 #[.slice (some ⟨ga, 0, none⟩) l.length l.length, .slice (some ⟨gv, 0, none⟩) l.length cv] w fun e w' => e = .returned (.bool true) ∧ Below w.heap.size w w' := by
  refine words_cells l.length ga gv l.length cv (fun i => l.getD i 0) w hl (fun i hi => ?_) (fun i hi => ?_)
  · rw [ha.word hi]; simp [hi]
  · rw [World.ownsRow.cellAt hb i (by omega)]; simp [u64s, hi]
set_option maxHeartbeats 2000000 in
set_option maxRecDepth 100000 in
theorem step_all (h : Play W w bm gm br gr ws o c ws o c) (A V : Int) : Calls Try.prog 15 #[.pointer (some ⟨bm, 0, none⟩), .pointer (some ⟨br, 0, none⟩), .agg #[.int .i64 7, .int .i64 A, .int .u64 V]] w fun e w' => e = .returned (.bool true) ∧ Goes W w' bm gm br gr := by
  have HP := Lib.hid (h.alloc (.cells #[.int .i64 7, .int .i64 A, .int .u64 V] 34))
  have HL := Lib.hid h.m.many
  clear h
  go_enter Try.func15, Try.ntmps15
  go_wp2_with (first
    | (go_at_call 16; refine (refAll_any HP.out.r).mono ?_; rintro e w1 ⟨gv, cv, rfl, ho, hb⟩; have HO1 := Lib.hid ho; have HP1 := Lib.hid (HP.out.on hb); clear ho hb HP)
    | (go_at_call 10; refine (len_any HP1.out.m).mono ?_; rintro e w2 ⟨rfl, hw⟩; subst w2)
    | (go_at_call 21; refine (refLen_any HP1.out.r).mono ?_; rintro e w2 ⟨rfl, hw⟩; subst w2)
    | (go_at_call 19; refine (count_any HP1.out.m).mono ?_; rintro e w2 ⟨rfl, hw⟩; subst w2)
    | (go_at_call 20; refine (refCount_any HP1.out.r).mono ?_; rintro e w2 ⟨rfl, hw⟩; subst w2)
    | (go_at_call 18; refine (all_any HP1.out.m).mono ?_; rintro e w2 ⟨rfl, hr, hb⟩; have HR2 := Lib.hid hr; have HO2 := Lib.hid (World.ownsRow.kept HO1.out (w' := w2) (row := none) ⟨hb.os, hb.tape, hb.output, hb.size, fun k hk _ => hb.block k hk⟩ (Or.inr (by simp [Value.ownBlock]))); have HP2 := Lib.hid (HP1.out.on hb); clear hr hb HP1 HO1)
    | (go_at_call 17; refine (words_all HL.out HR2.out HO2.out).mono ?_; rintro e w3 ⟨rfl, hb⟩; have HP3 := Lib.hid (HP2.out.on hb); clear hb HP2))
  go_ret
  exact ⟨by simp, Goes.mk HP3.out⟩
theorem step_any (h : Play W w bm gm br gr ws o c ws o c) (K A V : Int) : Calls Try.prog 15 #[.pointer (some ⟨bm, 0, none⟩), .pointer (some ⟨br, 0, none⟩), .agg #[.int .i64 K, .int .i64 A, .int .u64 V]] w fun e w' => e = .returned (.bool true) ∧ Goes W w' bm gm br gr := by
  by_cases h1 : K = 1
  · subst h1; exact step_open h A V
  by_cases h2 : K = 2
  · subst h2; exact step_load h A V
  by_cases h3 : K = 3
  · subst h3; exact step_store h A V
  by_cases h4 : K = 4
  · subst h4; exact step_add h A V
  by_cases h5 : K = 5
  · subst h5; exact step_peek h A V
  by_cases h6 : K = 6
  · subst h6; exact step_poke h A V
  by_cases h7 : K = 7
  · subst h7; exact step_all h A V
  exact step_none h K A V h1 h2 h3 h4 h5 h6 h7
end
end Go.Proofs.Ytbeijepdklchaaa
