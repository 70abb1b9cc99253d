/- a lent program: its instructions, and two marked ones behind them -/
import Derived.Test.YtlnobfmbnnfbdaaGreatDoorC9
import Derived.Test.YtlnobfmbnnfbdaaGreatDoorCV
import Derived.Test.YtlnobfmbnnfbdaaGreatDoorCG
import Derived.Deep.AppendSrc
import Derived.Deep.MidRow
import Derived.Deep.Upon
import Derived.Laws.MakeOwn
namespace Go.Proofs.YtlnobfmbnnfbdaaGreatDoor
open Go.ChangeShapes Go.WideShapes Go.ChangeAt Go.RowKit Num
attribute [local go_sem] run_store_float

def markI : List Ins := [⟨77, 0, 0⟩, ⟨78, 0, 0⟩]
def lentI (c : List Ins) : List Ins := c ++ markI
theorem lentI_len (c : List Ins) : (lentI c).length = c.length + 2 := by simp [lentI, markI]
theorem insC_len (c : List Ins) : (c.flatMap insC).length = c.length * 3 := by
  induction c with
  | nil => rfl
  | cons i c ih => rw [List.flatMap_cons, List.length_append, ih]; simp [insC]; omega
theorem insC_one (c : List Ins) : ∀ u ∈ c.flatMap insC, u.oneCell' = true := by
  intro u hu
  obtain ⟨i, _, h⟩ := List.mem_flatMap.1 hu
  simp [insC] at h
  rcases h with rfl | rfl | rfl <;> rfl
theorem codeAt_range {w : World} {g off : Nat} {c : List Ins} (hg : g < w.heap.size) (h : w.rangeAt g off (c.flatMap insC)) : CodeAt w (some ⟨g, off, none⟩) c := fun k hk => by
  have e : ∀ j, j < 3 → w.cell? ⟨g, off + (k * 3 + j), none⟩ = (insC (ci c k))[j]? := fun j hj => by
    have h2 := flat_at insC 3 (fun _ => rfl) k c (ci c k) (ci_lt hk) j hj
    cases hq : (insC (ci c k))[j]? with
    | none =>
      rw [List.getElem?_eq_none_iff] at hq
      simp [insC] at hq
      omega
    | some v => exact h _ _ (h2.trans hq)
  exact ⟨g, off, rfl, hg, e 0 (by decide), e 1 (by decide), e 2 (by decide)⟩
theorem range_codeAt {w : World} {b off : Nat} {c : List Ins} (h : CodeAt w (some ⟨b, off, none⟩) c) : w.rangeAt b off (c.flatMap insC) := fun j v hv => by
  have hj : j < c.length * 3 := by
    have := (List.getElem?_eq_some_iff.1 hv).1
    rwa [insC_len] at this
  have hk : j / 3 < c.length := by omega
  obtain ⟨b', off', e, _, c0, c1, c2⟩ := h (j / 3) hk
  cases e
  have hr : j % 3 < 3 := Nat.mod_lt _ (by decide)
  have e2 := flat_at insC 3 (fun _ => rfl) (j / 3) c (ci c (j / 3)) (ci_lt hk) (j % 3) hr
  rw [show j / 3 * 3 + j % 3 = j by omega, hv] at e2
  have h3 : j % 3 = 0 ∨ j % 3 = 1 ∨ j % 3 = 2 := by omega
  rcases h3 with q | q | q
  · rw [show off + j = off + j / 3 * 3 by omega, c0, e2, q]; rfl
  · rw [show off + j = off + j / 3 * 3 + 1 by omega, c1, e2, q]; rfl
  · rw [show off + j = off + j / 3 * 3 + 2 by omega, c2, e2, q]; rfl
theorem src_code {w : World} {ao : Option Addr} {c : List Ins} (cap : Nat) (h : CodeAt w ao c) : Src Tryz.prog 3 22 (.slice ao c.length cap) c.length (c.flatMap insC) w := by
  cases ao with
  | none =>
    cases c with
    | nil => exact Src.ofNil w Tryz.underlying22 cap
    | cons i c =>
      obtain ⟨b, off, e, _⟩ := h 0 (by simp)
      cases e
  | some a =>
    refine Src.ofSlice w Tryz.underlying22 a c.length cap _ (insC_len c) (fun j u hu => ?_) (insC_one c)
    cases c with
    | nil => simp at hu
    | cons i c =>
      obtain ⟨b, off, e, _⟩ := h 0 (by simp)
      cases e
      rw [Addr.add_mid]
      exact range_codeAt h j u hu
theorem CodeAt.head {w : World} {ao : Option Addr} {c d : List Ins} (h : CodeAt w ao (c ++ d)) : CodeAt w ao c := fun k hk => by
  have := h k (by rw [List.length_append]; omega)
  rw [ci_append_lt hk] at this
  exact this
theorem make_lent (n : Nat) (hn : n * 24 ≤ reachBytes) (w : World) : (Instr.makeSlice 22 (.int .i64 0) (.int .i64 ((n : Int) + 2))).run Tryz.prog w = .ok (.slice (some ⟨w.heap.size, 0, none⟩) 0 (n + 2)) (w.alloc (.cells (madeCells #[.int .i64 0, .int .i64 0, .float .f64 0] ((n + 2) * 3)) 42)) := by
  obtain ⟨i, hi, hz0, hz1, hz2⟩ := info_parts instrInfo
  have h2 := reachBytes_lt
  have e3 : (2 : Nat) ^ 47 = 140737488355328 := by decide
  rw [run_make w 22 42 i _ Tryz.underlying22 hi hz0 .i64 .i64 0 ((n : Int) + 2) (Int.le_refl _) (by omega) (by rw [hz2]; omega) (by omega)]
  rw [hz1, show ((n : Int) + 2).toNat = n + 2 by omega]
  rfl
/-- behind lent's first append -/
structure Lent1 (w1 u : World) (c : List Ins) : Prop where
  bl : Below w1.heap.size w1 u
  sz : u.heap.size = w1.heap.size + 1
  got : u.rangeAt w1.heap.size 0 (c.flatMap insC)
  room : u.there w1.heap.size 0 ((c.length + 2) * 3)
theorem lent_one {w1 v : World} {ao : Option Addr} {c : List Ins} (cap : Nat) (hc : CodeAt w1 ao c) (ty : TypeId) (hs : Same (w1.alloc (.cells (madeCells #[.int .i64 0, .int .i64 0, .float .f64 0] ((c.length + 2) * 3)) 42)) v) (g : Nat) (hg0 : g = w1.heap.size) :
    ∃ x u, (Builtin.append_ #[22, 22] ty #[.slice (some ⟨g, 0, none⟩) 0 (c.length + 2), .slice ao c.length cap]).run Tryz.prog v = .ok x u ∧ (x = .slice (some ⟨g, 0, none⟩) c.length (c.length + 2) ∧ Lent1 w1 u c) := by
  subst hg0
  obtain ⟨i, hi, hz0, hz1, hz2⟩ := info_parts instrInfo
  have hg := heap_alloc_new w1 (.cells (madeCells #[.int .i64 0, .int .i64 0, .float .f64 0] ((c.length + 2) * 3)) 42)
  have hB2 : Below w1.heap.size w1 v := (box5 w1 _).trans (hs.below _)
  have hz : v.heap.size = w1.heap.size + 1 := by rw [hs.heap]; simp
  rw [← hs.heap] at hg
  have ht : v.there w1.heap.size 0 ((c.length + 2) * 3) := fun j hj => ⟨by
    rw [cell_of_row v _ _ _ _ _ hg, Nat.zero_add]
    have : j < (madeCells #[.int .i64 0, .int .i64 0, .float .f64 0] ((c.length + 2) * 3)).size := by rw [size_madeCells]; exact hj
    rw [Array.getElem?_eq_getElem this]
    rfl, frozen_of_row v _ _ _ _ hg⟩
  have r3 := run_append_room_src (P := Tryz.prog) v 22 22 ty 42 i Tryz.underlying22 hi w1.heap.size 0 0 (c.length + 2) (.slice ao c.length cap) c.length (c.flatMap insC) (by rw [hz1]; exact src_code cap (hc.on hB2)) (by omega)
    (fun j hj => by rw [insC_len] at hj; rw [Nat.zero_mul, Nat.zero_add]; have := (ht j (by omega)).1; rwa [Nat.zero_add] at this) (fun j hj => by rw [insC_len] at hj; rw [Nat.zero_mul, Nat.zero_add]; have := (ht j (by omega)).2; rwa [Nat.zero_add] at this)
  rw [Nat.zero_add, Nat.zero_mul, Nat.zero_add] at r3
  have t3 := turn_setCells w1.heap.size (c.flatMap insC) 0 v
  refine ⟨_, _, r3, rfl, hB2.trans (t3.below (B := w1.heap.size) (fun k hk => by simp at hk; omega) (by omega)), by rw [size_setCells]; exact hz, World.rangeAt_setCells_same v _ 0 _ (fun j hj => ht j (by rw [insC_len] at hj; omega)), World.there_setCells ht w1.heap.size 0 (c.flatMap insC)⟩
/-- behind lent's second append -/
structure Lent2 (w1 u : World) (c : List Ins) : Prop where
  bl : Below w1.heap.size w1 u
  lt : w1.heap.size < u.heap.size
  code : CodeAt u (some ⟨w1.heap.size, 0, none⟩) (lentI c)
theorem lent_two {w1 w3 : World} {c : List Ins} (h : Lent1 w1 w3 c) (ty : TypeId) (g k : Nat) (hg0 : g = w1.heap.size) (hk0 : k = w3.heap.size) :
    ∃ x u, (Builtin.append_ #[22, 22] ty #[.slice (some ⟨g, 0, none⟩) c.length (c.length + 2), .slice (some ⟨k, 0, none⟩) 2 2]).run Tryz.prog (w3.alloc (.cells #[.int .i64 77, .int .i64 0, .float .f64 0, .int .i64 78, .int .i64 0, .float .f64 0] 42)) = .ok x u ∧
      (x = .slice (some ⟨g, 0, none⟩) (c.length + 2) (c.length + 2) ∧ Lent2 w1 u c) := by
  subst hg0 hk0
  obtain ⟨i, hi, hz0, hz1, hz2⟩ := info_parts instrInfo
  have hsz := h.sz
  have hl := heap_alloc_new w3 (.cells #[.int .i64 77, .int .i64 0, .float .f64 0, .int .i64 78, .int .i64 0, .float .f64 0] 42)
  have z4 : (w3.alloc (.cells #[.int .i64 77, .int .i64 0, .float .f64 0, .int .i64 78, .int .i64 0, .float .f64 0] 42)).heap.size = w1.heap.size + 2 := by simp [hsz]
  have k4 := World.rangeAt_alloc h.got (.cells #[.int .i64 77, .int .i64 0, .float .f64 0, .int .i64 78, .int .i64 0, .float .f64 0] 42)
  have h4 := World.there_alloc h.room (.cells #[.int .i64 77, .int .i64 0, .float .f64 0, .int .i64 78, .int .i64 0, .float .f64 0] 42)
  have b4 : Below w1.heap.size w1 (w3.alloc (.cells #[.int .i64 77, .int .i64 0, .float .f64 0, .int .i64 78, .int .i64 0, .float .f64 0] 42)) := bl_alloc _ h.bl
  generalize hw4 : w3.alloc (.cells #[.int .i64 77, .int .i64 0, .float .f64 0, .int .i64 78, .int .i64 0, .float .f64 0] 42) = w4 at *
  have hm : markI.flatMap insC = [.int .i64 77, .int .i64 0, .float .f64 0, .int .i64 78, .int .i64 0, .float .f64 0] := rfl
  have s4 : Src Tryz.prog i.size 22 (.slice (some ⟨w3.heap.size, 0, none⟩) 2 2) 2 (markI.flatMap insC) w4 := by
    rw [hz1]
    refine Src.ofSlice w4 Tryz.underlying22 _ 2 2 _ rfl (fun j u hu => ?_) (insC_one _)
    rw [Addr.add_mid, Nat.zero_add, cell_of_row w4 _ _ _ _ _ hl, ← hu, hm]
    simp
  have t4 : w4.there w1.heap.size (c.length * 3) ((markI.flatMap insC).length) := fun j hj => by
    have := h4 (c.length * 3 + j) (by rw [insC_len] at hj; simp [markI] at hj; omega)
    rwa [Nat.zero_add] at this
  have r5 := run_append_room_src (P := Tryz.prog) w4 22 22 ty 42 i Tryz.underlying22 hi w1.heap.size 0 c.length (c.length + 2) (.slice (some ⟨w3.heap.size, 0, none⟩) 2 2) 2 (markI.flatMap insC) s4 (by omega)
    (fun j hj => by rw [hz1, Nat.zero_add]; exact (t4 j hj).1) (fun j hj => by rw [hz1, Nat.zero_add]; exact (t4 j hj).2)
  rw [Nat.zero_add, hz1] at r5
  have t5 := turn_setCells w1.heap.size (markI.flatMap insC) (c.length * 3) w4
  have z5 := size_setCells w1.heap.size (markI.flatMap insC) (c.length * 3) w4
  have k5 := World.rangeAt_setCells_apart k4 w1.heap.size (c.length * 3) (markI.flatMap insC) (.inr (.inl (by rw [insC_len]; omega)))
  have m5 := World.rangeAt_setCells_same w4 w1.heap.size (c.length * 3) (markI.flatMap insC) t4
  have hb5 : Below w1.heap.size w1 (w4.setCells w1.heap.size (c.length * 3) (markI.flatMap insC)) := b4.trans (t5.below (B := w1.heap.size) (fun k hk => by simp at hk; omega) (by omega))
  refine ⟨_, _, r5, rfl, hb5, by omega, codeAt_range (by omega) (fun j v hv => ?_)⟩
  unfold lentI at hv
  rw [List.flatMap_append] at hv
  by_cases hj : j < (c.flatMap insC).length
  · rw [List.getElem?_append_left hj] at hv
    exact k5 j v hv
  · rw [List.getElem?_append_right (by omega), insC_len] at hv
    have := m5 _ v hv
    rw [insC_len] at hj
    rw [show c.length * 3 + (j - c.length * 3) = 0 + j by omega] at this
    exact this
theorem same_self (t : Int) (c : List Ins) : sameB t t c c = true := by
  unfold sameB
  simp only [decide_true, Bool.true_and, List.all_eq_true, List.mem_range]
  intro k _
  unfold sameI
  simp
set_option maxHeartbeats 4000000 in
set_option maxRecDepth 100000 in
theorem lent_any {w : World} (t : Int) {ao : Option Addr} {c : List Ins} (cap : Nat) (hc : CodeAt w ao c) (hl : c.length * 24 ≤ reachBytes) :
    Calls Tryz.prog 10 #[progV t ao c.length cap] w fun e w' => ∃ g, e = .returned (progV t (some ⟨g, 0, none⟩) c.length (c.length + 2)) ∧ CodeAt w' (some ⟨g, 0, none⟩) (lentI c) ∧ Below w.heap.size w w' := by
  unfold progV
  have hmk := make_lent c.length hl
  have hlim : (c.length : Int) + 2 ≤ 9223372036854775807 := by
    have h2 := reachBytes_lt
    have e3 : (2 : Nat) ^ 47 = 140737488355328 := by decide
    omega
  have ewr : IntKind.i64.wrap ((c.length : Int) + 2) = (c.length : Int) + 2 := by
    rw [IntKind.wrap_i64]
    omega
  have hmw : ∀ w : World, (Instr.makeSlice 22 (.int .i64 0) (.int .i64 (IntKind.i64.wrap ((c.length : Int) + 2)))).run Tryz.prog w = .ok (.slice (some ⟨w.heap.size, 0, none⟩) 0 (c.length + 2)) (w.alloc (.cells (madeCells #[.int .i64 0, .int .i64 0, .float .f64 0] ((c.length + 2) * 3)) 42)) := fun w => by rw [ewr]; exact hmk w
  clear ewr
  obtain ⟨w1, hw1⟩ : ∃ w1, w1 = (w.alloc (.cells #[.int .i64 t, .slice ao c.length cap] 24)).alloc (.cells #[.int .i64 0, .slice none 0 0] 24) := ⟨_, rfl⟩
  have hz : w1.heap.size = w.heap.size + 2 := by rw [hw1]; simp
  have HC1 : Hid (CodeAt w1 ao c) := by
    show CodeAt w1 ao c
    rw [hw1]
    exact hc.on (bl_alloc _ (box5 _ _))
  have HB1 : Hid (Below w.heap.size w w1) := by
    show Below _ _ _
    rw [hw1]
    exact bl_alloc _ (box5 _ _)
  have hx0 : w1.heap[w.heap.size]? = some (.cells #[.int .i64 t, .slice ao c.length cap] 24 (0, 0)) := by
    rw [hw1, heap_alloc_old _ _ (by simp)]
    exact heap_alloc_new _ _
  have hx1 : w1.heap[w.heap.size + 1]? = some (.cells #[.int .i64 0, .slice none 0 0] 24 (0, 0)) := by
    have := heap_alloc_new (w.alloc (.cells #[.int .i64 t, .slice ao c.length cap] 24)) (.cells #[.int .i64 0, .slice none 0 0] 24)
    rw [hw1]
    simpa using this
  obtain ⟨p0, p1, p2⟩ := cells2_of hx0
  have HX0 := Lib.hid hx0
  have HX1 := Lib.hid hx1
  have HZ := Lib.hid hz
  clear hc hl hx0 hx1 hz
  go_enter Tryz.func10, Tryz.ntmps10
  go_wp2
  rw [← hw1]
  clear hw1
  have hz := HZ.out
  go_region_law (refine step_append_ex (by rfl) _ _ _ _ (by rfl) _ _ (by rfl) (by rfl) (lent_one cap HC1.out _ (by exact ⟨rfl, rfl, rfl, rfl⟩) _ (by exact hz.symm)) ?_; rintro v w3 ⟨rfl, hl3⟩; have HL3 := Lib.hid hl3; have z3 := hl3.sz; clear hl3)
  all_goals clear p0 p1 p2 hmk hmw
  all_goals go_wp2_with (at_builtin; refine wpList_append_ex rfl _ _ _ _ rfl _ _ rfl rfl (lent_two HL3.out _ _ _ (by exact hz.symm) (by first | rfl | omega)) ?_; rintro v w5 ⟨rfl, hl5⟩; have hb0 := (hl5.bl.block _ (lt_of_block HX0.out)).trans HX0.out; have hb1 := (hl5.bl.block _ (lt_of_block HX1.out)).trans HX1.out; obtain ⟨p0, p1, p2⟩ := cells2_of hb0; obtain ⟨q0, q1, q2⟩ := cells2_of hb1; have f0 := frozen_of_row _ _ 0 _ _ hb0; have f1 := frozen_of_row _ _ 1 _ _ hb0; have f2 := frozen_of_row _ _ 0 _ _ hb1; have f3 := frozen_of_row _ _ 1 _ _ hb1; have HL5 := Lib.hid hl5; clear hl5 hb0 hb1)
  all_goals exact bodyPost_ret (v := .agg #[.int .i64 t, .slice (some ⟨w.heap.size + 2, 0, none⟩) c.length (c.length + 2)]) (by simp [results, Tryz.results10, go_sem, q0, q1]) rfl ⟨_, rfl, by
    have h := HL5.out.code
    rw [hz] at h
    exact ((h.put _ (by omega)).put _ (by omega)).put _ (by omega), below_put _ (below_put _ (below_put _ (chain5 HB1.out HL5.out.bl) (Nat.le_refl _)) (by omega)) (by omega)⟩
theorem mark_at {w : World} {g : Nat} {c : List Ins} (h : CodeAt w (some ⟨g, 0, none⟩) (lentI c)) : g < w.heap.size ∧ w.cell? ⟨g, c.length * 3, none⟩ = some (.int .i64 77) ∧ w.cell? ⟨g, (c.length + 1) * 3, none⟩ = some (.int .i64 78) := by
  have e0 : ci (lentI c) c.length = ⟨77, 0, 0⟩ := by
    unfold lentI markI ci
    rw [List.getD_eq_getElem?_getD, List.getElem?_append_right (Nat.le_refl _), Nat.sub_self]
    rfl
  have e1 : ci (lentI c) (c.length + 1) = ⟨78, 0, 0⟩ := by
    unfold lentI markI ci
    rw [List.getD_eq_getElem?_getD, List.getElem?_append_right (by omega), show c.length + 1 - c.length = 1 by omega]
    rfl
  obtain ⟨b, o, q, hlt, c0, _⟩ := h c.length (by rw [lentI_len]; omega)
  cases q
  obtain ⟨b, o, q, _, c1, _⟩ := h (c.length + 1) (by rw [lentI_len]; omega)
  cases q
  rw [e0, Nat.zero_add] at c0
  rw [e1, Nat.zero_add] at c1
  exact ⟨hlt, c0, c1⟩
theorem box_two {w w' : World} {A : Obj} {v0 v1 : Value} (h : Below ((w.alloc A).alloc (.cells #[v0, v1] 24)).heap.size ((w.alloc A).alloc (.cells #[v0, v1] 24)) w') : w'.cell? ⟨w.heap.size + 1, 0, none⟩ = some v0 ∧ w'.cell? ⟨w.heap.size + 1, 1, none⟩ = some v1 ∧ w.heap.size + 1 < w'.heap.size := by
  have e := heap_alloc_new (w.alloc A) (.cells #[v0, v1] 24)
  have hz : (w.alloc A).heap.size = w.heap.size + 1 := by simp
  have := (h.block _ (lt_of_block e)).trans e
  rw [hz] at this
  exact cells2_of this
set_option maxHeartbeats 4000000 in
set_option maxRecDepth 100000 in
theorem still_any {w : World} (t : Int) {ao : Option Addr} {g : Nat} {c : List Ins} (cap : Nat) (hc : CodeAt w ao c) (hg : CodeAt w (some ⟨g, 0, none⟩) (lentI c)) (hl : c.length * 24 ≤ reachBytes) :
    Calls Tryz.prog 15 #[progV t (some ⟨g, 0, none⟩) c.length (c.length + 2), progV t ao c.length cap] w fun e w' => e = .returned (.bool true) ∧ Below w.heap.size w w' := by
  have hlim : (c.length : Int) + 2 ≤ 9223372036854775807 := by
    have h2 := reachBytes_lt
    have e3 : (2 : Nat) ^ 47 = 140737488355328 := by decide
    omega
  have HSM := Lib.hid (fun w' (h : Below w.heap.size w w') => refSame5_any (w := w') t t (c.length + 2) cap ((hg.on h).head) (hc.on h) (by omega) (by omega))
  rw [same_self] at HSM
  unfold progV at HSM ⊢
  have HG := Lib.hid hg
  clear hc hg hl
  obtain ⟨m, hm⟩ : ∃ m, m = c.length + 2 := ⟨_, rfl⟩
  rw [← hm] at HSM ⊢
  have hmi : (c.length : Int) + 2 ≤ (m : Int) := by omega
  have hmi2 : (c.length : Int) + 1 < (m : Int) := by omega
  have hmi3 : (c.length : Int) < (m : Int) := by omega
  have hmt : ((c.length : Int) + 2).toNat = m := by omega
  have HM := Lib.hid hm
  clear hm
  go_enter Tryz.func15, Tryz.ntmps15
  go_wp2_with (go_at_call 14; refine (HSM.out _ (bl_alloc _ (box5 _ _))).mono ?_; rintro e w2 ⟨rfl, hb⟩; have HB2 := Lib.hid (chain5 (bl_alloc _ (box5 _ _)) hb); obtain ⟨m0, m1, m2⟩ := mark_at (HG.out.on (chain5 (bl_alloc _ (box5 _ _)) hb)); obtain ⟨u0, u1, u2⟩ := box_two hb; clear hb)
  go_ret
  exact ⟨rfl, HB2.out⟩
end Go.Proofs.YtlnobfmbnnfbdaaGreatDoor
