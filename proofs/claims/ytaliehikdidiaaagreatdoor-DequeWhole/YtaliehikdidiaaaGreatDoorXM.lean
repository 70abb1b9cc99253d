import Derived.Test.YtaliehikdidiaaaGreatDoorS2f
import Derived.Test.YtaliehikdidiaaaGreatDoorY2
import Derived.Test.YtaliehikdidiaaaGreatDoorS1
import Derived.Test.YtaliehikdidiaaaGreatDoorWalkB
import Derived.Deep.RegionHeld
import Derived.Deep.AppendLies
namespace Go.Proofs.YtaliehikdidiaaaGreatDoor.Sx
open Go.ChangeShapes Go.WideShapes Go.ChangeAt Go.RowKit Num

theorem _root_.Go.Proofs.YtaliehikdidiaaaGreatDoor.RowAt.turn {E : TypeId} {w w' : World} {p : Option Addr} {c : Nat} {xs : List Value} {G G' : List Nat} (h : RowAt E w p c xs) (k : Turn G G' w w') (s : Sep (fpR p) G) : RowAt E w' p c xs := h.keep (k.kept s h.blw)
theorem row_store {E : TypeId} {w : World} {g c : Nat} {xs : List Value} (h : RowAt E w (some ⟨g, 0, none⟩) c xs) (i : Nat) (z : Value) : RowAt E (w.setCell ⟨g, i, none⟩ z) (some ⟨g, 0, none⟩) c (xs.set i z) ∧ Turn [g] [g] w (w.setCell ⟨g, i, none⟩ z) := by
  obtain ⟨hs, hg⟩ := h.own.stored i z
  exact ⟨⟨by rw [List.length_set]; exact hs⟩, grown_turn hg⟩
/-- a number of a row, wherever it lies -/
theorem row_num {w : World} {p : Option Addr} {c : Nat} {l : List Nat} (h : RowAt 74 w p c (fls l)) (i : Nat) (hi : i < l.length) : ∃ g, p = some ⟨g, 0, none⟩ ∧ g < w.heap.size ∧ w.cell? ⟨g, i, none⟩ = some (.float .f64 l[i]) ∧ w.frozen? ⟨g, i, none⟩ = false := by
  have ho := h.own
  rw [fls_len] at ho
  rcases ho.2 with ⟨_, q⟩ | ⟨g, cap, cur, hv, _, hg, _⟩
  · omega
  · cases hv
    refine ⟨g, rfl, lt_of_block hg, ?_, frozen_of_row w g i _ _ hg⟩
    rw [ho.cellAt i (by omega)]
    simp [fls, hi]
/-- a state (T its type): b the block of its field, p where its numbers lie -/
structure CelAt (T : TypeId) (w : World) (b : Nat) (p : Option Addr) (c : Nat) (l : List Nat) : Prop where
  box : w.heap[b]? = some (.cells #[.slice p l.length c] T (0, 0))
  row : RowAt 74 w p c (fls l)
  ne : b ∉ fpR p
  many : l.length ≤ 256
def Cel (T : TypeId) (w : World) (b : Nat) (F : List Nat) (l : List Nat) : Prop := ∃ p c, CelAt T w b p c l ∧ F = b :: fpR p
section
variable {T : TypeId} {w w' : World} {b c : Nat} {p : Option Addr} {l : List Nat} {F : List Nat}
theorem CelAt.ltB (h : CelAt T w b p c l) : b < w.heap.size := lt_of_block h.box
theorem CelAt.cell0 (h : CelAt T w b p c l) : w.cell? ⟨b, 0, none⟩ = some (.slice p l.length c) := by rw [cell_of_row w b 0 _ _ _ h.box]; rfl
theorem CelAt.free (h : CelAt T w b p c l) (j : Nat) : w.frozen? ⟨b, j, none⟩ = false := frozen_of_row w b j _ _ h.box
theorem CelAt.blw (h : CelAt T w b p c l) : Blw w (b :: fpR p) := fun k hk => by
  rcases List.mem_cons.1 hk with rfl | q
  · exact h.ltB
  · exact h.row.blw k q
theorem CelAt.keep (h : CelAt T w b p c l) (k : Kept (b :: fpR p) w w') : CelAt T w' b p c l :=
  ⟨(k.2 b (List.mem_cons_self ..)).trans h.box, h.row.keep ⟨k.1, fun i hi => k.2 i (List.mem_cons_of_mem _ hi)⟩, h.ne, h.many⟩
theorem CelAt.on (h : CelAt T w b p c l) (k : Below w.heap.size w w') : CelAt T w' b p c l := h.keep (kept_below k h.blw)
theorem CelAt.same (h : CelAt T w b p c l) (k : Same w w') : CelAt T w' b p c l := h.keep (k.kept _)
theorem CelAt.cel (h : CelAt T w b p c l) : Cel T w b (b :: fpR p) l := ⟨p, c, h, rfl⟩
theorem Cel.blw (h : Cel T w b F l) : Blw w F := by obtain ⟨p, c, hs, rfl⟩ := h; exact hs.blw
theorem Cel.keep (h : Cel T w b F l) (k : Kept F w w') : Cel T w' b F l := by
  obtain ⟨p, c, hs, rfl⟩ := h
  exact ⟨p, c, hs.keep k, rfl⟩
theorem Cel.same (h : Cel T w b F l) (k : Same w w') : Cel T w' b F l := h.keep (k.kept F)
theorem Cel.on (h : Cel T w b F l) (k : Below w.heap.size w w') : Cel T w' b F l := h.keep (kept_below k h.blw)
theorem Cel.turn {G G' : List Nat} (h : Cel T w b F l) (k : Turn G G' w w') (s : Sep F G) : Cel T w' b F l := h.keep (k.kept s h.blw)
theorem Cel.alloc (h : Cel T w b F l) (x : Obj) : Cel T (w.alloc x) b F l := h.on (below_alloc _ x)
theorem Cel.many (h : Cel T w b F l) : l.length ≤ 256 := by obtain ⟨p, c, hs, rfl⟩ := h; exact hs.many
theorem Cel.hasB (h : Cel T w b F l) : b ∈ F := by obtain ⟨p, c, hs, rfl⟩ := h; exact List.mem_cons_self ..
/-- a number is laid -/
theorem CelAt.lay {g : Nat} (h : CelAt T w b (some ⟨g, 0, none⟩) c l) (i x : Nat) : CelAt T (w.setCell ⟨g, i, none⟩ (.float .f64 x)) b (some ⟨g, 0, none⟩) c (l.set i x) ∧ Turn [b, g] [b, g] w (w.setCell ⟨g, i, none⟩ (.float .f64 x)) := by
  have hne : b ≠ g := fun z => h.ne (by simp [fpR, z])
  have q := row_store h.row i (.float .f64 x)
  rw [fls_set] at q
  refine ⟨⟨?_, q.1, h.ne, by rw [List.length_set]; exact h.many⟩, ?_⟩
  · rw [heap_setCell_other _ _ _ _ hne, List.length_set]
    exact h.box
  · exact ⟨q.2.os, q.2.tape, q.2.output, q.2.size, fun k hk hn => q.2.block k hk (fun z => hn (by simp at z ⊢; exact .inr z)), fun k hk => .inl hk⟩
end
/-- a state made about a row -/
theorem cel_about {T : TypeId} {w1 w2 : World} {c B : Nat} {p : Option Addr} {l : List Nat} (hr : RowAt 74 w1 p c (fls l)) (ha : Abv B (fpR p)) (hB : B ≤ w1.heap.size) (hm : l.length ≤ 256) (h2 : w2.heap = (w1.alloc (.cells #[.slice p l.length c] T)).heap) :
    CelAt T w2 w1.heap.size p c l ∧ Abv B (w1.heap.size :: fpR p) := by
  refine ⟨⟨by rw [h2]; exact heap_alloc_new _ _, hr.keep ⟨by rw [h2]; simp, fun k hk => by rw [h2]; exact Below.heap_alloc _ _ _ (hr.blw k hk)⟩, fun q => absurd (hr.blw _ q) (Nat.lt_irrefl _), hm⟩, fun k hk => ?_⟩
  rcases List.mem_cons.1 hk with rfl | q
  · exact hB
  · exact ha k q
/-- is there such a cell -/
def hasN (n : Nat) (i : Int) : Bool := decide (0 ≤ i) && decide (i < (n : Int))
theorem hasN_pos {n : Nat} {i : Int} (h : hasN n i = true) : ∃ k : Nat, i = k ∧ k < n := by
  unfold hasN at h
  simp at h
  exact ⟨i.toNat, by omega, by omega⟩
theorem hasN_nat {n k : Nat} : hasN n (k : Int) = decide (k < n) := by
  unfold hasN
  rw [Bool.eq_iff_iff]
  simp
def cellE (n : Nat) (i : Int) : Int := if hasN n i then 0 else 60
def getV (l : List Nat) (i : Int) : Nat := if hasN l.length i then l.getD i.toNat 0 else 0
def setL (l : List Nat) (i : Int) (x : Nat) : List Nat := if hasN l.length i then l.set i.toNat (fixB x) else l
theorem setL_len (l : List Nat) (i : Int) (x : Nat) : (setL l i x).length = l.length := by unfold setL; split <;> simp
def allB (n : Nat) (ts : List (Int × Nat)) : Bool := ts.all fun t => hasN n t.1
def foldL (l : List Nat) (ts : List (Int × Nat)) : List Nat := ts.foldl (fun l t => setL l t.1 t.2) l
theorem foldL_len (ts : List (Int × Nat)) : ∀ l, (foldL l ts).length = l.length := by
  induction ts with
  | nil => intro l; rfl
  | cons t ts ih => intro l; show (foldL (setL l t.1 t.2) ts).length = _; rw [ih, setL_len]
def applyE (n : Nat) (ts : List (Int × Nat)) : Int := if allB n ts then 0 else 60
def applyL (l : List Nat) (ts : List (Int × Nat)) : List Nat := if allB l.length ts then foldL l ts else l
/-- the same numbers -/
def sameB (l m : List Nat) : Bool := l.map fixB == m.map fixB
def mayN (n : Int) : Bool := decide (1 ≤ n) && decide (n ≤ 256)
/-- cells and numbers, wherever they lie -/
def TchAt (w : World) (p : Option Addr) (ts : List (Int × Nat)) : Prop :=
  ∀ i (h : i < ts.length), ∃ g, p = some ⟨g, 0, none⟩ ∧ g < w.heap.size ∧ w.cell? ⟨g, i * 2, none⟩ = some (.int .i64 ts[i].1) ∧ w.cell? ⟨g, i * 2 + 1, none⟩ = some (.float .f64 ts[i].2)
theorem TchAt.keep {w w' : World} {p : Option Addr} {ts : List (Int × Nat)} (h : TchAt w p ts) (k : Kept (fpR p) w w') : TchAt w' p ts := fun i hi => by
  obtain ⟨g, h1, h2, h3, h4⟩ := h i hi
  have q := k.2 g (by rw [h1]; simp [fpR])
  exact ⟨g, h1, Nat.lt_of_lt_of_le h2 k.1, (World.cell?_of_block (a := ⟨g, i * 2, none⟩) q).trans h3, (World.cell?_of_block (a := ⟨g, i * 2 + 1, none⟩) q).trans h4⟩
end Go.Proofs.YtaliehikdidiaaaGreatDoor.Sx
namespace Go.Proofs.YtaliehikdidiaaaGreatDoor.Sx
open Go.ChangeShapes Go.WideShapes Go.ChangeAt Go.RowKit Num
attribute [local go_sem] run_store_float frombits_run bits_run

theorem fMake (n : Nat) (hn : n ≤ 256) (w : World) : (Instr.makeSlice 44 (.int .i64 (n : Int)) (.int .i64 (n : Int))).run Tryz.prog w = .ok (.slice (some ⟨w.heap.size, 0, none⟩) n n) (w.alloc (.cells (fls (List.replicate n 0)).toArray 74)) := by
  obtain ⟨i, hi, hz0, hz1, hz2⟩ := info_parts fInfo
  rw [run_make w 44 74 i (.float .f64 0) Tryz.underlying44 hi hz0 .i64 .i64 n n (by omega) (Int.le_refl _) (by rw [hz2]; omega) (by omega)]
  have e : (madeCells (.float .f64 0 : Value).cells (((n : Int)).toNat * i.size)) = (fls (List.replicate n 0)).toArray := by
    rw [hz1, Nat.mul_one, Int.toNat_natCast]
    apply Array.toList_inj.1
    rw [show (.float .f64 0 : Value).cells = #[.float .f64 0] from rfl, toList_madeCells_one]
    simp [fls]
  rw [e, Int.toNat_natCast]
theorem fCopy {w : World} {p : Option Addr} {c : Nat} {l : List Nat} (h : RowAt 74 w p c (fls l)) : ∃ W2, (∀ ty, (Builtin.copy_ #[44, 44] ty #[.slice (some ⟨w.heap.size, 0, none⟩) l.length l.length, .slice p l.length c]).run Tryz.prog (w.alloc (.cells (fls (List.replicate l.length 0)).toArray 74)) = .ok (goInt l.length) W2) ∧ RowAt 74 W2 (some ⟨w.heap.size, 0, none⟩) l.length (fls l) ∧ Below w.heap.size w W2 := by
  have ho := h.own
  rw [fls_len] at ho
  rcases ho.2 with ⟨hv, h0⟩ | ⟨g, cap, cur, hv, _, hg, hc, hm, hs, ht⟩
  · have hl : l = [] := List.eq_nil_of_length_eq_zero h0
    subst hl
    cases hv
    refine ⟨w.alloc (.cells (fls (List.replicate 0 0)).toArray 74), fun ty => ?_, ⟨?_⟩, (Below.refl _ _).alloc (Nat.le_refl _) _⟩
    · obtain ⟨i, hi, hz0, hz1, hz2⟩ := info_parts fInfo
      simp [Builtin.copy_, run_underlying Tryz.underlying44, Builtin.lenOf, Builtin.firstCells, sizeOf, typeInfo, hi, storeCells]
    · exact World.ownsRow_lit w _ 0 (Nat.zero_le _) (by unfold maxLen; omega) (by simp [fls])
  · cases hv
    have hr := fun ty => run_copy_row (P := Tryz.prog) (w.alloc (.cells (fls (List.replicate l.length 0)).toArray 74)) 44 44 ty 74 w.heap.size 0 l.length l.length ⟨g, 0, none⟩ l.length c (fls (List.replicate l.length 0)).toArray 74 (fls l) Tryz.underlying44 (by kernel_rfl) (heap_alloc_new _ _) (by rw [fls_len]; exact (Nat.min_self _).symm) (fun j v hj => by
      rw [World.ownsRow.cells (ho.alloc _) (g := g) rfl j v hj]) (by simp [fls_len]) (fun v hv => by
      unfold fls at hv
      obtain ⟨x, _, rfl⟩ := List.mem_map.1 hv
      rfl)
    have e : (List.take 0 (fls (List.replicate l.length 0)).toArray.toList ++ fls l ++ List.drop (0 + (fls l).length) (fls (List.replicate l.length 0)).toArray.toList) = fls l := by
      rw [List.drop_of_length_le (by simp [fls_len])]
      simp
    refine ⟨(w.alloc (.cells (fls (List.replicate l.length 0)).toArray 74)).setRow w.heap.size (fls l).toArray, fun ty => (hr ty).trans (by rw [e, fls_len]), ⟨?_⟩, ((Below.refl _ _).alloc (Nat.le_refl _) _).trans ⟨rfl, rfl, rfl, by simp, fun k hk => setRow_other _ _ _ _ (Nat.ne_of_lt hk)⟩⟩
    refine ⟨by simp, .inr ⟨w.heap.size, l.length, (fls l).toArray, by rw [fls_len], Nat.zero_le _, setRow_heap _ _ _ _ _ _ (heap_alloc_new _ _), by rw [fls_len]; exact Nat.le_refl _, by omega, by simp [fls_len], by simp⟩⟩
theorem abv_one {B b : Nat} (h : B ≤ b) : Abv B [b] := fun k hk => by simp at hk; omega
theorem abv_new (w : World) : Abv w.heap.size (fpR (some ⟨w.heap.size, 0, none⟩)) := fun k hk => by simp [fpR] at hk; omega
set_option maxRecDepth 100000 in
theorem copied_any {w : World} {p : Option Addr} {c : Nat} {l : List Nat} (h : RowAt 74 w p c (fls l)) (hn : l.length ≤ 256) : Calls Tryz.prog 45 #[.slice p l.length c] w fun e w' => e = .returned (.slice (some ⟨w.heap.size, 0, none⟩) l.length l.length) ∧ RowAt 74 w' (some ⟨w.heap.size, 0, none⟩) l.length (fls l) ∧ Below w.heap.size w w' := by
  have hmk := fMake l.length hn
  obtain ⟨W2, hcp, hr, hbl⟩ := fCopy h
  have HF := Lib.hid (And.intro hr hbl)
  clear hr hbl h
  go_enter Tryz.func45, Tryz.ntmps45
  go_wp2
  go_ret
  exact ⟨rfl, HF.out.1, HF.out.2⟩
theorem mayBe_any (n : Int) (w : World) : Calls Tryz.prog 61 #[.int .i64 n] w fun e w' => e = .returned (.bool (mayN n)) ∧ w' = w := by
  unfold mayN
  by_cases h1 : 1 ≤ n <;> by_cases h2 : n ≤ 256
  all_goals
    go_enter Tryz.func61, Tryz.ntmps61
    go_wp2
    go_ret
    exact ⟨by simp [h1, h2], rfl⟩
theorem new_none {n : Int} (hn : mayN n = false) (w : World) : Calls Tryz.prog 31 #[.int .i64 n] w fun e w' => e = .returned (.tuple #[.pointer none, .int .i64 1]) ∧ w' = w := by
  go_enter Tryz.func31, Tryz.ntmps31
  go_wp2_with (go_at_call 61; refine (mayBe_any _ _).mono ?_; rw [hn]; rintro e w' ⟨rfl, hw⟩; subst w')
  go_ret2
  exact ⟨rfl, rfl⟩
set_option maxRecDepth 100000 in
theorem new_some {n : Nat} (hn : mayN n = true) (w : World) : Calls Tryz.prog 31 #[.int .i64 n] w fun e w' => ∃ b F, e = .returned (.tuple #[.pointer (some ⟨b, 0, none⟩), .int .i64 0]) ∧ Cel 98 w' b F (List.replicate n 0) ∧ Abv w.heap.size F ∧ Below w.heap.size w w' := by
  have h2 : n ≤ 256 := by unfold mayN at hn; simp at hn; omega
  have hmk := fMake n h2
  have HN := Lib.hid h2
  clear h2
  go_enter Tryz.func31, Tryz.ntmps31
  go_wp2_with (go_at_call 61; refine (mayBe_any _ _).mono ?_; rw [hn]; rintro e w' ⟨rfl, hw⟩; subst w')
  go_ret2
  have hr : RowAt 74 (w.alloc (.cells (fls (List.replicate n 0)).toArray 74)) (some ⟨w.heap.size, 0, none⟩) n (fls (List.replicate n 0)) := ⟨⟨by simp, .inr ⟨w.heap.size, n, (fls (List.replicate n 0)).toArray, by rw [fls_len, List.length_replicate], Nat.zero_le _, heap_alloc_new _ _, by rw [fls_len, List.length_replicate]; exact Nat.le_refl _, by unfold maxLen; have := HN.out; omega, by simp [fls_len], by simp⟩⟩⟩
  have q := cel_about (T := 98) (w2 := (w.alloc (.cells (fls (List.replicate n 0)).toArray 74)).alloc (.cells #[.slice (some ⟨w.heap.size, 0, none⟩) n n] 98)) (B := w.heap.size) hr (abv_new _) (by simp) (by rw [List.length_replicate]; exact HN.out) (by rw [List.length_replicate])
  exact ⟨_, _, by simp, q.1.cel, q.2, ((Below.refl _ _).alloc (Nat.le_refl _) _).alloc (by simp) _⟩
section
variable {w : World} {b : Nat} {F : List Nat} {l : List Nat}
theorem has_any (h : Cel 98 w b F l) (i : Int) : Calls Tryz.prog 93 #[.pointer (some ⟨b, 0, none⟩), .int .i64 i] w fun e w' => e = .returned (.bool (hasN l.length i)) ∧ w' = w := by
  obtain ⟨p, c, hs, rfl⟩ := h
  have h0 := hs.cell0
  have hb := hs.ltB
  clear hs
  unfold hasN
  by_cases h1 : 0 ≤ i <;> by_cases h2 : i < (l.length : Int)
  all_goals
    go_enter Tryz.func93, Tryz.ntmps93
    go_wp2
    go_ret
    exact ⟨by simp [h1, h2], rfl⟩
theorem len_any (h : Cel 98 w b F l) : Calls Tryz.prog 85 #[.pointer (some ⟨b, 0, none⟩)] w fun e w' => e = .returned (.int .i64 l.length) ∧ w' = w := by
  obtain ⟨p, c, hs, rfl⟩ := h
  have h0 := hs.cell0
  have hb := hs.ltB
  clear hs
  go_enter Tryz.func85, Tryz.ntmps85
  go_wp2
  go_ret
  exact ⟨rfl, rfl⟩
theorem all_any (h : Cel 98 w b F l) : Calls Tryz.prog 21 #[.pointer (some ⟨b, 0, none⟩)] w fun e w' => e = .returned (.slice (some ⟨w.heap.size, 0, none⟩) l.length l.length) ∧ RowAt 74 w' (some ⟨w.heap.size, 0, none⟩) l.length (fls l) ∧ Below w.heap.size w w' := by
  obtain ⟨p, c, hs, rfl⟩ := h
  have h0 := hs.cell0
  have hb := hs.ltB
  have HC := Lib.hid (copied_any hs.row hs.many)
  clear hs
  go_enter Tryz.func21, Tryz.ntmps21
  go_wp2_with (go_at_call 45; refine HC.out.mono ?_; rintro e w1 ⟨rfl, hr, hbb⟩; have HR := Lib.hid (And.intro hr hbb); clear hr hbb)
  go_ret
  exact ⟨rfl, HR.out.1, HR.out.2⟩
theorem get_any (h : Cel 98 w b F l) (i : Int) : Calls Tryz.prog 91 #[.pointer (some ⟨b, 0, none⟩), .int .i64 i] w fun e w' => e = .returned (.tuple #[.float .f64 (getV l i), .int .i64 (cellE l.length i)]) ∧ w' = w := by
  have HH := Lib.hid (has_any h i)
  obtain ⟨p, c, hs, rfl⟩ := h
  have h0 := hs.cell0
  have hb := hs.ltB
  unfold getV cellE
  cases hh : hasN l.length i
  · rw [hh] at HH
    clear hs
    go_enter Tryz.func91, Tryz.ntmps91
    go_wp2_with (go_at_call 93; refine HH.out.mono ?_; rintro e w' ⟨rfl, hw⟩; subst w')
    go_ret2
    exact ⟨rfl, rfl⟩
  · rw [hh] at HH
    obtain ⟨k, rfl, hk⟩ := hasN_pos hh
    obtain ⟨g, rfl, hg, hx, _⟩ := row_num hs.row k hk
    have hk2 : (k : Int) < (l.length : Int) := by omega
    have hv : l.getD (k : Int).toNat 0 = l[k] := by simp [hk]
    rw [hv]
    generalize l[k] = x at *
    clear hv hs
    go_enter Tryz.func91, Tryz.ntmps91
    go_wp2_with (go_at_call 93; refine HH.out.mono ?_; rintro e w' ⟨rfl, hw⟩; subst w')
    go_ret2
    exact ⟨rfl, rfl⟩
set_option maxRecDepth 100000 in
theorem set_any (h : Cel 98 w b F l) (i : Int) (x : Nat) : Calls Tryz.prog 94 #[.pointer (some ⟨b, 0, none⟩), .int .i64 i, .float .f64 x] w fun e w' => e = .returned (.int .i64 (cellE l.length i)) ∧ Cel 98 w' b F (setL l i x) ∧ Turn F F w w' := by
  have HH := Lib.hid (has_any h i)
  have HC := Lib.hid h
  obtain ⟨p, c, hs, rfl⟩ := h
  have h0 := hs.cell0
  have hb := hs.ltB
  unfold setL cellE
  cases hh : hasN l.length i
  · rw [hh] at HH
    clear hs
    go_enter Tryz.func94, Tryz.ntmps94
    go_wp2_with (go_at_call 93; refine HH.out.mono ?_; rintro e w' ⟨rfl, hw⟩; subst w')
    go_ret
    exact ⟨rfl, HC.out, Turn.refl _ _⟩
  · rw [hh] at HH
    obtain ⟨k, rfl, hk⟩ := hasN_pos hh
    obtain ⟨g, rfl, hg, hx, hf⟩ := row_num hs.row k hk
    have hk2 : (k : Int) < (l.length : Int) := by omega
    have HS : Hid (∀ w1, Same w w1 → CelAt 98 (w1.setCell ⟨g, k, none⟩ (.float .f64 (fixB x))) b (some ⟨g, 0, none⟩) c (l.set k (fixB x)) ∧ Turn [b, g] [b, g] w (w1.setCell ⟨g, k, none⟩ (.float .f64 (fixB x)))) := fun w1 k1 => by
      have q := (hs.same k1).lay k (fixB x)
      exact ⟨q.1, (k1.turn _).trans q.2⟩
    generalize l[k] = y at *
    clear hs HC
    go_enter Tryz.func94, Tryz.ntmps94
    go_wp2_with (go_at_call 93; refine HH.out.mono ?_; rintro e w' ⟨rfl, hw⟩; subst w')
    go_region_with (go_at_call 83; refine (fix_any _ _).mono ?_; rintro e w' ⟨rfl, hw⟩; subst w')
    all_goals (try go_wp2)
    all_goals go_ret
    all_goals exact ⟨rfl, (HS.out _ (Same.refl _)).1.cel.same (Same.drew _), (HS.out _ (Same.refl _)).2.trans ((Same.drew _).turn _)⟩
end
end Go.Proofs.YtaliehikdidiaaaGreatDoor.Sx
namespace Go.Proofs.YtaliehikdidiaaaGreatDoor.Sx
open Go.ChangeShapes Go.WideShapes Go.ChangeAt Go.RowKit Num
attribute [local go_sem] run_store_float frombits_run bits_run

/-- the first k of a list are fixed -/
def upF (k : Nat) (l : List Nat) : List Nat := (l.take k).map fixB ++ l.drop k
theorem upF_zero (l : List Nat) : upF 0 l = l := by simp [upF]
theorem upF_len (k : Nat) (l : List Nat) : (upF k l).length = l.length := by simp [upF]; omega
theorem upF_all (l : List Nat) : upF l.length l = l.map fixB := by simp [upF]
theorem upF_at {k : Nat} {l : List Nat} (h : k < l.length) (h' : k < (upF k l).length) : (upF k l)[k] = l[k] := by
  have e : min k l.length = k := Nat.min_eq_left (Nat.le_of_lt h)
  simp [upF, e]
theorem upF_set {k : Nat} {l : List Nat} (h : k < l.length) : (upF k l).set k (fixB l[k]) = upF (k + 1) l := by
  unfold upF
  have e : ((l.take k).map fixB).length = k := by simp; omega
  rw [List.set_append_right _ _ (by omega), e, Nat.sub_self, List.drop_eq_getElem_cons h, List.set_cons_zero, List.take_succ_eq_append_getElem h, List.map_append, List.append_assoc]
  rfl
section
variable {w : World} {p : Option Addr} {c : Nat} {l : List Nat}
theorem of_none (hl : mayN (l.length : Int) = false) (w : World) : Calls Tryz.prog 42 #[.slice p l.length c] w fun e w' => e = .returned (.tuple #[.pointer none, .int .i64 1]) ∧ w' = w := by
  go_enter Tryz.func42, Tryz.ntmps42
  go_wp2_with (go_at_call 61; refine (mayBe_any _ _).mono ?_; rw [hl]; rintro e w' ⟨rfl, hw⟩; subst w')
  go_ret2
  exact ⟨rfl, rfl⟩
set_option maxHeartbeats 2000000 in
set_option maxRecDepth 100000 in
theorem of_some' {n : Nat} (hn : l.length = n) (h : Calls Tryz.prog 45 #[.slice p l.length c] w fun e w' => e = .returned (.slice (some ⟨w.heap.size, 0, none⟩) l.length l.length) ∧ RowAt 74 w' (some ⟨w.heap.size, 0, none⟩) l.length (fls l) ∧ Below w.heap.size w w') (hl : mayN (n : Int) = true) : Calls Tryz.prog 42 #[.slice p n c] w fun e w' => ∃ b F, e = .returned (.tuple #[.pointer (some ⟨b, 0, none⟩), .int .i64 0]) ∧ Cel 98 w' b F (l.map fixB) ∧ Abv w.heap.size F ∧ Below w.heap.size w w' := by
  have h2 : n ≤ 256 := by unfold mayN at hl; simp at hl; omega
  have HC := Lib.hid h
  have HMB := Lib.hid (fun w => mayBe_any (n : Int) w)
  rw [hl] at HMB
  rw [hn] at HC
  have HL : Hid (∀ k, k < n → (upF k l).set k (fixB (l.getD k 0)) = upF (k + 1) l) := fun k hk => by
    have hk : k < l.length := by omega
    have := upF_set hk
    rwa [show l[k] = l.getD k 0 by simp [hk]] at this
  have HA : Hid (∀ k, k < n → ∀ h' : k < (upF k l).length, (upF k l)[k] = l.getD k 0) := fun k hk h' => by
    have hk : k < l.length := by omega
    have := upF_at hk h'
    simpa [hk, h'] using this
  have HE : Hid (upF n l = l.map fixB) := hn ▸ upF_all l
  have HZ : Hid (upF 0 l = l) := upF_zero l
  have HUL : Hid (∀ k, (upF k l).length = n) := fun k => hn ▸ upF_len k l
  clear hn h hl
  go_enter Tryz.func42, Tryz.ntmps42
  go_wp2_with (first
    | (go_at_call 61; refine (HMB.out _).mono ?_; rintro e w' ⟨rfl, hw⟩; subst w')
    | (go_at_call 45; refine HC.out.mono ?_; rintro e w1 ⟨rfl, hr, hbb⟩; have HR := Lib.hid (And.intro hr hbb); clear hr hbb))
  go_loopw [20] (fun vi wr => ∃ k : Nat, vi = .int .i64 k ∧ k ≤ n ∧ Hid (CelAt 98 wr w1.heap.size (some ⟨w.heap.size, 0, none⟩) n (upF k l)) ∧ Hid (Below w.heap.size w wr)) (fun vi _ => n - (intOf vi).toNat)
  case atStart =>
    have q := cel_about (T := 98) (w2 := w1.alloc (.cells #[.slice (some ⟨w.heap.size, 0, none⟩) n n] 98)) (B := w.heap.size) HR.out.1 (abv_new _) HR.out.2.size (by rw [← HZ.out, HUL.out]; exact h2) (by rw [← HZ.out, HUL.out])
    exact ⟨0, rfl, Nat.zero_le _, by rw [HZ.out]; exact q.1, HR.out.2.alloc HR.out.2.size _⟩
  case round =>
    obtain ⟨k, rfl, hk, HS, HB⟩ := hrel
    have q0 := HS.out.cell0
    rw [HUL.out] at q0
    have qb := HS.out.ltB
    by_cases hlt : k < n
    · have hlt' : (k : Int) < (n : Int) := by omega
      have hku : k < (upF k l).length := by rw [HUL.out]; exact hlt
      obtain ⟨g, hgg, hg, hx, hf⟩ := row_num HS.out.row k hku
      cases hgg
      rw [HA.out k hlt hku] at hx
      have HLK := Lib.hid (HL.out k hlt)
      generalize l.getD k 0 = y at hx HLK
      have HD : Hid (CelAt 98 (wr.setCell ⟨w.heap.size, k, none⟩ (.float .f64 (fixB y))) w1.heap.size (some ⟨w.heap.size, 0, none⟩) n (upF (k + 1) l) ∧ Below w.heap.size w (wr.setCell ⟨w.heap.size, k, none⟩ (.float .f64 (fixB y)))) := by
        have q := HS.out.lay k (fixB y)
        rw [HLK.out] at q
        exact ⟨q.1, turn_chain HB.out q.2 (fun j hj => by simp at hj; have := HR.out.2.size; omega)⟩
      clear hku HL HA
      go_wp2
      go_region_with (go_at_call 83; refine (fix_any _ _).mono ?_; rintro e w' ⟨rfl, hw⟩; subst w')
      all_goals (try go_wp2)
      all_goals exact ⟨⟨k + 1, by first | rfl | (congr 1), by omega, HD.out.1.same (Same.drew _), HD.out.2.trans ((Same.drew _).below _)⟩, by simp [intOf]; omega⟩
    · have hlt' : ¬ (k : Int) < (n : Int) := by omega
      have e : k = n := by omega
      subst e
      have h0 := HS.out
      rw [HE.out] at h0
      have HF := Lib.hid h0
      clear h0 q0
      go_wp2
      go_ret2
      exact ⟨_, rfl, _, HF.out.cel, fun j hj => by simp [fpR] at hj; have := HR.out.2.size; omega, HB.out⟩
theorem of_some (h : RowAt 74 w p c (fls l)) (hl : mayN (l.length : Int) = true) : Calls Tryz.prog 42 #[.slice p l.length c] w fun e w' => ∃ b F, e = .returned (.tuple #[.pointer (some ⟨b, 0, none⟩), .int .i64 0]) ∧ Cel 98 w' b F (l.map fixB) ∧ Abv w.heap.size F ∧ Below w.heap.size w w' := of_some' rfl (copied_any h (by unfold mayN at hl; simp at hl; omega)) hl
end
end Go.Proofs.YtaliehikdidiaaaGreatDoor.Sx
namespace Go.Proofs.YtaliehikdidiaaaGreatDoor.Sx
open Go.ChangeShapes Go.WideShapes Go.ChangeAt Go.RowKit Num
attribute [local go_sem] run_store_float frombits_run bits_run

theorem sameB_len {l m : List Nat} (h : l.length ≠ m.length) : sameB l m = false := by
  unfold sameB
  rw [beq_eq_false_iff_ne]
  intro e
  exact h (by simpa using congrArg List.length e)
theorem sameB_at {l m : List Nat} {j : Nat} (hj : j < l.length) (hj' : j < m.length) (h : fixB (l.getD j 0) ≠ fixB (m.getD j 0)) : sameB l m = false := by
  unfold sameB
  rw [beq_eq_false_iff_ne]
  intro e
  have := congrArg (fun x => x[j]?) e
  simp [hj, hj'] at this
  exact h (by simpa [hj, hj'] using this)
theorem sameB_of {l m : List Nat} (hl : l.length = m.length) (h : ∀ j, j < l.length → fixB (l.getD j 0) = fixB (m.getD j 0)) : sameB l m = true := by
  unfold sameB
  rw [beq_iff_eq]
  apply List.ext_getElem?
  intro j
  by_cases hj : j < l.length
  · have hj' : j < m.length := by omega
    have := h j hj
    simp [hj, hj'] at this ⊢
    exact this
  · have hj' : ¬ j < m.length := by omega
    simp [List.getElem?_eq_none (Nat.not_lt.1 hj), List.getElem?_eq_none (Nat.not_lt.1 hj')]
theorem row_getD {w : World} {p : Option Addr} {c : Nat} {l : List Nat} (h : RowAt 74 w p c (fls l)) (i : Nat) (hi : i < l.length) : ∃ g, p = some ⟨g, 0, none⟩ ∧ g < w.heap.size ∧ w.cell? ⟨g, i, none⟩ = some (.float .f64 (l.getD i 0)) ∧ w.frozen? ⟨g, i, none⟩ = false := by
  have := row_num h i hi
  rwa [show l[i] = l.getD i 0 by simp [hi]] at this
section
variable {w : World} {pa pb : Option Addr} {ca cb n n' : Nat} {l m : List Nat}
end
end Go.Proofs.YtaliehikdidiaaaGreatDoor.Sx
namespace Go.Proofs.YtaliehikdidiaaaGreatDoor.Sx
open Go.ChangeShapes Go.WideShapes Go.ChangeAt Go.RowKit Num
attribute [local go_sem] run_store_float frombits_run bits_run

theorem allB_of {n : Nat} {ts : List (Int × Nat)} (h : ∀ j (hj : j < ts.length), hasN n ts[j].1 = true) : allB n ts = true := by
  unfold allB
  rw [List.all_eq_true]
  intro t ht
  obtain ⟨j, hj, rfl⟩ := List.mem_iff_getElem.1 ht
  exact h j hj
theorem allB_not {n : Nat} {ts : List (Int × Nat)} (j : Nat) (hj : j < ts.length) (h : hasN n ts[j].1 = false) : allB n ts = false := by
  unfold allB
  rw [List.all_eq_false]
  exact ⟨ts[j], List.getElem_mem hj, by rw [h]; decide⟩
theorem foldL_snoc (l : List Nat) (ts : List (Int × Nat)) (k : Nat) (h : k < ts.length) : setL (foldL l (ts.take k)) ts[k].1 ts[k].2 = foldL l (ts.take (k + 1)) := by
  rw [List.take_succ_eq_append_getElem h]
  unfold foldL
  rw [List.foldl_append]
  rfl
section
variable {w : World} {b : Nat} {F : List Nat} {l : List Nat} {p : Option Addr} {cap n : Nat} {ts : List (Int × Nat)}
set_option maxHeartbeats 2000000 in
set_option maxRecDepth 100000 in
theorem apply_any' (h : Cel 98 w b F l) (ht : TchAt w p ts) (hn : ts.length = n) (hp : Sep (fpR p) F) (hm : n ≤ 9223372036854775807) : Calls Tryz.prog 50 #[.pointer (some ⟨b, 0, none⟩), .slice p n cap] w fun e w' => e = .returned (.int .i64 (applyE l.length ts)) ∧ Cel 98 w' b F (applyL l ts) ∧ Turn F F w w' := by
  have HC := Lib.hid h
  have HT : Hid (∀ w', Turn F F w w' → ∀ k, k < n → ∃ g x y, p = some ⟨g, 0, none⟩ ∧ g < w'.heap.size ∧ w'.cell? ⟨g, k * 2, none⟩ = some (.int .i64 x) ∧ w'.cell? ⟨g, k * 2 + 1, none⟩ = some (.float .f64 y) ∧ ∃ hk : k < ts.length, ts[k] = (x, y)) := fun w' ht' k hk => by
    have hb : Blw w (fpR p) := fun i hi => by
      obtain ⟨g, h1, h2, _⟩ := ht k (by omega)
      rw [h1] at hi
      simp [fpR] at hi
      omega
    obtain ⟨g, h1, h2, h3, h4⟩ := ht.keep (ht'.kept hp hb) k (by omega)
    exact ⟨g, _, _, h1, h2, h3, h4, by omega, rfl⟩
  clear h ht hp
  go_enter Tryz.func50, Tryz.ntmps50
  go_wp2
  go_loopw [11] (fun vi wr => ∃ k : Nat, vi = .int .i64 k ∧ k ≤ n ∧ Hid (Below w.heap.size w wr) ∧ Hid (∀ j (hj : j < ts.length), j < k → hasN l.length ts[j].1 = true)) (fun vi _ => n - (intOf vi).toNat)
  case atStart => exact ⟨0, rfl, Nat.zero_le _, Below.refl _ _, fun j hj q => absurd q (Nat.not_lt_zero j)⟩
  case round =>
    obtain ⟨k, rfl, hk, HB, HK⟩ := hrel
    by_cases hlt : k < n
    · have hlt' : (k : Int) < (n : Int) := by omega
      obtain ⟨g, x, y, hpg, hg, hx, hy, hk', htk⟩ := HT.out wr (Below.turn HB.out _) k hlt
      subst hpg
      have HTK := Lib.hid htk
      clear htk
      have HCW := Lib.hid (HC.out.on HB.out)
      cases hh : hasN l.length x
      · have HH := Lib.hid (has_any (HCW.out.alloc (.cells #[.int .i64 x, .float .f64 y] 123)) x)
        rw [hh] at HH
        have HN : Hid (allB l.length ts = false) := allB_not k hk' (by rw [HTK.out]; exact hh)
        clear hh
        go_wp2_with (go_at_call 93; refine HH.out.mono ?_; rintro e w' ⟨rfl, hw⟩; subst w')
        go_ret
        unfold applyE applyL
        rw [HN.out]
        exact ⟨rfl, HCW.out.alloc _, Below.turn (HB.out.alloc HB.out.size _) _⟩
      · have HH := Lib.hid (has_any (HCW.out.alloc (.cells #[.int .i64 x, .float .f64 y] 123)) x)
        rw [hh] at HH
        have HK1 : Hid (∀ j (hj : j < ts.length), j < k + 1 → hasN l.length ts[j].1 = true) := fun j hj q => by
          by_cases e : j = k
          · subst e; rw [HTK.out]; exact hh
          · exact HK.out j hj (by omega)
        clear hh
        go_wp2_with (go_at_call 93; refine HH.out.mono ?_; rintro e w' ⟨rfl, hw⟩; subst w')
        exact ⟨⟨k + 1, by first | rfl | (congr 1), by omega, HB.out.alloc HB.out.size _, HK1⟩, by simp [intOf]; omega⟩
    · have hlt' : ¬ (k : Int) < (n : Int) := by omega
      have HAL : Hid (allB l.length ts = true) := allB_of (fun j hj => HK.out j hj (by omega))
      have HFS : Hid (∀ k (hk : k < ts.length), setL (foldL l (ts.take k)) ts[k].1 ts[k].2 = foldL l (ts.take (k + 1))) := fun k hk => foldL_snoc l ts k hk
      have HFE : Hid (foldL l (ts.take n) = foldL l ts) := by show _ = _; rw [← hn, List.take_length]
      have HCW := Lib.hid (HC.out.on HB.out)
      have HTW := Lib.hid (Below.turn HB.out F)
      clear HB HK HC
      go_wp2
      go_loopw [23] (fun vi wr => ∃ k : Nat, vi = .int .i64 k ∧ k ≤ n ∧ Hid (Turn F F w wr) ∧ Hid (Cel 98 wr b F (foldL l (ts.take k)))) (fun vi _ => n - (intOf vi).toNat)
      case atStart => exact ⟨0, rfl, Nat.zero_le _, HTW, HCW⟩
      case round =>
        clear HTW HCW
        obtain ⟨k, rfl, hk, HB, HCW⟩ := hrel
        by_cases hlt : k < n
        · have hlt' : (k : Int) < (n : Int) := by omega
          obtain ⟨g, x, y, hpg, hg, hx, hy, hk', htk⟩ := HT.out _ HB.out k hlt
          subst hpg
          have hs := HFS.out k hk'
          rw [htk] at hs
          have HS := Lib.hid (set_any (HCW.out.alloc (.cells #[.int .i64 x, .float .f64 y] 123)) x y)
          rw [hs] at HS
          generalize cellE (foldL l (ts.take k)).length x = ev at HS
          clear htk hs
          go_wp2_with (go_at_call 94; refine HS.out.mono ?_; rintro e w' ⟨rfl, hc, ht⟩; have HD := Lib.hid (And.intro hc (HB.out.trans ((Below.turn (below_alloc _ _) F).trans ht))); clear hc ht)
          exact ⟨⟨k + 1, by first | rfl | (congr 1), by omega, HD.out.2, HD.out.1⟩, by simp [intOf]; omega⟩
        · have hlt' : ¬ (k : Int) < (n : Int) := by omega
          have e : k = n := by omega
          subst e
          have h0 := HCW.out
          rw [HFE.out] at h0
          have HF := Lib.hid h0
          clear h0
          go_wp2
          go_ret
          unfold applyE applyL
          rw [HAL.out]
          exact ⟨rfl, HF.out, HB.out⟩
theorem apply_any (h : Cel 98 w b F l) (ht : TchAt w p ts) (hp : Sep (fpR p) F) (hm : ts.length ≤ 9223372036854775807) : Calls Tryz.prog 50 #[.pointer (some ⟨b, 0, none⟩), .slice p ts.length cap] w fun e w' => e = .returned (.int .i64 (applyE l.length ts)) ∧ Cel 98 w' b F (applyL l ts) ∧ Turn F F w w' := apply_any' h ht rfl hp hm
end
end Go.Proofs.YtaliehikdidiaaaGreatDoor.Sx
