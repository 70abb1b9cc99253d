import Derived.Test.YteinilmecnlanaaGreatDoorJA1
import Derived.Test.YteinilmecnlanaaGreatDoorY2
import Derived.Test.YteinilmecnlanaaGreatDoorS1
import Derived.Test.YteinilmecnlanaaGreatDoorWalkB
import Derived.Deep.RegionHeld
import Derived.Deep.AppendLies
import Derived.Test.YteinilmecnlanaaGreatDoorJA2
import Derived.Deep.LoopGhost
import Derived.Test.YteinilmecnlanaaGreatDoorSq
import Derived.Deep.AppendSrc
import Derived.Deep.MidRow
import Derived.Laws.MakeOwn
import Derived.Deep.RegionLaw
import Derived.Deep.CutBlock
import Derived.Deep.DeepCutAuto
namespace Go.Proofs.YteinilmecnlanaaGreatDoor.Sx
open Go.ChangeShapes Go.WideShapes Go.ChangeAt Go.RowKit Num
theorem _root_.Go.Proofs.YteinilmecnlanaaGreatDoor.RowAt.turn {E : TypeId} {w w' : World} {p : Option Addr} {c : Nat} {xs : List Value} {G G' : List Nat} (h : RowAt E w p c xs) (k : Turn G G' w w') (s : Sep (fpR p) G) : RowAt E w' p c xs := h.keep (k.kept s h.blw)
theorem row_store {E : TypeId} {w : World} {g c : Nat} {xs : List Value} (h : RowAt E w (some ⟨g, 0, none⟩) c xs) (i : Nat) (z : Value) : RowAt E (w.setCell ⟨g, i, none⟩ z) (some ⟨g, 0, none⟩) c (xs.set i z) ∧ Turn [g] [g] w (w.setCell ⟨g, i, none⟩ z) := by
  obtain ⟨hs, hg⟩ := h.own.stored i z
  exact ⟨⟨by rw [List.length_set]; exact hs⟩, grown_turn hg⟩
theorem row_num {w : World} {p : Option Addr} {c : Nat} {l : List Nat} (h : RowAt 73 w p c (fls l)) (i : Nat) (hi : i < l.length) : ∃ g, p = some ⟨g, 0, none⟩ ∧ g < w.heap.size ∧ w.cell? ⟨g, i, none⟩ = some (.float .f64 l[i]) ∧ w.frozen? ⟨g, i, none⟩ = false := by
  have ho := h.own
  rw [fls_len] at ho
  rcases ho.2 with ⟨_, q⟩ | ⟨g, cap, cur, hv, _, hg, _⟩
  · omega
  · cases hv
    refine ⟨g, rfl, lt_of_block hg, ?_, frozen_of_row w g i _ _ hg⟩
    rw [ho.cellAt i (by omega)]
    simp [fls, hi]
structure CelAt (T : TypeId) (w : World) (b : Nat) (p : Option Addr) (c : Nat) (l : List Nat) : Prop where
  box : w.heap[b]? = some (.cells #[.slice p l.length c] T (0, 0))
  row : RowAt 73 w p c (fls l)
  ne : b ∉ fpR p
  many : l.length ≤ 256
def Cel (T : TypeId) (w : World) (b : Nat) (F : List Nat) (l : List Nat) : Prop := ∃ p c, CelAt T w b p c l ∧ F = b :: fpR p
section
variable {T : TypeId} {w w' : World} {b c : Nat} {p : Option Addr} {l : List Nat} {F : List Nat}
theorem CelAt.ltB (h : CelAt T w b p c l) : b < w.heap.size := lt_of_block h.box
theorem CelAt.cell0 (h : CelAt T w b p c l) : w.cell? ⟨b, 0, none⟩ = some (.slice p l.length c) := by rw [cell_of_row w b 0 _ _ _ h.box]; rfl
theorem CelAt.blw (h : CelAt T w b p c l) : Blw w (b :: fpR p) := fun k hk => by
  rcases List.mem_cons.1 hk with rfl | q
  · exact h.ltB
  · exact h.row.blw k q
theorem CelAt.keep (h : CelAt T w b p c l) (k : Kept (b :: fpR p) w w') : CelAt T w' b p c l :=
  ⟨(k.2 b (List.mem_cons_self ..)).trans h.box, h.row.keep ⟨k.1, fun i hi => k.2 i (List.mem_cons_of_mem _ hi)⟩, h.ne, h.many⟩
theorem CelAt.same (h : CelAt T w b p c l) (k : Same w w') : CelAt T w' b p c l := h.keep (k.kept _)
theorem CelAt.cel (h : CelAt T w b p c l) : Cel T w b (b :: fpR p) l := ⟨p, c, h, rfl⟩
theorem Cel.blw (h : Cel T w b F l) : Blw w F := by obtain ⟨p, c, hs, rfl⟩ := h; exact hs.blw
theorem Cel.keep (h : Cel T w b F l) (k : Kept F w w') : Cel T w' b F l := by
  obtain ⟨p, c, hs, rfl⟩ := h
  exact ⟨p, c, hs.keep k, rfl⟩
theorem Cel.same (h : Cel T w b F l) (k : Same w w') : Cel T w' b F l := h.keep (k.kept F)
theorem Cel.on (h : Cel T w b F l) (k : Below w.heap.size w w') : Cel T w' b F l := h.keep (kept_below k h.blw)
theorem Cel.turn {G G' : List Nat} (h : Cel T w b F l) (k : Turn G G' w w') (s : Sep F G) : Cel T w' b F l := h.keep (k.kept s h.blw)
theorem Cel.alloc (h : Cel T w b F l) (x : Obj) : Cel T (w.alloc x) b F l := h.on (below_alloc _ x)
theorem CelAt.lay {g : Nat} (h : CelAt T w b (some ⟨g, 0, none⟩) c l) (i x : Nat) : CelAt T (w.setCell ⟨g, i, none⟩ (.float .f64 x)) b (some ⟨g, 0, none⟩) c (l.set i x) ∧ Turn [b, g] [b, g] w (w.setCell ⟨g, i, none⟩ (.float .f64 x)) := by
  have hne : b ≠ g := fun z => h.ne (by simp [fpR, z])
  have q := row_store h.row i (.float .f64 x)
  rw [fls_set] at q
  refine ⟨⟨?_, q.1, h.ne, by rw [List.length_set]; exact h.many⟩, ?_⟩
  · rw [heap_setCell_other _ _ _ _ hne, List.length_set]
    exact h.box
  · exact ⟨q.2.os, q.2.tape, q.2.output, q.2.size, fun k hk hn => q.2.block k hk (fun z => hn (by simp at z ⊢; exact .inr z)), fun k hk => .inl hk⟩
end
theorem cel_about {T : TypeId} {w1 w2 : World} {c B : Nat} {p : Option Addr} {l : List Nat} (hr : RowAt 73 w1 p c (fls l)) (ha : Abv B (fpR p)) (hB : B ≤ w1.heap.size) (hm : l.length ≤ 256) (h2 : w2.heap = (w1.alloc (.cells #[.slice p l.length c] T)).heap) :
    CelAt T w2 w1.heap.size p c l ∧ Abv B (w1.heap.size :: fpR p) := by
  refine ⟨⟨by rw [h2]; exact heap_alloc_new _ _, hr.keep ⟨by rw [h2]; simp, fun k hk => by rw [h2]; exact Below.heap_alloc _ _ _ (hr.blw k hk)⟩, fun q => absurd (hr.blw _ q) (Nat.lt_irrefl _), hm⟩, fun k hk => ?_⟩
  rcases List.mem_cons.1 hk with rfl | q
  · exact hB
  · exact ha k q
def hasN (n : Nat) (i : Int) : Bool := decide (0 ≤ i) && decide (i < (n : Int))
theorem hasN_pos {n : Nat} {i : Int} (h : hasN n i = true) : ∃ k : Nat, i = k ∧ k < n := by
  unfold hasN at h
  simp at h
  exact ⟨i.toNat, by omega, by omega⟩
theorem hasN_nat {n k : Nat} : hasN n (k : Int) = decide (k < n) := by
  unfold hasN
  rw [Bool.eq_iff_iff]
  simp
def cellE (n : Nat) (i : Int) : Int := if hasN n i then 0 else 60
def getV (l : List Nat) (i : Int) : Nat := if hasN l.length i then l.getD i.toNat 0 else 0
def setL (l : List Nat) (i : Int) (x : Nat) : List Nat := if hasN l.length i then l.set i.toNat (fixB x) else l
theorem setL_len (l : List Nat) (i : Int) (x : Nat) : (setL l i x).length = l.length := by unfold setL; split <;> simp
def allB (n : Nat) (ts : List (Int × Nat)) : Bool := ts.all fun t => hasN n t.1
def foldL (l : List Nat) (ts : List (Int × Nat)) : List Nat := ts.foldl (fun l t => setL l t.1 t.2) l
theorem foldL_len (ts : List (Int × Nat)) : ∀ l, (foldL l ts).length = l.length := by
  induction ts with
  | nil => intro l; rfl
  | cons t ts ih => intro l; show (foldL (setL l t.1 t.2) ts).length = _; rw [ih, setL_len]
def applyE (n : Nat) (ts : List (Int × Nat)) : Int := if allB n ts then 0 else 60
def applyL (l : List Nat) (ts : List (Int × Nat)) : List Nat := if allB l.length ts then foldL l ts else l
def mayN (n : Int) : Bool := decide (1 ≤ n) && decide (n ≤ 256)
def TchAt (w : World) (p : Option Addr) (ts : List (Int × Nat)) : Prop :=
  ∀ i (h : i < ts.length), ∃ g, p = some ⟨g, 0, none⟩ ∧ g < w.heap.size ∧ w.cell? ⟨g, i * 2, none⟩ = some (.int .i64 ts[i].1) ∧ w.cell? ⟨g, i * 2 + 1, none⟩ = some (.float .f64 ts[i].2)
theorem TchAt.keep {w w' : World} {p : Option Addr} {ts : List (Int × Nat)} (h : TchAt w p ts) (k : Kept (fpR p) w w') : TchAt w' p ts := fun i hi => by
  obtain ⟨g, h1, h2, h3, h4⟩ := h i hi
  have q := k.2 g (by rw [h1]; simp [fpR])
  exact ⟨g, h1, Nat.lt_of_lt_of_le h2 k.1, (World.cell?_of_block (a := ⟨g, i * 2, none⟩) q).trans h3, (World.cell?_of_block (a := ⟨g, i * 2 + 1, none⟩) q).trans h4⟩
end Go.Proofs.YteinilmecnlanaaGreatDoor.Sx
namespace Go.Proofs.YteinilmecnlanaaGreatDoor.Sx
open Go.ChangeShapes Go.WideShapes Go.ChangeAt Go.RowKit Num
attribute [local go_sem] run_store_float frombits_run bits_run
theorem fMake (n : Nat) (hn : n ≤ 256) (w : World) : (Instr.makeSlice 27 (.int .i64 (n : Int)) (.int .i64 (n : Int))).run Tryz.prog w = .ok (.slice (some ⟨w.heap.size, 0, none⟩) n n) (w.alloc (.cells (fls (List.replicate n 0)).toArray 73)) := by
  obtain ⟨i, hi, hz0, hz1, hz2⟩ := info_parts fInfo
  rw [run_make w 27 73 i (.float .f64 0) Tryz.underlying27 hi hz0 .i64 .i64 n n (by omega) (Int.le_refl _) (by rw [hz2]; omega) (by omega)]
  have e : (madeCells (.float .f64 0 : Value).cells (((n : Int)).toNat * i.size)) = (fls (List.replicate n 0)).toArray := by
    rw [hz1, Nat.mul_one, Int.toNat_natCast]
    apply Array.toList_inj.1
    rw [show (.float .f64 0 : Value).cells = #[.float .f64 0] from rfl, toList_madeCells_one]
    simp [fls]
  rw [e, Int.toNat_natCast]
theorem fCopy {w : World} {p : Option Addr} {c : Nat} {l : List Nat} (h : RowAt 73 w p c (fls l)) : ∃ W2, (∀ ty, (Builtin.copy_ #[27, 27] ty #[.slice (some ⟨w.heap.size, 0, none⟩) l.length l.length, .slice p l.length c]).run Tryz.prog (w.alloc (.cells (fls (List.replicate l.length 0)).toArray 73)) = .ok (goInt l.length) W2) ∧ RowAt 73 W2 (some ⟨w.heap.size, 0, none⟩) l.length (fls l) ∧ Below w.heap.size w W2 := by
  have ho := h.own
  rw [fls_len] at ho
  rcases ho.2 with ⟨hv, h0⟩ | ⟨g, cap, cur, hv, _, hg, hc, hm, hs, ht⟩
  · have hl : l = [] := List.eq_nil_of_length_eq_zero h0
    subst hl
    cases hv
    refine ⟨w.alloc (.cells (fls (List.replicate 0 0)).toArray 73), fun ty => ?_, ⟨?_⟩, (Below.refl _ _).alloc (Nat.le_refl _) _⟩
    · obtain ⟨i, hi, hz0, hz1, hz2⟩ := info_parts fInfo
      simp [Builtin.copy_, run_underlying Tryz.underlying27, Builtin.lenOf, Builtin.firstCells, sizeOf, typeInfo, hi, storeCells]
    · exact World.ownsRow_lit w _ 0 (Nat.zero_le _) (by unfold maxLen; omega) (by simp [fls])
  · cases hv
    have hr := fun ty => run_copy_row (P := Tryz.prog) (w.alloc (.cells (fls (List.replicate l.length 0)).toArray 73)) 27 27 ty 73 w.heap.size 0 l.length l.length ⟨g, 0, none⟩ l.length c (fls (List.replicate l.length 0)).toArray 73 (fls l) Tryz.underlying27 (by kernel_rfl) (heap_alloc_new _ _) (by rw [fls_len]; exact (Nat.min_self _).symm) (fun j v hj => by
      rw [World.ownsRow.cells (ho.alloc _) (g := g) rfl j v hj]) (by simp [fls_len]) (fun v hv => by
      unfold fls at hv
      obtain ⟨x, _, rfl⟩ := List.mem_map.1 hv
      rfl)
    have e : (List.take 0 (fls (List.replicate l.length 0)).toArray.toList ++ fls l ++ List.drop (0 + (fls l).length) (fls (List.replicate l.length 0)).toArray.toList) = fls l := by
      rw [List.drop_of_length_le (by simp [fls_len])]
      simp
    refine ⟨(w.alloc (.cells (fls (List.replicate l.length 0)).toArray 73)).setRow w.heap.size (fls l).toArray, fun ty => (hr ty).trans (by rw [e, fls_len]), ⟨?_⟩, ((Below.refl _ _).alloc (Nat.le_refl _) _).trans ⟨rfl, rfl, rfl, by simp, fun k hk => setRow_other _ _ _ _ (Nat.ne_of_lt hk)⟩⟩
    refine ⟨by simp, .inr ⟨w.heap.size, l.length, (fls l).toArray, by rw [fls_len], Nat.zero_le _, setRow_heap _ _ _ _ _ _ (heap_alloc_new _ _), by rw [fls_len]; exact Nat.le_refl _, by omega, by simp [fls_len], by simp⟩⟩
theorem abv_new (w : World) : Abv w.heap.size (fpR (some ⟨w.heap.size, 0, none⟩)) := fun k hk => by simp [fpR] at hk; omega
set_option maxRecDepth 100000 in
theorem copied_any {w : World} {p : Option Addr} {c : Nat} {l : List Nat} (h : RowAt 73 w p c (fls l)) (hn : l.length ≤ 256) : Calls Tryz.prog 56 #[.slice p l.length c] w fun e w' => e = .returned (.slice (some ⟨w.heap.size, 0, none⟩) l.length l.length) ∧ RowAt 73 w' (some ⟨w.heap.size, 0, none⟩) l.length (fls l) ∧ Below w.heap.size w w' := by
  have hmk := fMake l.length hn
  obtain ⟨W2, hcp, hr, hbl⟩ := fCopy h
  have HF := Lib.hid (And.intro hr hbl)
  clear hr hbl h
  go_enter Tryz.func56, Tryz.ntmps56
  go_wp2
  go_ret
  exact ⟨rfl, HF.out.1, HF.out.2⟩
theorem mayBe_any (n : Int) (w : World) : Calls Tryz.prog 55 #[.int .i64 n] w fun e w' => e = .returned (.bool (mayN n)) ∧ w' = w := by
  unfold mayN
  by_cases h1 : 1 ≤ n <;> by_cases h2 : n ≤ 256
  all_goals
    go_enter Tryz.func55, Tryz.ntmps55
    go_wp2
    go_ret
    exact ⟨by simp [h1, h2], rfl⟩
section
variable {w : World} {b : Nat} {F : List Nat} {l : List Nat}
theorem has_any (h : Cel 121 w b F l) (i : Int) : Calls Tryz.prog 94 #[.pointer (some ⟨b, 0, none⟩), .int .i64 i] w fun e w' => e = .returned (.bool (hasN l.length i)) ∧ w' = w := by
  obtain ⟨p, c, hs, rfl⟩ := h
  have h0 := hs.cell0
  have hb := hs.ltB
  clear hs
  unfold hasN
  by_cases h1 : 0 ≤ i <;> by_cases h2 : i < (l.length : Int)
  all_goals
    go_enter Tryz.func94, Tryz.ntmps94
    go_wp2
    go_ret
    exact ⟨by simp [h1, h2], rfl⟩
theorem len_any (h : Cel 121 w b F l) : Calls Tryz.prog 85 #[.pointer (some ⟨b, 0, none⟩)] w fun e w' => e = .returned (.int .i64 l.length) ∧ w' = w := by
  obtain ⟨p, c, hs, rfl⟩ := h
  have h0 := hs.cell0
  have hb := hs.ltB
  clear hs
  go_enter Tryz.func85, Tryz.ntmps85
  go_wp2
  go_ret
  exact ⟨rfl, rfl⟩
theorem all_any (h : Cel 121 w b F l) : Calls Tryz.prog 34 #[.pointer (some ⟨b, 0, none⟩)] w fun e w' => e = .returned (.slice (some ⟨w.heap.size, 0, none⟩) l.length l.length) ∧ RowAt 73 w' (some ⟨w.heap.size, 0, none⟩) l.length (fls l) ∧ Below w.heap.size w w' := by
  obtain ⟨p, c, hs, rfl⟩ := h
  have h0 := hs.cell0
  have hb := hs.ltB
  have HC := Lib.hid (copied_any hs.row hs.many)
  clear hs
  go_enter Tryz.func34, Tryz.ntmps34
  go_wp2_with (go_at_call 56; refine HC.out.mono ?_; rintro e w1 ⟨rfl, hr, hbb⟩; have HR := Lib.hid (And.intro hr hbb); clear hr hbb)
  go_ret
  exact ⟨rfl, HR.out.1, HR.out.2⟩
theorem get_any (h : Cel 121 w b F l) (i : Int) : Calls Tryz.prog 92 #[.pointer (some ⟨b, 0, none⟩), .int .i64 i] w fun e w' => e = .returned (.tuple #[.float .f64 (getV l i), .int .i64 (cellE l.length i)]) ∧ w' = w := by
  have HH := Lib.hid (has_any h i)
  obtain ⟨p, c, hs, rfl⟩ := h
  have h0 := hs.cell0
  have hb := hs.ltB
  unfold getV cellE
  cases hh : hasN l.length i
  · rw [hh] at HH
    clear hs
    go_enter Tryz.func92, Tryz.ntmps92
    go_wp2_with (go_at_call 94; refine HH.out.mono ?_; rintro e w' ⟨rfl, hw⟩; subst w')
    go_ret2
    exact ⟨rfl, rfl⟩
  · rw [hh] at HH
    obtain ⟨k, rfl, hk⟩ := hasN_pos hh
    obtain ⟨g, rfl, hg, hx, _⟩ := row_num hs.row k hk
    have hk2 : (k : Int) < (l.length : Int) := by omega
    have hv : l.getD (k : Int).toNat 0 = l[k] := by simp [hk]
    rw [hv]
    generalize l[k] = x at *
    clear hv hs
    go_enter Tryz.func92, Tryz.ntmps92
    go_wp2_with (go_at_call 94; refine HH.out.mono ?_; rintro e w' ⟨rfl, hw⟩; subst w')
    go_ret2
    exact ⟨rfl, rfl⟩
set_option maxRecDepth 100000 in
theorem set_any (h : Cel 121 w b F l) (i : Int) (x : Nat) : Calls Tryz.prog 95 #[.pointer (some ⟨b, 0, none⟩), .int .i64 i, .float .f64 x] w fun e w' => e = .returned (.int .i64 (cellE l.length i)) ∧ Cel 121 w' b F (setL l i x) ∧ Turn F F w w' := by
  have HH := Lib.hid (has_any h i)
  have HC := Lib.hid h
  obtain ⟨p, c, hs, rfl⟩ := h
  have h0 := hs.cell0
  have hb := hs.ltB
  unfold setL cellE
  cases hh : hasN l.length i
  · rw [hh] at HH
    clear hs
    go_enter Tryz.func95, Tryz.ntmps95
    go_wp2_with (go_at_call 94; refine HH.out.mono ?_; rintro e w' ⟨rfl, hw⟩; subst w')
    go_ret
    exact ⟨rfl, HC.out, Turn.refl _ _⟩
  · rw [hh] at HH
    obtain ⟨k, rfl, hk⟩ := hasN_pos hh
    obtain ⟨g, rfl, hg, hx, hf⟩ := row_num hs.row k hk
    have hk2 : (k : Int) < (l.length : Int) := by omega
    have HS : Hid (∀ w1, Same w w1 → CelAt 121 (w1.setCell ⟨g, k, none⟩ (.float .f64 (fixB x))) b (some ⟨g, 0, none⟩) c (l.set k (fixB x)) ∧ Turn [b, g] [b, g] w (w1.setCell ⟨g, k, none⟩ (.float .f64 (fixB x)))) := fun w1 k1 => by
      have q := (hs.same k1).lay k (fixB x)
      exact ⟨q.1, (k1.turn _).trans q.2⟩
    generalize l[k] = y at *
    clear hs HC
    go_enter Tryz.func95, Tryz.ntmps95
    go_wp2_with (go_at_call 94; refine HH.out.mono ?_; rintro e w' ⟨rfl, hw⟩; subst w')
    go_region_with (go_at_call 57; refine (fix_any _ _).mono ?_; rintro e w' ⟨rfl, hw⟩; subst w')
    all_goals (try go_wp2)
    all_goals go_ret
    all_goals exact ⟨rfl, (HS.out _ (Same.refl _)).1.cel.same (Same.drew _), (HS.out _ (Same.refl _)).2.trans ((Same.drew _).turn _)⟩
end
end Go.Proofs.YteinilmecnlanaaGreatDoor.Sx
namespace Go.Proofs.YteinilmecnlanaaGreatDoor.Sx
open Go.ChangeShapes Go.WideShapes Go.ChangeAt Go.RowKit Num
attribute [local go_sem] run_store_float frombits_run bits_run
def upF (k : Nat) (l : List Nat) : List Nat := (l.take k).map fixB ++ l.drop k
theorem upF_zero (l : List Nat) : upF 0 l = l := by simp [upF]
theorem upF_len (k : Nat) (l : List Nat) : (upF k l).length = l.length := by simp [upF]; omega
theorem upF_all (l : List Nat) : upF l.length l = l.map fixB := by simp [upF]
theorem upF_at {k : Nat} {l : List Nat} (h : k < l.length) (h' : k < (upF k l).length) : (upF k l)[k] = l[k] := by
  have e : min k l.length = k := Nat.min_eq_left (Nat.le_of_lt h)
  simp [upF, e]
theorem upF_set {k : Nat} {l : List Nat} (h : k < l.length) : (upF k l).set k (fixB l[k]) = upF (k + 1) l := by
  unfold upF
  have e : ((l.take k).map fixB).length = k := by simp; omega
  rw [List.set_append_right _ _ (by omega), e, Nat.sub_self, List.drop_eq_getElem_cons h, List.set_cons_zero, List.take_succ_eq_append_getElem h, List.map_append, List.append_assoc]
  rfl
section
variable {w : World} {p : Option Addr} {c : Nat} {l : List Nat}
set_option maxHeartbeats 2000000 in
set_option maxRecDepth 100000 in
theorem of_some' {n : Nat} (hn : l.length = n) (h : Calls Tryz.prog 56 #[.slice p l.length c] w fun e w' => e = .returned (.slice (some ⟨w.heap.size, 0, none⟩) l.length l.length) ∧ RowAt 73 w' (some ⟨w.heap.size, 0, none⟩) l.length (fls l) ∧ Below w.heap.size w w') (hl : mayN (n : Int) = true) : Calls Tryz.prog 30 #[.slice p n c] w fun e w' => ∃ b F, e = .returned (.tuple #[.pointer (some ⟨b, 0, none⟩), .int .i64 0]) ∧ Cel 121 w' b F (l.map fixB) ∧ Abv w.heap.size F ∧ Below w.heap.size w w' := by
  have h2 : n ≤ 256 := by unfold mayN at hl; simp at hl; omega
  have HC := Lib.hid h
  have HMB := Lib.hid (fun w => mayBe_any (n : Int) w)
  rw [hl] at HMB
  rw [hn] at HC
  have HL : Hid (∀ k, k < n → (upF k l).set k (fixB (l.getD k 0)) = upF (k + 1) l) := fun k hk => by
    have hk : k < l.length := by omega
    have := upF_set hk
    rwa [show l[k] = l.getD k 0 by simp [hk]] at this
  have HA : Hid (∀ k, k < n → ∀ h' : k < (upF k l).length, (upF k l)[k] = l.getD k 0) := fun k hk h' => by
    have hk : k < l.length := by omega
    have := upF_at hk h'
    simpa [hk, h'] using this
  have HE : Hid (upF n l = l.map fixB) := hn ▸ upF_all l
  have HZ : Hid (upF 0 l = l) := upF_zero l
  have HUL : Hid (∀ k, (upF k l).length = n) := fun k => hn ▸ upF_len k l
  clear hn h hl
  go_enter Tryz.func30, Tryz.ntmps30
  go_wp2_with (first
    | (go_at_call 55; refine (HMB.out _).mono ?_; rintro e w' ⟨rfl, hw⟩; subst w')
    | (go_at_call 56; refine HC.out.mono ?_; rintro e w1 ⟨rfl, hr, hbb⟩; have HR := Lib.hid (And.intro hr hbb); clear hr hbb))
  go_loopw [20] (fun vi wr => ∃ k : Nat, vi = .int .i64 k ∧ k ≤ n ∧ Hid (CelAt 121 wr w1.heap.size (some ⟨w.heap.size, 0, none⟩) n (upF k l)) ∧ Hid (Below w.heap.size w wr)) (fun vi _ => n - (intOf vi).toNat)
  case atStart =>
    have q := cel_about (T := 121) (w2 := w1.alloc (.cells #[.slice (some ⟨w.heap.size, 0, none⟩) n n] 121)) (B := w.heap.size) HR.out.1 (abv_new _) HR.out.2.size (by rw [← HZ.out, HUL.out]; exact h2) (by rw [← HZ.out, HUL.out])
    exact ⟨0, rfl, Nat.zero_le _, by rw [HZ.out]; exact q.1, HR.out.2.alloc HR.out.2.size _⟩
  case round =>
    obtain ⟨k, rfl, hk, HS, HB⟩ := hrel
    have q0 := HS.out.cell0
    rw [HUL.out] at q0
    have qb := HS.out.ltB
    by_cases hlt : k < n
    · have hlt' : (k : Int) < (n : Int) := by omega
      have hku : k < (upF k l).length := by rw [HUL.out]; exact hlt
      obtain ⟨g, hgg, hg, hx, hf⟩ := row_num HS.out.row k hku
      cases hgg
      rw [HA.out k hlt hku] at hx
      have HLK := Lib.hid (HL.out k hlt)
      generalize l.getD k 0 = y at hx HLK
      have HD : Hid (CelAt 121 (wr.setCell ⟨w.heap.size, k, none⟩ (.float .f64 (fixB y))) w1.heap.size (some ⟨w.heap.size, 0, none⟩) n (upF (k + 1) l) ∧ Below w.heap.size w (wr.setCell ⟨w.heap.size, k, none⟩ (.float .f64 (fixB y)))) := by
        have q := HS.out.lay k (fixB y)
        rw [HLK.out] at q
        exact ⟨q.1, turn_chain HB.out q.2 (fun j hj => by simp at hj; have := HR.out.2.size; omega)⟩
      clear hku HL HA
      go_wp2
      go_region_with (go_at_call 57; refine (fix_any _ _).mono ?_; rintro e w' ⟨rfl, hw⟩; subst w')
      all_goals (try go_wp2)
      all_goals exact ⟨⟨k + 1, by first | rfl | (congr 1), by omega, HD.out.1.same (Same.drew _), HD.out.2.trans ((Same.drew _).below _)⟩, by simp [intOf]; omega⟩
    · have hlt' : ¬ (k : Int) < (n : Int) := by omega
      have e : k = n := by omega
      subst e
      have h0 := HS.out
      rw [HE.out] at h0
      have HF := Lib.hid h0
      clear h0 q0
      go_wp2
      go_ret2
      exact ⟨_, rfl, _, HF.out.cel, fun j hj => by simp [fpR] at hj; have := HR.out.2.size; omega, HB.out⟩
end
end Go.Proofs.YteinilmecnlanaaGreatDoor.Sx
namespace Go.Proofs.YteinilmecnlanaaGreatDoor.Sx
open Go.ChangeShapes Go.WideShapes Go.ChangeAt Go.RowKit Num
attribute [local go_sem] run_store_float frombits_run bits_run
theorem row_getD {w : World} {p : Option Addr} {c : Nat} {l : List Nat} (h : RowAt 73 w p c (fls l)) (i : Nat) (hi : i < l.length) : ∃ g, p = some ⟨g, 0, none⟩ ∧ g < w.heap.size ∧ w.cell? ⟨g, i, none⟩ = some (.float .f64 (l.getD i 0)) ∧ w.frozen? ⟨g, i, none⟩ = false := by
  have := row_num h i hi
  rwa [show l[i] = l.getD i 0 by simp [hi]] at this
end Go.Proofs.YteinilmecnlanaaGreatDoor.Sx
namespace Go.Proofs.YteinilmecnlanaaGreatDoor.Sx
open Go.ChangeShapes Go.WideShapes Go.ChangeAt Go.RowKit Num
attribute [local go_sem] run_store_float frombits_run bits_run
theorem allB_of {n : Nat} {ts : List (Int × Nat)} (h : ∀ j (hj : j < ts.length), hasN n ts[j].1 = true) : allB n ts = true := by
  unfold allB
  rw [List.all_eq_true]
  intro t ht
  obtain ⟨j, hj, rfl⟩ := List.mem_iff_getElem.1 ht
  exact h j hj
theorem allB_not {n : Nat} {ts : List (Int × Nat)} (j : Nat) (hj : j < ts.length) (h : hasN n ts[j].1 = false) : allB n ts = false := by
  unfold allB
  rw [List.all_eq_false]
  exact ⟨ts[j], List.getElem_mem hj, by rw [h]; decide⟩
theorem foldL_snoc (l : List Nat) (ts : List (Int × Nat)) (k : Nat) (h : k < ts.length) : setL (foldL l (ts.take k)) ts[k].1 ts[k].2 = foldL l (ts.take (k + 1)) := by
  rw [List.take_succ_eq_append_getElem h]
  unfold foldL
  rw [List.foldl_append]
  rfl
section
variable {w : World} {b : Nat} {F : List Nat} {l : List Nat} {p : Option Addr} {cap n : Nat} {ts : List (Int × Nat)}
set_option maxHeartbeats 2000000 in
set_option maxRecDepth 100000 in
theorem apply_any' (h : Cel 121 w b F l) (ht : TchAt w p ts) (hn : ts.length = n) (hp : Sep (fpR p) F) (hm : n ≤ 9223372036854775807) : Calls Tryz.prog 63 #[.pointer (some ⟨b, 0, none⟩), .slice p n cap] w fun e w' => e = .returned (.int .i64 (applyE l.length ts)) ∧ Cel 121 w' b F (applyL l ts) ∧ Turn F F w w' := by
  have HC := Lib.hid h
  have HT : Hid (∀ w', Turn F F w w' → ∀ k, k < n → ∃ g x y, p = some ⟨g, 0, none⟩ ∧ g < w'.heap.size ∧ w'.cell? ⟨g, k * 2, none⟩ = some (.int .i64 x) ∧ w'.cell? ⟨g, k * 2 + 1, none⟩ = some (.float .f64 y) ∧ ∃ hk : k < ts.length, ts[k] = (x, y)) := fun w' ht' k hk => by
    have hb : Blw w (fpR p) := fun i hi => by
      obtain ⟨g, h1, h2, _⟩ := ht k (by omega)
      rw [h1] at hi
      simp [fpR] at hi
      omega
    obtain ⟨g, h1, h2, h3, h4⟩ := ht.keep (ht'.kept hp hb) k (by omega)
    exact ⟨g, _, _, h1, h2, h3, h4, by omega, rfl⟩
  clear h ht hp
  go_enter Tryz.func63, Tryz.ntmps63
  go_wp2
  go_loopw [11] (fun vi wr => ∃ k : Nat, vi = .int .i64 k ∧ k ≤ n ∧ Hid (Below w.heap.size w wr) ∧ Hid (∀ j (hj : j < ts.length), j < k → hasN l.length ts[j].1 = true)) (fun vi _ => n - (intOf vi).toNat)
  case atStart => exact ⟨0, rfl, Nat.zero_le _, Below.refl _ _, fun j hj q => absurd q (Nat.not_lt_zero j)⟩
  case round =>
    obtain ⟨k, rfl, hk, HB, HK⟩ := hrel
    by_cases hlt : k < n
    · have hlt' : (k : Int) < (n : Int) := by omega
      obtain ⟨g, x, y, hpg, hg, hx, hy, hk', htk⟩ := HT.out wr (Below.turn HB.out _) k hlt
      subst hpg
      have HTK := Lib.hid htk
      clear htk
      have HCW := Lib.hid (HC.out.on HB.out)
      cases hh : hasN l.length x
      · have HH := Lib.hid (has_any (HCW.out.alloc (.cells #[.int .i64 x, .float .f64 y] 75)) x)
        rw [hh] at HH
        have HN : Hid (allB l.length ts = false) := allB_not k hk' (by rw [HTK.out]; exact hh)
        clear hh
        go_wp2_with (go_at_call 94; refine HH.out.mono ?_; rintro e w' ⟨rfl, hw⟩; subst w')
        go_ret
        unfold applyE applyL
        rw [HN.out]
        exact ⟨rfl, HCW.out.alloc _, Below.turn (HB.out.alloc HB.out.size _) _⟩
      · have HH := Lib.hid (has_any (HCW.out.alloc (.cells #[.int .i64 x, .float .f64 y] 75)) x)
        rw [hh] at HH
        have HK1 : Hid (∀ j (hj : j < ts.length), j < k + 1 → hasN l.length ts[j].1 = true) := fun j hj q => by
          by_cases e : j = k
          · subst e; rw [HTK.out]; exact hh
          · exact HK.out j hj (by omega)
        clear hh
        go_wp2_with (go_at_call 94; refine HH.out.mono ?_; rintro e w' ⟨rfl, hw⟩; subst w')
        exact ⟨⟨k + 1, by first | rfl | (congr 1), by omega, HB.out.alloc HB.out.size _, HK1⟩, by simp [intOf]; omega⟩
    · have hlt' : ¬ (k : Int) < (n : Int) := by omega
      have HAL : Hid (allB l.length ts = true) := allB_of (fun j hj => HK.out j hj (by omega))
      have HFS : Hid (∀ k (hk : k < ts.length), setL (foldL l (ts.take k)) ts[k].1 ts[k].2 = foldL l (ts.take (k + 1))) := fun k hk => foldL_snoc l ts k hk
      have HFE : Hid (foldL l (ts.take n) = foldL l ts) := by show _ = _; rw [← hn, List.take_length]
      have HCW := Lib.hid (HC.out.on HB.out)
      have HTW := Lib.hid (Below.turn HB.out F)
      clear HB HK HC
      go_wp2
      go_loopw [23] (fun vi wr => ∃ k : Nat, vi = .int .i64 k ∧ k ≤ n ∧ Hid (Turn F F w wr) ∧ Hid (Cel 121 wr b F (foldL l (ts.take k)))) (fun vi _ => n - (intOf vi).toNat)
      case atStart => exact ⟨0, rfl, Nat.zero_le _, HTW, HCW⟩
      case round =>
        clear HTW HCW
        obtain ⟨k, rfl, hk, HB, HCW⟩ := hrel
        by_cases hlt : k < n
        · have hlt' : (k : Int) < (n : Int) := by omega
          obtain ⟨g, x, y, hpg, hg, hx, hy, hk', htk⟩ := HT.out _ HB.out k hlt
          subst hpg
          have hs := HFS.out k hk'
          rw [htk] at hs
          have HS := Lib.hid (set_any (HCW.out.alloc (.cells #[.int .i64 x, .float .f64 y] 75)) x y)
          rw [hs] at HS
          generalize cellE (foldL l (ts.take k)).length x = ev at HS
          clear htk hs
          go_wp2_with (go_at_call 95; refine HS.out.mono ?_; rintro e w' ⟨rfl, hc, ht⟩; have HD := Lib.hid (And.intro hc (HB.out.trans ((Below.turn (below_alloc _ _) F).trans ht))); clear hc ht)
          exact ⟨⟨k + 1, by first | rfl | (congr 1), by omega, HD.out.2, HD.out.1⟩, by simp [intOf]; omega⟩
        · have hlt' : ¬ (k : Int) < (n : Int) := by omega
          have e : k = n := by omega
          subst e
          have h0 := HCW.out
          rw [HFE.out] at h0
          have HF := Lib.hid h0
          clear h0
          go_wp2
          go_ret
          unfold applyE applyL
          rw [HAL.out]
          exact ⟨rfl, HF.out, HB.out⟩
end
end Go.Proofs.YteinilmecnlanaaGreatDoor.Sx
namespace Go.Proofs.YteinilmecnlanaaGreatDoor
open Go.ChangeShapes Go.WideShapes Go.ChangeAt Go.RowKit Num
def goM (s : List Nat) (m : Mac) : Mac := if (stepM m).2.kind = 1 then giveM (stepM m).1 (Sx.getV s (stepM m).2.cell) else (stepM m).1
def runN (s : List Nat) : Nat → Mac → Mac
  | 0, m => m
  | n + 1, m => runN s n (goM s m)
def endM (s : List Nat) (m : Mac) : Mac := runN s 1025 m
def okS (s : List Nat) : Prop := ∀ x ∈ s, okN x
theorem getV_ok {s : List Nat} (h : okS s) (i : Int) : okN (Sx.getV s i) := by
  unfold Sx.getV
  split
  · exact getD_all 0 okN_zero s h _
  · exact okN_zero
theorem runN_add (s : List Nat) : ∀ (a b : Nat) (m : Mac), runN s (a + b) m = runN s b (runN s a m)
  | 0, b, m => by rw [Nat.zero_add]; rfl
  | a + 1, b, m => by
    rw [Nat.add_right_comm]
    exact runN_add s a b (goM s m)
theorem runN_cons (s : List Nat) (k : Nat) (m : Mac) : runN s (k + 1) m = runN s k (goM s m) := rfl
theorem runN_succ (s : List Nat) (k : Nat) (m : Mac) : runN s (k + 1) m = goM s (runN s k m) := runN_add s k 1 m
structure Rest (m : Mac) : Prop where
  inv : Inv m
  nw : ¬ 0 ≤ m.wait
  cel : ∀ t ∈ m.buf, 0 ≤ t.1 ∧ t.1 < m.cells
  nod : (cellsOfL m.buf).Nodup
theorem step_over {m : Mac} (hw : ¬ 0 ≤ m.wait) (h0 : m.how ≠ 0) : stepM m = (m, askEnd) := by
  unfold stepM
  rw [if_neg hw, if_neg h0]
theorem go_over {s : List Nat} {m : Mac} (hw : ¬ 0 ≤ m.wait) (h0 : m.how ≠ 0) : goM s m = m := by
  unfold goM
  rw [step_over hw h0]
  rfl
theorem runN_over {s : List Nat} {m : Mac} (hw : ¬ 0 ≤ m.wait) (h0 : m.how ≠ 0) : ∀ k, runN s k m = m
  | 0 => rfl
  | k + 1 => by
    show runN s k (goM s m) = m
    rw [go_over hw h0]
    exact runN_over hw h0 k
theorem go_inv {s : List Nat} {m : Mac} (h : Inv m) (hs : okS s) : Inv (goM s m) := by
  unfold goM
  split
  · exact inv_give (inv_step h) (getV_ok hs _).2
  · exact inv_step h
theorem go_kind1 {s : List Nat} {m : Mac} (h : (stepM m).2.kind = 1) : goM s m = giveM (stepM m).1 (Sx.getV s (stepM m).2.cell) := if_pos h
theorem go_kindN {s : List Nat} {m : Mac} (h : (stepM m).2.kind ≠ 1) : goM s m = (stepM m).1 := if_neg h
theorem go_turns {s : List Nat} {m : Mac} (h : Inv m) (hw : ¬ 0 ≤ m.wait) (h0 : m.how = 0) : Like m (goM s m) ∧ ¬ 0 ≤ (goM s m).wait ∧ (((stepM m).2.kind = 4 ∧ (goM s m).how ≠ 0) ∨ ((stepM m).2.kind ≠ 4 ∧ (goM s m).how = 0 ∧ (goM s m).used = m.used + 1)) := by
  obtain ⟨hl, ⟨k1, k2, k3⟩ | ⟨k1, k2, k3, k4, k5⟩ | ⟨k1, k2, k3, k4⟩⟩ := step_turns h hw h0
  · rw [go_kindN (by rw [k1]; decide)]
    exact ⟨hl, k3, .inl ⟨k1, k2⟩⟩
  · rw [go_kind1 k1]
    obtain ⟨g1, g2, g3, g4⟩ := give_goes k3 (Sx.getV s (stepM m).2.cell)
    exact ⟨hl.trans g4, g1, .inr ⟨by rw [k1]; decide, g2.trans k4, g3.trans k5⟩⟩
  · rw [go_kindN (by rcases k1 with k | k | k <;> rw [k] <;> decide)]
    exact ⟨hl, k2, .inr ⟨by rcases k1 with k | k | k <;> rw [k] <;> decide, k3, k4⟩⟩
theorem go_buf {s : List Nat} {m : Mac} : (goM s m).buf = (stepM m).1.buf := by
  unfold goM
  split
  · exact give_bufs _
  · rfl
theorem cells_mem {l : Wr} {c : Int} : c ∈ cellsOfL l ↔ ∃ t ∈ l, t.1 = c := by unfold cellsOfL; exact List.mem_map
theorem putC_cells {l : Wr} {c : Int} {y : Nat} {P : Int → Prop} (h : ∀ t ∈ l, P t.1) (hc : P c) : ∀ t ∈ putC l c y, P t.1 := fun t ht => by
  have h1 : t.1 ∈ cellsOfL (putC l c y) := cells_mem.2 ⟨t, ht, rfl⟩
  rw [cells_put] at h1
  have h2 : t.1 ∈ cellsOfL l ∨ t.1 = c := by
    split at h1
    · exact .inl h1
    · rcases List.mem_append.1 h1 with h | h
      · exact .inl h
      · exact .inr (by simpa using h)
  rcases h2 with h2 | h2
  · obtain ⟨u, hu, e⟩ := cells_mem.1 h2
    exact e ▸ h u hu
  · exact h2 ▸ hc
theorem Rest.go {s : List Nat} {m : Mac} (h : Rest m) (hs : okS s) : Rest (goM s m) := by
  by_cases h0 : m.how = 0
  · obtain ⟨hl, g1, _⟩ := go_turns (s := s) h.inv h.nw h0
    have hb := step_bufs h.inv h.nw h0
    refine ⟨go_inv h.inv hs, g1, ?_, ?_⟩
    · rw [go_buf, hl.cells]
      rcases hb with ⟨_, e⟩ | ⟨_, e⟩ | ⟨_, e, _⟩ | ⟨_, e, _⟩ | ⟨_, e, _, c1, c2⟩
      iterate 4 (rw [e]; exact h.cel)
      rw [e]
      exact putC_cells (P := fun c => 0 ≤ c ∧ c < m.cells) h.cel ⟨c1, c2⟩
    · rw [go_buf]
      rcases hb with ⟨_, e⟩ | ⟨_, e⟩ | ⟨_, e, _⟩ | ⟨_, e, _⟩ | ⟨_, e, _, c1, c2⟩
      iterate 4 (rw [e]; exact h.nod)
      rw [e]
      exact nodup_put h.nod
  · rw [go_over h.nw h0]
    exact h
theorem Rest.run {s : List Nat} (hs : okS s) : ∀ (k : Nat) {m : Mac}, Rest m → Rest (runN s k m)
  | 0, _, h => h
  | k + 1, _, h => Rest.run hs k (h.go hs)
theorem like_run {s : List Nat} (hs : okS s) : ∀ (k : Nat) {m : Mac}, Rest m → Like m (runN s k m)
  | 0, m, _ => Like.refl m
  | k + 1, m, h => by
    refine Like.trans ?_ (like_run hs k (h.go hs))
    by_cases h0 : m.how = 0
    · exact (go_turns h.inv h.nw h0).1
    · rw [go_over h.nw h0]
      exact Like.refl m
theorem run_ends {s : List Nat} (hs : okS s) : ∀ (k : Nat) {m : Mac}, Rest m → m.fuel - m.used < (k : Int) → (runN s k m).how ≠ 0
  | 0, m, h, hk => by have := h.inv.used; simp at hk; omega
  | k + 1, m, h, hk => by
    show (runN s k (goM s m)).how ≠ 0
    by_cases h0 : m.how = 0
    · obtain ⟨hl, g1, ⟨g2, g3⟩ | ⟨g2, g3, g4⟩⟩ := go_turns (s := s) h.inv h.nw h0
      · rw [runN_over g1 g3]
        exact g3
      · refine run_ends hs k (h.go hs) ?_
        rw [hl.fuel, g4]
        push_cast at hk
        omega
    · rw [go_over h.nw h0, runN_over h.nw h0]
      exact h0
theorem endM_rest {s : List Nat} (hs : okS s) {m : Mac} (h : Rest m) : Rest (endM s m) := h.run hs 1025
theorem endM_like {s : List Nat} (hs : okS s) {m : Mac} (h : Rest m) : Like m (endM s m) := like_run hs 1025 h
theorem endM_how {s : List Nat} (hs : okS s) {m : Mac} (h : Rest m) : (endM s m).how ≠ 0 := run_ends hs 1025 h (by have := h.inv.fuel; have := h.inv.used; omega)
theorem endM_of {s : List Nat} (hs : okS s) {m : Mac} (h : Rest m) {k : Nat} (hk : k ≤ 1025) (h0 : (runN s k m).how ≠ 0) : endM s m = runN s k m := by
  unfold endM
  have e : 1025 = k + (1025 - k) := by omega
  rw [e, runN_add]
  exact runN_over (h.run hs k).nw h0 _
theorem endM_go {s : List Nat} (hs : okS s) {m : Mac} (h : Rest m) : endM s (goM s m) = endM s m := by
  have h3 := runN_succ s 1025 m
  rw [runN_cons] at h3
  show runN s 1025 (goM s m) = runN s 1025 m
  rw [h3]
  exact go_over (endM_rest hs h).nw (endM_how hs h)
theorem new_rest {a b f e t : Int} {c : List Ins} {l : List Nat} (hc : Md.cfgB a b f e = true) (hx : ∀ k, k < c.length → (ci c k).x < 18446744073709551616) (hl : ∀ x ∈ l, x < 18446744073709551616) : Rest (newM a f e t c l) :=
  ⟨inv_new hc hx hl, show ¬ (0 : Int) ≤ -1 by decide, fun t ht => by simp [newM] at ht, by simp [newM, cellsOfL]⟩
def aftS (s : List Nat) (m : Mac) : List Nat := if m.how = 1 then Sx.foldL s m.buf else s
theorem aftS_len (s : List Nat) (m : Mac) : (aftS s m).length = s.length := by
  unfold aftS
  split
  · exact Sx.foldL_len _ _
  · rfl
theorem rest_allB {m : Mac} (hm : Rest m) {n : Nat} (hn : (n : Int) = m.cells) : Sx.allB n m.buf = true := by
  unfold Sx.allB
  rw [List.all_eq_true]
  intro t ht
  have := hm.cel t ht
  unfold Sx.hasN
  simp
  omega
theorem apply_is {s : List Nat} {m : Mac} (hm : Rest m) (hn : (s.length : Int) = m.cells) : Sx.applyL s m.buf = Sx.foldL s m.buf := by
  unfold Sx.applyL
  rw [rest_allB hm hn]
  rfl
end Go.Proofs.YteinilmecnlanaaGreatDoor
namespace Go.Proofs.YteinilmecnlanaaGreatDoor
open Go.ChangeShapes Go.WideShapes Go.ChangeAt Go.RowKit Num
theorem fls_getD {l : List Nat} {j : Nat} {v : Value} (h : (fls l)[j]? = some v) : j < l.length ∧ v = .float .f64 (l.getD j 0) := by
  unfold fls at h
  rw [List.getElem?_map] at h
  cases hl : l[j]? with
  | none => rw [hl] at h; cases h
  | some x =>
    rw [hl] at h
    have hj : j < l.length := (List.getElem?_eq_some_iff.1 hl).1
    refine ⟨hj, ?_⟩
    have : l.getD j 0 = x := by rw [List.getD_eq_getElem?_getD, hl]; rfl
    rw [this]
    exact (Option.some.inj h).symm
theorem fCopyF {w : World} {p : Option Addr} {c : Nat} {l : List Nat} (h : FlAt w p l) (h0 : 1 ≤ l.length) : ∃ W2, (∀ ty, (Builtin.copy_ #[27, 27] ty #[.slice (some ⟨w.heap.size, 0, none⟩) l.length l.length, .slice p l.length c]).run Tryz.prog (w.alloc (.cells (fls (List.replicate l.length 0)).toArray 73)) = .ok (goInt l.length) W2) ∧ (l.length ≤ maxLen → RowAt 73 W2 (some ⟨w.heap.size, 0, none⟩) l.length (fls l)) ∧ Below w.heap.size w W2 := by
  obtain ⟨g, o, rfl, hg, _⟩ := h 0 (by omega)
  have hr := fun ty => run_copy_row (P := Tryz.prog) (w.alloc (.cells (fls (List.replicate l.length 0)).toArray 73)) 27 27 ty 73 w.heap.size 0 l.length l.length ⟨g, o, none⟩ l.length c (fls (List.replicate l.length 0)).toArray 73 (fls l) Tryz.underlying27 (by kernel_rfl) (heap_alloc_new _ _) (by rw [fls_len]; exact (Nat.min_self _).symm) (fun j v hj => by
    obtain ⟨hjl, rfl⟩ := fls_getD hj
    obtain ⟨g', o', e, _, hv⟩ := h j hjl
    cases e
    rw [Go.WideShapes.add_plain, (below_alloc w _).cell hg]
    exact hv) (by simp [fls_len]) (fun v hv => by
    unfold fls at hv
    obtain ⟨x, _, rfl⟩ := List.mem_map.1 hv
    rfl)
  have e : (List.take 0 (fls (List.replicate l.length 0)).toArray.toList ++ fls l ++ List.drop (0 + (fls l).length) (fls (List.replicate l.length 0)).toArray.toList) = fls l := by
    rw [List.drop_of_length_le (by simp [fls_len])]
    simp
  refine ⟨(w.alloc (.cells (fls (List.replicate l.length 0)).toArray 73)).setRow w.heap.size (fls l).toArray, fun ty => (hr ty).trans (by rw [e, fls_len]), fun hm => ⟨?_⟩, ((Below.refl _ _).alloc (Nat.le_refl _) _).trans ⟨rfl, rfl, rfl, by simp, fun k hk => setRow_other _ _ _ _ (Nat.ne_of_lt hk)⟩⟩
  refine ⟨by simp, .inr ⟨w.heap.size, l.length, (fls l).toArray, by rw [fls_len], Nat.zero_le _, setRow_heap _ _ _ _ _ _ (heap_alloc_new _ _), by rw [fls_len]; exact Nat.le_refl _, by omega, by simp [fls_len], by simp⟩⟩
set_option maxRecDepth 100000 in
theorem copiedF_any {w : World} {p : Option Addr} {c : Nat} {l : List Nat} (h : FlAt w p l) (h0 : 1 ≤ l.length) (hn : l.length ≤ 256) : Calls Tryz.prog 56 #[.slice p l.length c] w fun e w' => e = .returned (.slice (some ⟨w.heap.size, 0, none⟩) l.length l.length) ∧ RowAt 73 w' (some ⟨w.heap.size, 0, none⟩) l.length (fls l) ∧ Below w.heap.size w w' := by
  have hmk := Sx.fMake l.length hn
  obtain ⟨W2, hcp, hr, hbl⟩ := fCopyF (c := c) h h0
  have HF := Lib.hid (And.intro (hr (by unfold maxLen; omega)) hbl)
  clear hr hbl h
  go_enter Tryz.func56, Tryz.ntmps56
  go_wp2
  go_ret
  exact ⟨rfl, HF.out.1, HF.out.2⟩
theorem ofF_any {w : World} {p : Option Addr} {c n : Nat} {l : List Nat} (hn : l.length = n) (h : FlAt w p l) (hl : Sx.mayN (n : Int) = true) : Calls Tryz.prog 30 #[.slice p n c] w fun e w' => ∃ b F, e = .returned (.tuple #[.pointer (some ⟨b, 0, none⟩), .int .i64 0]) ∧ Sx.Cel 121 w' b F (l.map fixB) ∧ Abv w.heap.size F ∧ Below w.heap.size w w' := by
  have hb : 1 ≤ n ∧ n ≤ 256 := by unfold Sx.mayN at hl; simp at hl; omega
  exact Sx.of_some' hn (copiedF_any h (by omega) (by omega)) hl
end Go.Proofs.YteinilmecnlanaaGreatDoor
namespace Go.Proofs.YteinilmecnlanaaGreatDoor
open Go.ChangeShapes Go.WideShapes Go.ChangeAt Go.RowKit Num
attribute [local go_sem] run_store_float
structure Rs where
  po : Option Addr
  co : Nat
  pr : Option Addr
  cr : Nat
  pw : Option Addr
  cw : Nat
abbrev resC (R : Rs) (m : Mac) : Array Value := #[.int .i64 m.how, .int .i64 m.cod, .int .i64 m.err, .slice R.po m.out.length R.co, .slice R.pr m.reads.length R.cr, .slice R.pw m.buf.length R.cw, .int .i64 m.used]
abbrev resV (R : Rs) (m : Mac) : Value := .agg (resC R m)
structure ResAt (w : World) (B : Nat) (R : Rs) (m : Mac) : Prop where
  out : RowAt 73 w R.po R.co (fls m.out)
  reads : TRow w R.pr R.cr m.reads
  writes : TRow w R.pw R.cw m.buf
  ao : Abv B (fpR R.po)
  ar : Abv B (fpR R.pr)
  aw : Abv B (fpR R.pw)
theorem ResAt.on {w w' : World} {B : Nat} {R : Rs} {m : Mac} (h : ResAt w B R m) (k : Below w.heap.size w w') : ResAt w' B R m := ⟨h.out.on k, h.reads.on k, h.writes.on k, h.ao, h.ar, h.aw⟩
theorem abv_blw {B : Nat} {F G : List Nat} (h : Abv B F) (k : ∀ x ∈ G, x < B) : Sep F G := fun i hi q => absurd (h i hi) (Nat.not_le.2 (k i q))
theorem ResAt.turn {w w' : World} {B : Nat} {R : Rs} {m : Mac} {G G' : List Nat} (h : ResAt w B R m) (k : Turn G G' w w') (hG : ∀ x ∈ G, x < B) : ResAt w' B R m :=
  ⟨h.out.turn k (abv_blw h.ao hG), h.reads.turn k (abv_blw h.ar hG), h.writes.turn k (abv_blw h.aw hG), h.ao, h.ar, h.aw⟩
theorem ResAt.mono {w : World} {B B' : Nat} {R : Rs} {m : Mac} (h : ResAt w B R m) (k : B' ≤ B) : ResAt w B' R m := ⟨h.out, h.reads, h.writes, h.ao.mono k, h.ar.mono k, h.aw.mono k⟩
def zeroM : Mac := ⟨0, 0, 0, false, [], fun _ => 0, fun _ => 0, [], [], 0, 0, [], [], [], -1, 0, 0, 0⟩
def goodB (a b c e : Int) (n k : Nat) : Bool := Md.cfgB a b c e && decide ((n : Int) = a) && decide (k ≤ 8)
def runR (a b c e t : Int) (cs : List Ins) (l s : List Nat) : Mac := if goodB a b c e s.length l.length then endM s (newM a c e t cs l) else zeroM
def runE (a b c e : Int) (n k : Nat) : Int := if goodB a b c e n k then 0 else 1
theorem Turn.past {F : List Nat} {W wr u : World} {ga : Nat} (ht : Turn [] F W wr) (t : Turn [ga] [ga] wr u) (hg : W.heap.size ≤ ga) : Turn [] F W u :=
  ⟨t.os.trans ht.os, t.tape.trans ht.tape, t.output.trans ht.output, Nat.le_trans ht.size t.size, fun k hk _ => (t.block k (Nat.lt_of_lt_of_le hk ht.size) (by simp; omega)).trans (ht.block k hk (by simp)), ht.own⟩
structure Fin (W : World) (bm ga : Nat) (K : List Nat) (wr : World) (m : Mac) (a : Ask) : Prop where
  ex : ∃ F, Mc wr bm F K m ∧ Turn [] F W wr ∧ ga ∉ F
  box : wr.heap[ga]? = some (askO a)
  nk : ga ∉ K
  hg : W.heap.size ≤ ga
theorem Gm.boxed {W w : World} {bm : Nat} {K : List Nat} {m : Mac} (h : Gm W [] bm K w m) (a : Ask) : Fin W bm w.heap.size K (w.alloc (askO a)) m a := by
  obtain ⟨F, hM, ht⟩ := h.mc
  exact ⟨⟨F, hM.on (below_alloc _ _), ht.trans (Below.turn (below_alloc w _) F), fun q => absurd (hM.blw _ q) (Nat.lt_irrefl _)⟩, heap_alloc_new _ _, fun q => absurd (hM.blwK _ q) (Nat.lt_irrefl _), ht.size⟩
section
variable {W wr : World} {bm ga : Nat} {K : List Nat} {m : Mac} {a : Ask}
theorem Fin.gm (h : Fin W bm ga K wr m a) : Gm W [] bm K wr m := by
  obtain ⟨F, hM, ht, _⟩ := h.ex
  exact hM.gm.trans ht
theorem Fin.turned (h : Fin W bm ga K wr m a) {F : List Nat} (ht : Turn [] F W wr) (hn : ga ∉ F) {u : World} {m' : Mac} (g : Gm wr F bm K u m') : Fin W bm ga K u m' a := by
  obtain ⟨F', hM', ht'⟩ := g.mc
  exact ⟨⟨F', hM', ht.trans ht', fun q => (ht'.own _ q).elim hn (fun z => absurd (lt_of_block h.box) (Nat.not_lt.2 z))⟩, (g.far (lt_of_block h.box) hn).trans h.box, h.nk, h.hg⟩
theorem Fin.step (h : Fin W bm ga K wr m a) (hT : Shaped5 W) (hI : Inv m) : Calls Tryz.prog 91 #[.pointer (some ⟨bm, 0, none⟩)] wr fun e u => e = .returned (askV (stepM m).2) ∧ Fin W bm ga K u (stepM m).1 a := by
  obtain ⟨F, hM, ht, hn⟩ := h.ex
  have hTab : TabAt wr F := TabAt.turn (w := W) (F := []) ⟨hT, by simp⟩ ht
  exact (step_any hM.gm hTab hI).mono fun e u ⟨q1, q2⟩ => ⟨q1, h.turned ht hn q2⟩
theorem Fin.give (h : Fin W bm ga K wr m a) (hI : Inv m) (x : Nat) : Calls Tryz.prog 93 #[.pointer (some ⟨bm, 0, none⟩), .float .f64 x] wr fun e u => e = .returned (.int .i64 (giveE m)) ∧ Fin W bm ga K u (giveM m x) a := by
  obtain ⟨F, hM, ht, hn⟩ := h.ex
  exact (give_any hM.gm hI x).mono fun e u ⟨q1, q2⟩ => ⟨q1, h.turned ht hn q2⟩
theorem Fin.put (h : Fin W bm ga K wr m a) (k' : Ask) : Fin W bm ga K ((((wr.setCell ⟨ga, 0, none⟩ (.int .i64 k'.kind)).setCell ⟨ga, 1, none⟩ (.int .i64 k'.cell)).setCell ⟨ga, 2, none⟩ (.float .f64 k'.x)).setCell ⟨ga, 3, none⟩ (.bool k'.first)) m k' := by
  obtain ⟨F, hM, ht, hn⟩ := h.ex
  have t := (((turn_set wr ga 0 (.int .i64 k'.kind)).trans (turn_set _ ga 1 (.int .i64 k'.cell))).trans (turn_set _ ga 2 (.float .f64 k'.x))).trans (turn_set _ ga 3 (.bool k'.first))
  exact ⟨⟨F, hM.turn t (fun x hx q => by simp at q; subst q; exact hn hx) (fun x hx q => by simp at q; subst q; exact h.nk hx), ht.past t h.hg, hn⟩, askO_set h.box, h.nk, h.hg⟩
end
set_option maxHeartbeats 2000000 in
set_option maxRecDepth 100000 in
theorem finish_any {W w : World} {bm b : Nat} {K F : List Nat} {m : Mac} {s : List Nat} (hG : Gm W [] bm K w m) (hT : Shaped5 W) (hS : Sx.Cel 121 W b F s) (hs : okS s) (hm : Rest m) : Calls Tryz.prog 62 #[.pointer (some ⟨bm, 0, none⟩), .pointer (some ⟨b, 0, none⟩)] w fun e w' => e = .returned (.tuple #[]) ∧ Gm W [] bm K w' (endM s m) := by
  have HGT : Hid (∀ u ga m' a, Fin W bm ga K u m' a → ∀ i : Int, Calls Tryz.prog 92 #[.pointer (some ⟨b, 0, none⟩), .int .i64 i] u fun e w' => e = .returned (.tuple #[.float .f64 (Sx.getV s i), .int .i64 (Sx.cellE s.length i)]) ∧ w' = u) := fun u ga m' a h i => Sx.get_any (hS.on h.gm.fresh) i
  have HST0 := Lib.hid (step_any hG ⟨hT, by simp⟩ hm.inv)
  have HST : Hid (∀ u ga m' a, Fin W bm ga K u m' a → Inv m' → Calls Tryz.prog 91 #[.pointer (some ⟨bm, 0, none⟩)] (u.alloc (askO a)) fun e v => e = .returned (askV (stepM m').2) ∧ Fin W bm u.heap.size K v (stepM m').1 a) := fun u ga m' a h hI => (h.gm.boxed a).step hT hI
  have HGV : Hid (∀ u ga m' a x, Fin W bm ga K u m' a → Inv m' → Calls Tryz.prog 93 #[.pointer (some ⟨bm, 0, none⟩), .float .f64 x] u fun e v => e = .returned (.int .i64 (giveE m')) ∧ Fin W bm ga K v (giveM m' x) a) := fun u ga m' a x h hI => h.give hI x
  have HM : Hid (Rest m ∧ okS s) := ⟨hm, hs⟩
  clear hG hT hS hs hm
  unfold askV at HST0 HST
  go_enter Tryz.func62, Tryz.ntmps62
  go_wp2_with (go_at_call 91; refine HST0.out.mono ?_; rintro e u0 ⟨rfl, q⟩; have F0 := Lib.hid (q.boxed (stepM m).2); clear q HST0)
  go_loopg [4] 1100 (fun k v4 wr => ∃ ga mk, v4 = .pointer (some ⟨ga, 0, none⟩) ∧ Hid (Fin W bm ga K wr (stepM mk).1 (stepM mk).2 ∧ Rest mk ∧ endM s mk = endM s m ∧ (mk.how = 0 → 1025 - mk.used < (k : Int))))
  case atStart => exact ⟨u0.heap.size, m, rfl, F0.out, HM.out.1, rfl, fun _ => by have := HM.out.1.inv.used; omega⟩
  case round =>
    obtain ⟨ga, mk, rfl, HR⟩ := hrel
    have HIN := Lib.hid (inv_step HR.out.2.1.inv)
    have HG0 : Hid (Rest (goM s mk) ∧ endM s (goM s mk) = endM s m) := ⟨HR.out.2.1.go HM.out.2, (endM_go HM.out.2 HR.out.2.1).trans HR.out.2.2.1⟩
    have hk : ((stepM mk).2.kind = 4 ∧ goM s mk = (stepM mk).1 ∧ endM s m = (stepM mk).1) ∨ ((stepM mk).2.kind = 1 ∧ goM s mk = giveM (stepM mk).1 (Sx.getV s (stepM mk).2.cell) ∧ mk.how = 0 ∧ ((goM s mk).how = 0 → (goM s mk).used = mk.used + 1)) ∨ (((stepM mk).2.kind ≠ 4 ∧ (stepM mk).2.kind ≠ 1) ∧ goM s mk = (stepM mk).1 ∧ mk.how = 0 ∧ ((goM s mk).how = 0 → (goM s mk).used = mk.used + 1)) := by
      have hr := HR.out.2.1
      by_cases h4 : (stepM mk).2.kind = 4
      · have e1 : goM s mk = (stepM mk).1 := go_kindN (by rw [h4]; decide)
        refine .inl ⟨h4, e1, ?_⟩
        rw [← HG0.out.2, ← e1]
        have hh : (goM s mk).how ≠ 0 := by
          by_cases h0 : mk.how = 0
          · obtain ⟨_, _, ⟨_, g3⟩ | ⟨g2, _⟩⟩ := go_turns (s := s) hr.inv hr.nw h0
            · exact g3
            · exact absurd h4 g2
          · rw [go_over hr.nw h0]; exact h0
        exact runN_over HG0.out.1.nw hh _
      · have h0 : mk.how = 0 := by
          by_cases h0 : mk.how = 0
          · exact h0
          · rw [step_over hr.nw h0] at h4
            exact absurd rfl h4
        have hu : (goM s mk).how = 0 → (goM s mk).used = mk.used + 1 := by
          obtain ⟨_, _, ⟨g2, _⟩ | ⟨_, _, g4⟩⟩ := go_turns (s := s) hr.inv hr.nw h0
          · exact absurd g2 h4
          · exact fun _ => g4
        by_cases h1 : (stepM mk).2.kind = 1
        · exact .inr (.inl ⟨h1, go_kind1 h1, h0, hu⟩)
        · exact .inr (.inr ⟨⟨h4, h1⟩, go_kindN h1, h0, hu⟩)
    have hus := HR.out.2.1.inv.used
    have hfu := HR.out.2.1.inv.fuel
    obtain ⟨⟨x0, x1, x2, x3, x4⟩, _⟩ := askO_cells HR.out.1.box
    have HF := Lib.hid HR.out.1
    have HMS : Hid (mk.how = 0 → 1025 - mk.used < (gk : Int)) := HR.out.2.2.2
    have hus2 : mk.used ≤ 1024 := by omega
    clear HR hus hfu
    generalize hmg : goM s mk = mg at HG0 hk
    generalize stepM mk = r at HF HIN hk x0 x1 x2 x3
    obtain ⟨m', ⟨kd, cl, xx, fi⟩⟩ := r
    dsimp only at HF HIN hk x0 x1 x2 x3
    clear hmg
    rcases hk with ⟨rfl, _, he⟩ | ⟨rfl, rfl, h0, hu⟩ | ⟨⟨h4, h1⟩, rfl, h0, hu⟩
    · have HE : Hid (Gm W [] bm K wr (endM s m)) := by rw [he]; exact HF.out.gm
      clear he HG0 HST HGV HGT HMS
      go_wp2
      go_end0
      exact ⟨rfl, HE.out⟩
    · have HNX : Hid ((giveM m' (Sx.getV s cl)).how = 0 → 1025 - (giveM m' (Sx.getV s cl)).used < ((gk - 1 : Nat) : Int)) := fun hh => by have := hu hh; have := HMS.out h0; omega
      have hgk : gk - 1 < gk := by have := HMS.out h0; omega
      have HGV1 := Lib.hid (fun u (h : Fin W bm ga K u m' ⟨1, cl, xx, fi⟩) => HGV.out u ga m' _ (Sx.getV s cl) h HIN.out)
      have HGT1 := Lib.hid (HGT.out wr ga m' _ HF.out cl)
      clear HMS hu h0 hus2
      generalize giveM m' (Sx.getV s cl) = mg at HGV1 HG0 HNX
      have HST1 := Lib.hid (fun u (h : Fin W bm ga K u mg ⟨1, cl, xx, fi⟩) => HST.out u ga mg _ h HG0.out.1.inv)
      generalize Sx.getV s cl = y at HGV1 HGT1
      clear HGV HGT HST
      go_wp2_with (first
        | (go_at_call 91; refine (HST1.out _ F1.out).mono ?_; rintro e u2 ⟨rfl, q⟩; obtain ⟨⟨z0, z1, z2, z3, z4⟩, y0, y1, y2, y3⟩ := askO_cells q.box; have F2 := Lib.hid (q.put (stepM mg).2); clear q)
        | (go_at_call 93; refine (HGV1.out _ HF.out).mono ?_; rintro e u1 ⟨rfl, q⟩; obtain ⟨⟨x0, x1, x2, x3, x4⟩, _⟩ := askO_cells q.box; have F1 := Lib.hid q; clear q)
        | (go_at_call 92; refine HGT1.out.mono ?_; rintro e w' ⟨rfl, hw⟩; subst w'))
      go_roundg (gk - 1)
      case measure => exact hgk
      case rel => exact ⟨_, mg, rfl, F2.out, HG0.out.1, HG0.out.2, HNX.out⟩
    · have HNX : Hid (mg.how = 0 → 1025 - mg.used < ((gk - 1 : Nat) : Int)) := fun hh => by have := hu hh; have := HMS.out h0; omega
      have hgk : gk - 1 < gk := by have := HMS.out h0; omega
      have HST1 := Lib.hid (HST.out wr ga mg _ HF.out HG0.out.1.inv)
      clear HMS hu h0 hus2 HGV HGT HST
      go_wp2_with (go_at_call 91; refine HST1.out.mono ?_; rintro e u2 ⟨rfl, q⟩; obtain ⟨⟨z0, z1, z2, z3, z4⟩, y0, y1, y2, y3⟩ := askO_cells q.box; have F2 := Lib.hid (q.put (stepM mg).2); clear q)
      go_roundg (gk - 1)
      case measure => exact hgk
      case rel => exact ⟨_, mg, rfl, F2.out, HG0.out.1, HG0.out.2, HNX.out⟩
theorem res_back {fn : Func} {p : Tmp} (h : fn.results = #[.cell p 83]) {Q : Ending → World → Prop} {a : Act} {w : World} (g : Nat) (R : Rs) (m : Mac) (hp : a.tmps.getD p undef = .pointer (some ⟨g, 0, none⟩))
    (hg : w.heap[g]? = some (.cells (resC R m) 83 (0, 0))) (hd : a.defers = []) (hR : Q (.returned (resV R m)) w) : bodyPost Tryz.prog fn Q .ret a w :=
  bodyPost_ret (results_cell_row h _ _ g _ _ _ _ hp hg Tryz.underlying83 rfl (by kernel_rfl)) hd hR
theorem res_back2 {fn : Func} {p u : Tmp} (h : fn.results = #[.cell p 83, .tmp u]) {Q : Ending → World → Prop} {a : Act} {w : World} (g : Nat) (R : Rs) (m : Mac) (e : Int) (hp : a.tmps.getD p undef = .pointer (some ⟨g, 0, none⟩)) (hu : a.tmps.getD u undef = .int .i64 e)
    (hg : w.heap[g]? = some (.cells (resC R m) 83 (0, 0))) (hd : a.defers = []) (hR : Q (.returned (.tuple #[resV R m, .int .i64 e])) w) : bodyPost Tryz.prog fn Q .ret a w := by
  refine bodyPost_ret (v := .tuple #[resV R m, .int .i64 e]) ?_ hd hR
  rw [results_cell_tmp h, hp, hu]
  have hl := run_loadVar_row (P := Tryz.prog) w g 83 83 (resC R m) (0, 0) _ hg Tryz.underlying83 rfl (by kernel_rfl)
  simp [asAddr, hl, Result.andThen]
theorem cells7_of {w : World} {x : Nat} {v0 v1 v2 v3 v4 v5 v6 : Value} {T : TypeId} (h : w.heap[x]? = some (.cells #[v0, v1, v2, v3, v4, v5, v6] T (0, 0))) : (w.cell? ⟨x, 0, none⟩ = some v0 ∧ w.cell? ⟨x, 1, none⟩ = some v1 ∧ w.cell? ⟨x, 2, none⟩ = some v2 ∧ w.cell? ⟨x, 3, none⟩ = some v3 ∧ w.cell? ⟨x, 4, none⟩ = some v4 ∧ w.cell? ⟨x, 5, none⟩ = some v5 ∧ w.cell? ⟨x, 6, none⟩ = some v6 ∧ x < w.heap.size) ∧ w.frozen? ⟨x, 0, none⟩ = false ∧ w.frozen? ⟨x, 1, none⟩ = false ∧ w.frozen? ⟨x, 2, none⟩ = false ∧ w.frozen? ⟨x, 3, none⟩ = false ∧ w.frozen? ⟨x, 4, none⟩ = false ∧ w.frozen? ⟨x, 5, none⟩ = false ∧ w.frozen? ⟨x, 6, none⟩ = false :=
  ⟨⟨by rw [cell_of_row w x 0 _ _ _ h]; rfl, by rw [cell_of_row w x 1 _ _ _ h]; rfl, by rw [cell_of_row w x 2 _ _ _ h]; rfl, by rw [cell_of_row w x 3 _ _ _ h]; rfl, by rw [cell_of_row w x 4 _ _ _ h]; rfl, by rw [cell_of_row w x 5 _ _ _ h]; rfl, by rw [cell_of_row w x 6 _ _ _ h]; rfl, lt_of_block h⟩, frozen_of_row w x 0 _ _ h, frozen_of_row w x 1 _ _ h, frozen_of_row w x 2 _ _ h, frozen_of_row w x 3 _ _ h, frozen_of_row w x 4 _ _ h, frozen_of_row w x 5 _ _ h, frozen_of_row w x 6 _ _ h⟩
theorem box_set7 {w : World} {x : Nat} {v0 v1 v2 v3 v4 v5 v6 u0 u1 u2 u3 u4 u5 u6 : Value} {T : TypeId} (h : w.heap[x]? = some (.cells #[v0, v1, v2, v3, v4, v5, v6] T (0, 0))) : (((((((w.setCell ⟨x, 0, none⟩ u0).setCell ⟨x, 1, none⟩ u1).setCell ⟨x, 2, none⟩ u2).setCell ⟨x, 3, none⟩ u3).setCell ⟨x, 4, none⟩ u4).setCell ⟨x, 5, none⟩ u5).setCell ⟨x, 6, none⟩ u6).heap[x]? = some (.cells #[u0, u1, u2, u3, u4, u5, u6] T (0, 0)) := by
  have e0 := heap_setCell_same w x 0 _ _ u0 h
  have e1 := heap_setCell_same _ x 1 _ _ u1 e0
  have e2 := heap_setCell_same _ x 2 _ _ u2 e1
  have e3 := heap_setCell_same _ x 3 _ _ u3 e2
  have e4 := heap_setCell_same _ x 4 _ _ u4 e3
  have e5 := heap_setCell_same _ x 5 _ _ u5 e4
  have e6 := heap_setCell_same _ x 6 _ _ u6 e5
  simp only [List.setIfInBounds_toArray, List.set_cons_zero, List.set_cons_succ] at e6
  exact e6
theorem turn_set7 (w : World) (x : Nat) (u0 u1 u2 u3 u4 u5 u6 : Value) : Turn [x] [x] w (((((((w.setCell ⟨x, 0, none⟩ u0).setCell ⟨x, 1, none⟩ u1).setCell ⟨x, 2, none⟩ u2).setCell ⟨x, 3, none⟩ u3).setCell ⟨x, 4, none⟩ u4).setCell ⟨x, 5, none⟩ u5).setCell ⟨x, 6, none⟩ u6) := ((((((turn_set w x 0 u0).trans (turn_set _ x 1 u1)).trans (turn_set _ x 2 u2)).trans (turn_set _ x 3 u3)).trans (turn_set _ x 4 u4)).trans (turn_set _ x 5 u5)).trans (turn_set _ x 6 u6)
abbrev resZ : Obj := .cells #[.int .i64 0, .int .i64 0, .int .i64 0, .slice none 0 0, .slice none 0 0, .slice none 0 0, .int .i64 0] 83
set_option maxHeartbeats 2000000 in
set_option maxRecDepth 100000 in
theorem became_any {W w : World} {b : Nat} {F0 K : List Nat} {m : Mac} (h : Gm W F0 b K w m) (ho : m.out.length ≤ 1024) (hr : m.reads.length ≤ 1024) : Calls Tryz.prog 64 #[.pointer (some ⟨b, 0, none⟩)] w fun e w' => ∃ R, e = .returned (resV R m) ∧ ResAt w' w.heap.size R m ∧ Below w.heap.size w w' := by
  have hz := below_alloc w resZ
  have HE := Lib.hid (end_any (h.on hz))
  have HO := Lib.hid (fun u (hb : Below (w.alloc resZ).heap.size (w.alloc resZ) u) => out_any ((h.on hz).on hb) ho)
  have HR := Lib.hid (fun u (hb : Below (w.alloc resZ).heap.size (w.alloc resZ) u) => reads_any ((h.on hz).on hb) hr)
  have HW := Lib.hid (fun u (hb : Below (w.alloc resZ).heap.size (w.alloc resZ) u) => writes_any ((h.on hz).on hb))
  have HU := Lib.hid (fun u (hb : Below (w.alloc resZ).heap.size (w.alloc resZ) u) => used_any ((h.on hz).on hb))
  unfold endV at HE
  have HZ := Lib.hid hz
  have HC : Hid (∀ u, Below (w.alloc resZ).heap.size (w.alloc resZ) u → u.heap[w.heap.size]? = some resZ) := fun u hb => (hb.block _ (by simp)).trans (heap_alloc_new w _)
  clear h ho hr hz
  go_enter Tryz.func64, Tryz.ntmps64
  go_wp2_with (first
    | (go_at_call 96; refine (HU.out _ B4.out).mono ?_; rintro e w' ⟨rfl, hw⟩; subst w')
    | (go_at_call 47; refine (HW.out _ B3.out).mono ?_; rintro e u4 ⟨rfl, q1, q2⟩; have R4 := Lib.hid (And.intro q1 q2); have B4 := Lib.hid (B3.out.trans (q2.mono B3.out.size)); obtain ⟨⟨x0, x1, x2, x3, x4, x5, x6, x7⟩, y0, y1, y2, y3, y4, y5, y6⟩ := cells7_of (HC.out _ B4.out); clear q1 q2)
    | (go_at_call 46; refine (HR.out _ B2.out).mono ?_; rintro e u3 ⟨pr, cr, rfl, q0, q1, q2⟩; have R3 := Lib.hid (And.intro q0 (And.intro q1 q2)); have B3 := Lib.hid (B2.out.trans (q2.mono B2.out.size)); clear q0 q1 q2)
    | (go_at_call 48; refine (HO.out _ B1.out).mono ?_; rintro e u2 ⟨po, co, rfl, q0, q1, q2⟩; have R2 := Lib.hid (And.intro q0 (And.intro q1 q2)); have B2 := Lib.hid (B1.out.trans (q2.mono B1.out.size)); clear q0 q1 q2)
    | (go_at_call 49; refine HE.out.mono ?_; rintro e u1 ⟨rfl, q⟩; have B1 := Lib.hid q; clear q))
  have hs1 := B1.out.size
  have hs2 := R2.out.2.2.size
  have hs3 := R3.out.2.2.size
  have hw1 : w.heap.size + 1 ≤ u1.heap.size := by simpa using hs1
  have hR : ResAt u4 u1.heap.size ⟨po, co, pr, cr, some ⟨u3.heap.size, 0, none⟩, m.buf.length⟩ m := ⟨(R2.out.1.on R3.out.2.2).on R4.out.2, R3.out.1.on R4.out.2, R4.out.1, R2.out.2.1, R3.out.2.1.mono hs2, fun k hk => by simp [fpR] at hk; omega⟩
  have t := turn_set7 u4 w.heap.size (.int .i64 m.how) (.int .i64 m.cod) (.int .i64 m.err) (.slice po m.out.length co) (.slice pr m.reads.length cr) (.slice (some ⟨u3.heap.size, 0, none⟩) m.buf.length m.buf.length) (.int .i64 m.used)
  refine res_back rfl w.heap.size ⟨po, co, pr, cr, some ⟨u3.heap.size, 0, none⟩, m.buf.length⟩ m rfl (box_set7 (HC.out _ B4.out)) rfl ⟨_, rfl, (hR.turn t (fun x hx => by simp at hx; omega)).mono (by omega), (HZ.out.trans (B4.out.mono HZ.out.size)).trans (t.below (fun x hx => by simp at hx; omega) (by have := B4.out.size; simp at this; omega))⟩
set_option maxHeartbeats 2000000 in
set_option maxRecDepth 100000 in
theorem afits_any {w : World} {bs : Nat} {F s : List Nat} (hS : Sx.Cel 121 w bs F s) (a b c e : Int) : Calls Tryz.prog 60 #[cfgV a b c e, .pointer (some ⟨bs, 0, none⟩)] w fun r w' => r = .returned (.bool (Md.cfgB a b c e && decide ((s.length : Int) = a))) ∧ Below w.heap.size w w' := by
  have HP := Lib.hid (Md.place_any a b c e (w.alloc (cfgO a b c e)))
  have HL : Hid (∀ u, Below w.heap.size w u → Calls Tryz.prog 85 #[.pointer (some ⟨bs, 0, none⟩)] u fun e w' => e = .returned (.int .i64 s.length) ∧ w' = u) := fun u hb => Sx.len_any (hS.on hb)
  have HZ := Lib.hid (below_alloc w (cfgO a b c e))
  have HC : Hid (∀ u, Below (w.alloc (cfgO a b c e)).heap.size (w.alloc (cfgO a b c e)) u → u.cell? ⟨w.heap.size, 0, none⟩ = some (.int .i64 a) ∧ w.heap.size < u.heap.size) := fun u hb => by
    have h1 := (hb.block w.heap.size (by simp)).trans (heap_alloc_new w (cfgO a b c e))
    exact ⟨by rw [cell_of_row u _ 0 _ _ _ h1]; rfl, lt_of_block h1⟩
  clear hS
  cases hc : Md.cfgB a b c e
  · rw [hc, if_neg Bool.false_ne_true] at HP
    clear hc
    go_enter Tryz.func60, Tryz.ntmps60
    go_wp2_with (go_at_call 67; refine HP.out.mono ?_; rintro r u0 ⟨rfl, q⟩; obtain ⟨x0, x1⟩ := HC.out _ q; have HQ := Lib.hid (HZ.out.trans (q.mono HZ.out.size)); clear q HP)
    go_region
    all_goals (try go_wp2)
    all_goals go_ret
    all_goals exact ⟨rfl, (HQ.out.alloc HQ.out.size _).trans ((Same.drewN _ _).below _)⟩
  · rw [hc, if_pos rfl] at HP
    clear hc
    by_cases hl : (s.length : Int) = a
    · rw [decide_eq_true hl, Bool.true_and]
      go_enter Tryz.func60, Tryz.ntmps60
      go_wp2_with (go_at_call 67; refine HP.out.mono ?_; rintro r u0 ⟨rfl, q⟩; obtain ⟨x0, x1⟩ := HC.out _ q; have HQ := Lib.hid (HZ.out.trans (q.mono HZ.out.size)); clear q HP)
      go_region_with (go_at_call 85; refine (HL.out _ ((HQ.out.alloc HQ.out.size _).trans ((Same.drewN _ _).below _))).mono ?_; rintro r w' ⟨rfl, hw⟩; subst w')
      all_goals (try go_wp2)
      all_goals go_ret
      all_goals exact ⟨rfl, (HQ.out.alloc HQ.out.size _).trans ((Same.drewN _ _).below _)⟩
    · rw [decide_eq_false hl, Bool.true_and]
      go_enter Tryz.func60, Tryz.ntmps60
      go_wp2_with (go_at_call 67; refine HP.out.mono ?_; rintro r u0 ⟨rfl, q⟩; obtain ⟨x0, x1⟩ := HC.out _ q; have HQ := Lib.hid (HZ.out.trans (q.mono HZ.out.size)); clear q HP)
      go_region_with (go_at_call 85; refine (HL.out _ ((HQ.out.alloc HQ.out.size _).trans ((Same.drewN _ _).below _))).mono ?_; rintro r w' ⟨rfl, hw⟩; subst w')
      all_goals (try go_wp2)
      all_goals go_ret
      all_goals exact ⟨by show Ending.returned (.bool ((s.length : Int) == a)) = _; rw [show ((s.length : Int) == a) = false by simpa using hl], (HQ.out.alloc HQ.out.size _).trans ((Same.drewN _ _).below _)⟩
theorem Turn.past2 {F F' : List Nat} {W u v : World} {g : Nat} (ht : Turn F F' W u) (t : Turn [g] [g] u v) (hg : W.heap.size ≤ g) : Turn F F' W v :=
  ⟨t.os.trans ht.os, t.tape.trans ht.tape, t.output.trans ht.output, Nat.le_trans ht.size t.size, fun k hk hn => (t.block k (Nat.lt_of_lt_of_le hk ht.size) (by simp; omega)).trans (ht.block k hk hn), ht.own⟩
theorem run_close {w u : World} {bs g B : Nat} {F s : List Nat} {R : Rs} {m : Mac} (hB : Turn F F w u) (hC : Sx.Cel 121 u bs F s) (hR : ResAt u B R m) (hbox : u.heap[g]? = some resZ) (hg : w.heap.size ≤ g) (hgB : g < B) (hF : Blw w F) (hwB : w.heap.size ≤ B) {v : World} (hv : v = (((((((u.setCell ⟨g, 0, none⟩ (.int .i64 m.how)).setCell ⟨g, 1, none⟩ (.int .i64 m.cod)).setCell ⟨g, 2, none⟩ (.int .i64 m.err)).setCell ⟨g, 3, none⟩ (.slice R.po m.out.length R.co)).setCell ⟨g, 4, none⟩ (.slice R.pr m.reads.length R.cr)).setCell ⟨g, 5, none⟩ (.slice R.pw m.buf.length R.cw)).setCell ⟨g, 6, none⟩ (.int .i64 m.used))) :
    v.heap[g]? = some (.cells (resC R m) 83 (0, 0)) ∧ ResAt v w.heap.size R m ∧ Sx.Cel 121 v bs F s ∧ Turn F F w v := by
  subst hv
  have t := turn_set7 u g (.int .i64 m.how) (.int .i64 m.cod) (.int .i64 m.err) (.slice R.po m.out.length R.co) (.slice R.pr m.reads.length R.cr) (.slice R.pw m.buf.length R.cw) (.int .i64 m.used)
  exact ⟨box_set7 hbox, (hR.turn t (fun x hx => by simp at hx; omega)).mono hwB, hC.turn t (fun x hx q => by simp at q; have := hF x hx; omega), hB.past2 t hg⟩
abbrev runW (w : World) (a b c e t : Int) (ao : Option Addr) (n cap : Nat) : World := (newW w a b c e t ao n cap).alloc resZ
theorem runW_below (w : World) (a b c e t : Int) (ao : Option Addr) (n cap : Nat) : Below w.heap.size w (runW w a b c e t ao n cap) := (newW_below w a b c e t ao n cap).trans ((below_alloc _ _).mono (by simp; omega))
theorem runW_boxes {w u : World} {a b c e t : Int} {ao : Option Addr} {n cap : Nat} (h : Below (runW w a b c e t ao n cap).heap.size (runW w a b c e t ao n cap) u) : (u.cell? ⟨w.heap.size, 0, none⟩ = some (.int .i64 a) ∧ u.cell? ⟨w.heap.size, 1, none⟩ = some (.int .i64 b) ∧ u.cell? ⟨w.heap.size, 2, none⟩ = some (.int .i64 c) ∧ u.cell? ⟨w.heap.size, 3, none⟩ = some (.int .i64 e) ∧ w.heap.size < u.heap.size) ∧ (u.cell? ⟨w.heap.size + 1, 0, none⟩ = some (.int .i64 t) ∧ u.cell? ⟨w.heap.size + 1, 1, none⟩ = some (.slice ao n cap) ∧ w.heap.size + 1 < u.heap.size) ∧ u.heap[w.heap.size + 2]? = some resZ ∧ Below w.heap.size w u := by
  have h2 : Below (newW w a b c e t ao n cap).heap.size (newW w a b c e t ao n cap) u := (below_alloc _ resZ).trans (h.mono (by simp))
  obtain ⟨x0, x1, x2, x3, x4⟩ := newW_boxes4 h2
  obtain ⟨_, ⟨y0, y1, y2⟩, y3⟩ := newW_boxes h2
  exact ⟨⟨x0, x1, x2, x3, x4⟩, ⟨y0, y1, y2⟩, (h.block (w.heap.size + 2) (by simp)).trans (heap_new (by simp)), y3⟩
end Go.Proofs.YteinilmecnlanaaGreatDoor
namespace Go.Proofs.YteinilmecnlanaaGreatDoor
open Go.ChangeShapes Go.WideShapes Go.ChangeAt Go.RowKit Num
attribute [local go_sem] run_store_float
theorem res_none (w : World) (B : Nat) : ResAt w B ⟨none, 0, none, 0, none, 0⟩ zeroM := ⟨⟨World.ownsRow_nil _ _ _ _⟩, ⟨World.ownsRow_nil _ _ _ _⟩, ⟨World.ownsRow_nil _ _ _ _⟩, fun k hk => by simp [fpR] at hk, fun k hk => by simp [fpR] at hk, fun k hk => by simp [fpR] at hk⟩
theorem TRow.tch {w : World} {p : Option Addr} {c : Nat} {l : Wr} (h : TRow w p c l) : Sx.TchAt w p l := fun i hi => by
  obtain ⟨g, h1, h2, h3, h4, _⟩ := h.at i hi
  exact ⟨g, h1, h2, h3, h4⟩
theorem Rest.told {m : Mac} (h : Rest m) : m.out.length ≤ 1024 ∧ m.reads.length ≤ 1024 := by
  have h1 := h.inv.out
  have h2 := h.inv.reads
  have h3 := h.inv.used
  have h4 := h.inv.fuel
  rw [if_neg h.nw] at h2
  omega
set_option maxHeartbeats 2000000 in
set_option maxRecDepth 100000 in
theorem run_bad {w : World} {a b c e t : Int} {ao : Option Addr} {n cap : Nat} {po : Option Addr} {k co bs : Nat} {F s : List Nat} (hS : Sx.Cel 121 w bs F s) (hg : goodB a b c e s.length k = false) : Calls Tryz.prog 32 #[cfgV a b c e, .agg #[.int .i64 t, .slice ao n cap], .slice po k co, .pointer (some ⟨bs, 0, none⟩)] w fun r w' => r = .returned (.tuple #[resV ⟨none, 0, none, 0, none, 0⟩ zeroM, .int .i64 1]) ∧ Below w.heap.size w w' := by
  have HF := Lib.hid (afits_any (hS.on (runW_below w a b c e t ao n cap)) a b c e)
  clear hS
  unfold goodB at hg
  have HX : Hid (∀ u, Below (runW w a b c e t ao n cap).heap.size (runW w a b c e t ao n cap) u → u.heap[w.heap.size + 2]? = some resZ ∧ Below w.heap.size w u) := fun u hb => (runW_boxes hb).2.2
  have HT : Hid (∀ u, Below w.heap.size w u → w.heap.size + 2 < u.heap.size → Below w.heap.size w (((((((u.setCell ⟨w.heap.size + 2, 0, none⟩ (.int .i64 0)).setCell ⟨w.heap.size + 2, 1, none⟩ (.int .i64 0)).setCell ⟨w.heap.size + 2, 2, none⟩ (.int .i64 0)).setCell ⟨w.heap.size + 2, 3, none⟩ (.slice none 0 0)).setCell ⟨w.heap.size + 2, 4, none⟩ (.slice none 0 0)).setCell ⟨w.heap.size + 2, 5, none⟩ (.slice none 0 0)).setCell ⟨w.heap.size + 2, 6, none⟩ (.int .i64 0))) := fun u hb hl => hb.trans ((turn_set7 u (w.heap.size + 2) _ _ _ _ _ _ _).below (fun x hx => by simp at hx; omega) (by omega))
  cases hf : (Md.cfgB a b c e && decide ((s.length : Int) = a))
  · rw [hf] at HF
    clear hg hf
    go_enter Tryz.func32, Tryz.ntmps32
    go_wp2_with (go_at_call 60; refine HF.out.mono ?_; rintro r u ⟨rfl, q⟩; obtain ⟨⟨x0, x1, x2, x3, x4, x5, x6, x7⟩, y0, y1, y2, y3, y4, y5, y6⟩ := cells7_of (HX.out _ q).1; have HQ := Lib.hid (HX.out _ q); clear q HF)
    exact res_back2 rfl (w.heap.size + 2) ⟨none, 0, none, 0, none, 0⟩ zeroM 1 rfl rfl (box_set7 HQ.out.1) rfl ⟨rfl, HT.out _ HQ.out.2 x7⟩
  · have hk : (8 : Int) < (k : Int) := by rw [hf] at hg; simp at hg; omega
    rw [hf] at HF
    clear hg hf
    go_enter Tryz.func32, Tryz.ntmps32
    go_wp2_with (go_at_call 60; refine HF.out.mono ?_; rintro r u ⟨rfl, q⟩; obtain ⟨⟨x0, x1, x2, x3, x4, x5, x6, x7⟩, y0, y1, y2, y3, y4, y5, y6⟩ := cells7_of (HX.out _ q).1; have HQ := Lib.hid (HX.out _ q); clear q HF)
    exact res_back2 rfl (w.heap.size + 2) ⟨none, 0, none, 0, none, 0⟩ zeroM 1 rfl rfl (box_set7 HQ.out.1) rfl ⟨rfl, HT.out _ HQ.out.2 x7⟩
theorem end_field (h c e : Int) (w : World) : (Instr.field 59 (.agg #[.int .i64 h, .int .i64 c, .int .i64 e]) 0).run Tryz.prog w = .ok (.int .i64 h) w := by kernel_rfl
theorem Gm.aside {u v v' : World} {bm : Nat} {F K : List Nat} {m : Mac} (h : Gm u [] bm K v m) (hK : Abv u.heap.size K) (t : Turn F F v v') (hF : ∀ x ∈ F, x < u.heap.size) : ∃ F0, Gm v' F0 bm K v' m := by
  obtain ⟨F', hM, ht⟩ := h.mc
  exact ⟨F', (hM.turn t (fun x hx q => (ht.own x hx).elim (by simp) (fun z => absurd (hF x q) (by omega))) (fun x hx q => absurd (hF x q) (by have := hK x hx; omega))).gm⟩
set_option maxHeartbeats 4000000 in
set_option maxRecDepth 100000 in
theorem run_good {w : World} {a b c e t : Int} {ao : Option Addr} {cs : List Ins} {n cap : Nat} {po : Option Addr} {l : List Nat} {k co bs : Nat} {F s : List Nat} (hT : Shaped5 w) (hn : cs.length = n) (hk : l.length = k) (hC : CodeAt w ao cs) (hx : ∀ i ∈ cs, i.x < 18446744073709551616) (hL : FlAt w po l) (hl : ∀ x ∈ l, x < 18446744073709551616) (hnl : n ≤ 9223372036854775807) (hS : Sx.Cel 121 w bs F s) (hs : okS s) (hg : goodB a b c e s.length k = true) : Calls Tryz.prog 32 #[cfgV a b c e, .agg #[.int .i64 t, .slice ao n cap], .slice po k co, .pointer (some ⟨bs, 0, none⟩)] w fun r w' => ∃ R, r = .returned (.tuple #[resV R (endM s (newM a c e t cs l)), .int .i64 0]) ∧ ResAt w' w.heap.size R (endM s (newM a c e t cs l)) ∧ Sx.Cel 121 w' bs F (aftS s (endM s (newM a c e t cs l))) ∧ Turn F F w w' := by
  have hgg : Md.cfgB a b c e = true ∧ (s.length : Int) = a ∧ k ≤ 8 := by unfold goodB at hg; simp at hg; exact ⟨hg.1.1, hg.1.2, hg.2⟩
  have hRE : Rest (newM a c e t cs l) := new_rest hgg.1 (fun j hj => hx _ (List.mem_of_getElem? (ci_lt hj))) hl
  have HF := Lib.hid (afits_any (hS.on (runW_below w a b c e t ao n cap)) a b c e)
  rw [hgg.1, decide_eq_true hgg.2.1] at HF
  have HX : Hid (∀ u, Below (runW w a b c e t ao n cap).heap.size (runW w a b c e t ao n cap) u → u.heap[w.heap.size + 1 + 1]? = some resZ ∧ Below w.heap.size w u) := fun u hb => (runW_boxes hb).2.2
  have HB4 : Hid (∀ u, Below (runW w a b c e t ao n cap).heap.size (runW w a b c e t ao n cap) u → (u.cell? ⟨w.heap.size, 0, none⟩ = some (.int .i64 a) ∧ u.cell? ⟨w.heap.size, 1, none⟩ = some (.int .i64 b) ∧ u.cell? ⟨w.heap.size, 2, none⟩ = some (.int .i64 c) ∧ u.cell? ⟨w.heap.size, 3, none⟩ = some (.int .i64 e) ∧ w.heap.size < u.heap.size) ∧ (u.cell? ⟨w.heap.size + 1, 0, none⟩ = some (.int .i64 t) ∧ u.cell? ⟨w.heap.size + 1, 1, none⟩ = some (.slice ao n cap) ∧ w.heap.size + 1 < u.heap.size)) := fun u hb => ⟨(runW_boxes hb).1, (runW_boxes hb).2.1⟩
  have HN : Hid (∀ u, Below w.heap.size w u → Calls Tryz.prog 61 #[cfgV a b c e, .agg #[.int .i64 t, .slice ao n cap], .slice po k co] u fun r w' => ∃ bm K, r = .returned (.pointer (some ⟨bm, 0, none⟩)) ∧ Gm u [] bm K w' (newM a c e t cs l) ∧ Abv u.heap.size K) := fun u hb => mnew_any hn hk (hT.on hb) (hC.on hb) (hL.on hb) hnl hgg.1 hgg.2.2
  have HFI : Hid (∀ u bm K v, Below w.heap.size w u → Gm u [] bm K v (newM a c e t cs l) → Calls Tryz.prog 62 #[.pointer (some ⟨bm, 0, none⟩), .pointer (some ⟨bs, 0, none⟩)] v fun r w' => r = .returned (.tuple #[]) ∧ Gm u [] bm K w' (endM s (newM a c e t cs l))) := fun u bm K v hb hG => finish_any hG (hT.on hb) (hS.on hb) hs hRE
  have hE : Rest (endM s (newM a c e t cs l)) := endM_rest hs hRE
  have hEC : (endM s (newM a c e t cs l)).cells = a := (endM_like hs hRE).cells
  have hk8 : ¬ (8 : Int) < (k : Int) := by have := hgg.2.2; omega
  clear hT hC hx hL hl hnl hn hk hg hRE
  generalize endM s (newM a c e t cs l) = m at *
  generalize newM a c e t cs l = m0 at *
  have HBL := Lib.hid hS.blw
  have HE : Hid (∀ u bm K v, Gm u [] bm K v m → Calls Tryz.prog 49 #[.pointer (some ⟨bm, 0, none⟩)] v fun r w' => r = .returned (.agg #[.int .i64 m.how, .int .i64 m.cod, .int .i64 m.err]) ∧ Below v.heap.size v w') := fun u bm K v hG => end_any hG
  have HWR : Hid (∀ u bm K v, Gm u [] bm K v m → Calls Tryz.prog 47 #[.pointer (some ⟨bm, 0, none⟩)] v fun r w' => r = .returned (.slice (some ⟨v.heap.size, 0, none⟩) m.buf.length m.buf.length) ∧ TRow w' (some ⟨v.heap.size, 0, none⟩) m.buf.length m.buf ∧ Below v.heap.size v w') := fun u bm K v hG => writes_any hG
  have HBE : Hid (∀ W F0 bm K v, Gm W F0 bm K v m → Calls Tryz.prog 64 #[.pointer (some ⟨bm, 0, none⟩)] v fun r w' => ∃ R, r = .returned (resV R m) ∧ ResAt w' v.heap.size R m ∧ Below v.heap.size v w') := fun W F0 bm K v hG => became_any hG hE.told.1 hE.told.2
  have HAP : Hid (∀ v q, Below w.heap.size w v → w.heap.size ≤ q → TRow v (some ⟨q, 0, none⟩) m.buf.length m.buf → Calls Tryz.prog 63 #[.pointer (some ⟨bs, 0, none⟩), .slice (some ⟨q, 0, none⟩) m.buf.length m.buf.length] v fun r w' => r = .returned (.int .i64 (Sx.applyE s.length m.buf)) ∧ Sx.Cel 121 w' bs F (Sx.foldL s m.buf) ∧ Turn F F v w') := fun v q hb hq hr => by
    have hmany : m.buf.length ≤ 9223372036854775807 := by have := hE.inv.few; have := hE.inv.wmax; omega
    rw [← apply_is hE (hgg.2.1.trans hEC.symm)]
    exact Sx.apply_any' (hS.on hb) hr.tch rfl (fun x hx y => by simp [fpR] at hx; have := hS.blw x y; omega) hmany
  have HS := Lib.hid hS
  have h1 : m.how = 1 ∨ ¬ m.how = 1 := by omega
  have hfd := fun w => end_field m.how m.cod m.err w
  clear hgg hE hEC hS hs
  rcases h1 with h1 | h1
  · have HAF : Hid (aftS s m = Sx.foldL s m.buf) := if_pos h1
    rw [h1] at hfd HE
    clear h1
    go_enter Tryz.func32, Tryz.ntmps32
    go_wp2_with (first
      | (go_at_call 64; refine (HBE.out _ _ _ _ _ G6.out.1).mono ?_; rintro r u7 ⟨R, rfl, q1, q2⟩; have R7 := Lib.hid (And.intro q1 q2); have B7 := Lib.hid ((q2.block _ (lt_of_block G6.out.2)).trans G6.out.2); clear q1 q2; obtain ⟨⟨x0, x1, x2, x3, x4, x5, x6, x7⟩, y0, y1, y2, y3, y4, y5, y6⟩ := cells7_of B7.out)
      | (go_at_call 63; refine (HAP.out _ _ (HX.out _ B5.out).2 Q5.out R5.out).mono ?_; rintro r u6 ⟨rfl, q1, q2⟩; have C6 := Lib.hid (And.intro q1 q2); obtain ⟨F0, q3⟩ := G5.out.aside G2.out.2 q2 (fun x hx => Nat.lt_of_lt_of_le (HBL.out x hx) (HX.out _ B1.out).2.size); have G6 := Lib.hid (And.intro q3 ((q2.block (w.heap.size + 1 + 1) (lt_of_block (HX.out _ B5.out).1) (fun hx => by have := HBL.out _ hx; omega)).trans (HX.out _ B5.out).1)); clear q1 q2 q3)
      | (go_at_call 47; refine (HWR.out _ _ _ _ G4.out).mono ?_; rintro r u5 ⟨rfl, q1, q2⟩; have R5 := Lib.hid q1; have G5 := Lib.hid (G4.out.on q2); have Q5 : Hid (w.heap.size ≤ u4.heap.size) := (HX.out _ B4.out).2.size; have B5 := Lib.hid (B4.out.trans (q2.mono B4.out.size)); clear q1 q2)
      | (go_at_call 49; refine (HE.out _ _ _ _ G3.out).mono ?_; rintro r u4 ⟨rfl, q⟩; have G4 := Lib.hid (G3.out.on q); have B4 := Lib.hid (B3.out.trans (q.mono B3.out.size)); clear q)
      | (go_at_call 62; refine (HFI.out _ _ _ _ (HX.out _ B1.out).2 G2.out.1).mono ?_; rintro r u3 ⟨rfl, q⟩; have G3 := Lib.hid q; have B3 := Lib.hid (B1.out.trans (q.fresh.mono B1.out.size)); clear q)
      | (go_at_call 61; refine (HN.out _ (HX.out _ B1.out).2).mono ?_; rintro r u2 ⟨bm, K, rfl, q1, q2⟩; have G2 := Lib.hid (And.intro q1 q2); clear q1 q2)
      | (go_at_call 60; refine HF.out.mono ?_; rintro r u1 ⟨rfl, q⟩; obtain ⟨⟨z0, z1, z2, z3, z4⟩, t0, t1, t2⟩ := HB4.out _ q; have B1 := Lib.hid q; clear q))
    have hcl := run_close (v := _) ((Below.turn (HX.out _ B5.out).2 F).trans (C6.out.2.trans (Below.turn R7.out.2 F))) (C6.out.1.on R7.out.2) R7.out.1 B7.out (Nat.le_add_right _ 2) (lt_of_block G6.out.2) HBL.out (Nat.le_trans (HX.out _ B5.out).2.size C6.out.2.size) rfl
    rw [HAF.out]
    exact res_back2 rfl (w.heap.size + 1 + 1) R m 0 rfl rfl hcl.1 rfl ⟨_, rfl, hcl.2.1, hcl.2.2.1, hcl.2.2.2⟩
  · have HAF : Hid (aftS s m = s) := if_neg h1
    go_enter Tryz.func32, Tryz.ntmps32
    go_wp2_with (first
      | (go_at_call 64; refine (HBE.out _ _ _ _ _ G4.out).mono ?_; rintro r u7 ⟨R, rfl, q1, q2⟩; have R7 := Lib.hid (And.intro q1 q2); have B7 := Lib.hid (B4.out.trans (q2.mono B4.out.size)); clear q1 q2; obtain ⟨⟨x0, x1, x2, x3, x4, x5, x6, x7⟩, y0, y1, y2, y3, y4, y5, y6⟩ := cells7_of (HX.out _ B7.out).1)
      | (go_at_call 49; refine (HE.out _ _ _ _ G3.out).mono ?_; rintro r u4 ⟨rfl, q⟩; have G4 := Lib.hid (G3.out.on q); have B4 := Lib.hid (B3.out.trans (q.mono B3.out.size)); clear q)
      | (go_at_call 62; refine (HFI.out _ _ _ _ (HX.out _ B1.out).2 G2.out.1).mono ?_; rintro r u3 ⟨rfl, q⟩; have G3 := Lib.hid q; have B3 := Lib.hid (B1.out.trans (q.fresh.mono B1.out.size)); clear q)
      | (go_at_call 61; refine (HN.out _ (HX.out _ B1.out).2).mono ?_; rintro r u2 ⟨bm, K, rfl, q1, q2⟩; have G2 := Lib.hid (And.intro q1 q2); clear q1 q2)
      | (go_at_call 60; refine HF.out.mono ?_; rintro r u1 ⟨rfl, q⟩; obtain ⟨⟨z0, z1, z2, z3, z4⟩, t0, t1, t2⟩ := HB4.out _ q; have B1 := Lib.hid q; clear q))
    have hcl := run_close (v := _) (Below.turn (HX.out _ B7.out).2 F) (HS.out.on (HX.out _ B7.out).2) R7.out.1 (HX.out _ B7.out).1 (Nat.le_add_right _ 2) (lt_of_block (HX.out _ B4.out).1) HBL.out (HX.out _ B4.out).2.size rfl
    rw [HAF.out]
    exact res_back2 rfl (w.heap.size + 1 + 1) R m 0 rfl rfl hcl.1 rfl ⟨_, rfl, hcl.2.1, hcl.2.2.1, hcl.2.2.2⟩
theorem run_any {w : World} {a b c e t : Int} {ao : Option Addr} {cs : List Ins} {n cap : Nat} {po : Option Addr} {l : List Nat} {k co bs : Nat} {F s : List Nat} (hT : Shaped5 w) (hn : cs.length = n) (hk : l.length = k) (hC : CodeAt w ao cs) (hx : ∀ i ∈ cs, i.x < 18446744073709551616) (hL : FlAt w po l) (hl : ∀ x ∈ l, x < 18446744073709551616) (hnl : n ≤ 9223372036854775807) (hS : Sx.Cel 121 w bs F s) (hs : okS s) : Calls Tryz.prog 32 #[cfgV a b c e, .agg #[.int .i64 t, .slice ao n cap], .slice po k co, .pointer (some ⟨bs, 0, none⟩)] w fun r w' => ∃ R, r = .returned (.tuple #[resV R (runR a b c e t cs l s), .int .i64 (runE a b c e s.length k)]) ∧ ResAt w' w.heap.size R (runR a b c e t cs l s) ∧ Sx.Cel 121 w' bs F (aftS s (runR a b c e t cs l s)) ∧ Turn F F w w' := by
  unfold runR runE
  rw [hk]
  cases hg : goodB a b c e s.length k with
  | true =>
    rw [if_pos rfl, if_pos rfl]
    exact run_good hT hn hk hC hx hL hl hnl hS hs hg
  | false =>
    rw [if_neg Bool.false_ne_true, if_neg Bool.false_ne_true]
    exact (run_bad hS hg).mono fun r w' ⟨q1, q2⟩ => ⟨_, q1, res_none w' _, hS.on q2, Below.turn q2 F⟩
end Go.Proofs.YteinilmecnlanaaGreatDoor
namespace Go.Proofs.YteinilmecnlanaaGreatDoor.Ww
open Go.ChangeShapes Go.WideShapes Go.ChangeAt Go.RowKit Num Rr
structure Wx where
  a : Int
  b : Int
  th : Int
  tag : Int
  args : List Nat
  m : Mac
  steps : Int
  part : Nat
  tick : Int
  stamp : Int
  was : List Nat
  at_ : Nat
  num : Int
def plY (x : Wx) : Int := 3 + x.b + 3 * x.a
def atC (x : Wx) (c j : Int) : Int := 3 + x.b + 3 * c + j
def nowN (x : Wx) (ws : List Int) (c : Int) : Nat := fixB (wordAt ws (atC x c 1)).toNat
def runY (x : Wx) (ws : List Int) : Wx × Bool :=
  if (stepM x.m).2.kind = 1 then ({ x with m := giveM (stepM x.m).1 (nowN x ws (stepM x.m).2.cell) }, true)
  else if (stepM x.m).2.kind = 3 ∧ (stepM x.m).2.first = true then ({ x with m := (stepM x.m).1, was := x.was ++ [nowN x ws (stepM x.m).2.cell] }, true)
  else if (stepM x.m).2.kind = 4 then ({ x with m := (stepM x.m).1, part := if (stepM x.m).1.how = 1 then 5 else 8 }, false)
  else ({ x with m := (stepM x.m).1 }, false)
def scanY (x : Wx) (ws : List Int) : Wx :=
  if wordAt ws (3 + (x.at_ : Int)) = 0 ∨ x.stamp < wordAt ws (3 + (x.at_ : Int)) then
    (if ((x.at_ + 1 : Nat) : Int) = x.b then { x with at_ := 0, part := if x.m.buf.length = 0 then 7 else 6 } else { x with at_ := x.at_ + 1 })
  else x
def backW (x : Wx) (ws : List Int) : List Int :=
  if x.at_ % 3 = 0 then ws.set (atC x (x.m.buf.getD (x.at_ / 3) (0, 0)).1 2).toNat ((x.was.getD (x.at_ / 3) 0 : Nat) : Int)
  else if x.at_ % 3 = 1 then ws.set (atC x (x.m.buf.getD (x.at_ / 3) (0, 0)).1 0).toNat (Md.Cv.passV x.stamp)
  else ws.set (atC x (x.m.buf.getD (x.at_ / 3) (0, 0)).1 1).toNat (((x.m.buf.getD (x.at_ / 3) (0, 0)).2 : Nat) : Int)
def backY (x : Wx) : Wx := { x with at_ := x.at_ + 1, part := if x.at_ + 1 = 3 * x.m.buf.length then 7 else 6 }
def tickY (x : Wx) : Wx := { x with steps := x.steps + 1 }
def stepY0 (x : Wx) (ws : List Int) : Wx × List Int × Bool :=
  if x.part = 1 then ({ x with tick := wordAt ws 0, part := 2 }, ws.set 0 (Md.Cv.passV (wordAt ws 0)), true)
  else if x.part = 2 then ((if wordAt ws 1 = x.tick then { x with part := 3 } else x), ws, true)
  else if x.part = 3 then ({ x with stamp := wordAt ws 2, part := 4 }, ws, true)
  else if x.part = 4 then ((runY x ws).1, ws, (runY x ws).2)
  else if x.part = 5 then (scanY x ws, ws, true)
  else if x.part = 6 then (backY x, backW x ws, true)
  else if x.part = 7 then ({ x with num := wrap64 (Md.Cv.passV x.stamp), part := 8 }, ws.set 2 (Md.Cv.passV x.stamp), true)
  else ({ x with part := 9 }, ws.set 1 (Md.Cv.passV x.tick), true)
def stepY (x : Wx) (ws : List Int) : Wx × List Int × Bool := stepY0 (tickY x) ws
structure AlikeY (x y : Wx) : Prop where
  a : y.a = x.a
  b : y.b = x.b
  th : y.th = x.th
  tag : y.tag = x.tag
  args : y.args = x.args
  lk : Like x.m y.m
theorem AlikeY.refl (x : Wx) : AlikeY x x := ⟨rfl, rfl, rfl, rfl, rfl, Like.refl _⟩
theorem AlikeY.trans {x y z : Wx} (h : AlikeY x y) (k : AlikeY y z) : AlikeY x z := ⟨k.a.trans h.a, k.b.trans h.b, k.th.trans h.th, k.tag.trans h.tag, k.args.trans h.args, h.lk.trans k.lk⟩
theorem plY_alike {x y : Wx} (h : AlikeY x y) : plY y = plY x := by unfold plY; rw [h.a, h.b]
structure InY (x : Wx) : Prop where
  ca : 1 ≤ x.a ∧ x.a ≤ 256
  cb : 1 ≤ x.b ∧ x.b ≤ 8
  cel : x.m.cells = x.a
  th : 0 ≤ x.th ∧ x.th < x.b
  rest : Rest x.m
  few : x.args.length ≤ 8
  part : 1 ≤ x.part ∧ x.part ≤ 9
  tk : u64B x.tick
  sp : u64B x.stamp
  wlen : x.was.length = x.m.buf.length
  wok : ∀ v ∈ x.was, okN v
  run : x.part ≤ 4 → x.m.how = 0
  fin : 5 ≤ x.part → x.m.how ≠ 0
  com : 5 ≤ x.part → x.part ≤ 7 → x.m.how = 1
  at4 : x.part ≤ 4 → x.at_ = 0
  at5 : x.part = 5 → (x.at_ : Int) < x.b
  at6 : x.part = 6 → x.at_ < 3 * x.m.buf.length
theorem InY.tick {x : Wx} (h : InY x) : InY (tickY x) := ⟨h.ca, h.cb, h.cel, h.th, h.rest, h.few, h.part, h.tk, h.sp, h.wlen, h.wok, h.run, h.fin, h.com, h.at4, h.at5, h.at6⟩
theorem now_ok {ws : List Int} (h : okW ws) (x : Wx) (c : Int) : okN (nowN x ws c) := okN_fix (by have := h.at (atC x c 1); have h1 := this.1; have h2 := this.2; omega)
section
variable {x : Wx} {ws : List Int}
theorem rest_step {m : Mac} (h : Rest m) (hk : (stepM m).2.kind ≠ 1) : Rest (stepM m).1 := by
  have := h.go (s := []) (fun _ hx => by cases hx)
  rw [go_kindN hk] at this
  exact this
theorem rest_give {m : Mac} (h : Rest m) (h0 : m.how = 0) (hk : (stepM m).2.kind = 1) {v : Nat} (hv : okN v) : Rest (giveM (stepM m).1 v) ∧ (giveM (stepM m).1 v).how = 0 ∧ Like m (giveM (stepM m).1 v) ∧ (giveM (stepM m).1 v).used = m.used + 1 ∧ (giveM (stepM m).1 v).buf = m.buf := by
  obtain ⟨lk, tr⟩ := step_turns h.inv h.nw h0
  have hb := step_bufs h.inv h.nw h0
  rcases tr with ⟨k4, _⟩ | ⟨_, e1, e2, e3, e4⟩ | ⟨k0, _⟩
  · omega
  · obtain ⟨g1, g2, g3, g4⟩ := give_goes e2 v
    have eb : (giveM (stepM m).1 v).buf = m.buf := by
      rw [give_bufs]
      rcases hb with ⟨q, _⟩ | ⟨q, _⟩ | ⟨_, e, _⟩ | ⟨q, _⟩ | ⟨q, _⟩
      · omega
      · omega
      · exact e
      · omega
      · omega
    refine ⟨⟨inv_give (inv_step h.inv) hv.2, g1, ?_, ?_⟩, g2.trans e3, lk.trans g4, g3.trans e4, eb⟩
    · rw [eb, (lk.trans g4).cells]; exact h.cel
    · rw [eb]; exact h.nod
  · omega
theorem run_inY (h : InY x) (hp : x.part = 4) (hW : okW ws) : InY (runY x ws).1 ∧ AlikeY x (runY x ws).1 ∧ (runY x ws).1.steps = x.steps := by
  have h0 := h.run (by omega)
  have hR := h.rest
  obtain ⟨lk, tr⟩ := step_turns hR.inv hR.nw h0
  have hb := step_bufs hR.inv hR.nw h0
  unfold runY
  by_cases k1 : (stepM x.m).2.kind = 1
  · rw [if_pos k1]
    obtain ⟨r1, r2, r3, r4, r5⟩ := rest_give hR h0 k1 (now_ok hW x (stepM x.m).2.cell)
    exact ⟨⟨h.ca, h.cb, r3.cells.trans h.cel, h.th, r1, h.few, h.part, h.tk, h.sp, by dsimp only; rw [r5]; exact h.wlen, h.wok, fun _ => r2, (fun q => by dsimp only at q; omega), (fun q => by dsimp only at q; omega), h.at4, (fun q => by dsimp only at q; omega), (fun q => by dsimp only at q; omega)⟩, ⟨rfl, rfl, rfl, rfl, rfl, r3⟩, rfl⟩
  · rw [if_neg k1]
    have rs := rest_step hR k1
    by_cases k3 : (stepM x.m).2.kind = 3 ∧ (stepM x.m).2.first = true
    · rw [if_pos k3]
      have hh : (stepM x.m).1.how = 0 := by
        rcases tr with ⟨k4, _⟩ | ⟨q, _⟩ | ⟨_, _, e, _⟩
        · omega
        · omega
        · exact e
      have hl : (stepM x.m).1.buf.length = x.m.buf.length + 1 := by
        rcases hb with ⟨q, _⟩ | ⟨q, _⟩ | ⟨q, _⟩ | ⟨q, _⟩ | ⟨_, e, f, _⟩
        · omega
        · omega
        · omega
        · omega
        · rw [e, putC_len]
          rw [k3.2] at f
          have hc : hasC x.m.buf (stepM x.m).2.cell = false := by simpa using f.symm
          rw [hc]
          rfl
      refine ⟨⟨h.ca, h.cb, lk.cells.trans h.cel, h.th, rs, h.few, h.part, h.tk, h.sp, ?_, fun v hv => ?_, fun _ => hh, (fun q => by dsimp only at q; omega), (fun q => by dsimp only at q; omega), h.at4, (fun q => by dsimp only at q; omega), (fun q => by dsimp only at q; omega)⟩, ⟨rfl, rfl, rfl, rfl, rfl, lk⟩, rfl⟩
      · dsimp only
        rw [List.length_append, h.wlen, hl]
        rfl
      · rcases List.mem_append.1 hv with q | q
        · exact h.wok v q
        · have q' : v = nowN x ws (stepM x.m).2.cell := by simpa using q
          rw [q']
          exact now_ok hW x _
    · rw [if_neg k3]
      have hl : (stepM x.m).1.buf.length = x.m.buf.length := by
        rcases hb with ⟨_, e⟩ | ⟨_, e⟩ | ⟨_, e, _⟩ | ⟨_, e, _⟩ | ⟨q, e, f, _⟩
        · rw [e]
        · rw [e]
        · rw [e]
        · rw [e]
        · rw [e, putC_len]
          have hc : hasC x.m.buf (stepM x.m).2.cell = true := by
            cases hq : hasC x.m.buf (stepM x.m).2.cell with
            | true => rfl
            | false => exact absurd ⟨q, by rw [f, hq]; rfl⟩ k3
          rw [hc]
          rfl
      by_cases k4 : (stepM x.m).2.kind = 4
      · rw [if_pos k4]
        have hh : (stepM x.m).1.how ≠ 0 := by
          rcases tr with ⟨_, e, _⟩ | ⟨q, _⟩ | ⟨q, _⟩
          · exact e
          · omega
          · omega
        by_cases hc : (stepM x.m).1.how = 1
        · rw [if_pos hc]
          exact ⟨⟨h.ca, h.cb, lk.cells.trans h.cel, h.th, rs, h.few, by dsimp only; omega, h.tk, h.sp, by dsimp only; rw [hl]; exact h.wlen, h.wok, (fun q => by dsimp only at q; omega), fun _ => hh, fun _ _ => hc, (fun q => by dsimp only at q; omega), (fun _ => by dsimp only; rw [h.at4 (by omega)]; have := h.cb; omega), (fun q => by dsimp only at q; omega)⟩, ⟨rfl, rfl, rfl, rfl, rfl, lk⟩, rfl⟩
        · rw [if_neg hc]
          exact ⟨⟨h.ca, h.cb, lk.cells.trans h.cel, h.th, rs, h.few, by dsimp only; omega, h.tk, h.sp, by dsimp only; rw [hl]; exact h.wlen, h.wok, (fun q => by dsimp only at q; omega), fun _ => hh, (fun _ q => by dsimp only at q; omega), (fun q => by dsimp only at q; omega), (fun q => by dsimp only at q; omega), (fun q => by dsimp only at q; omega)⟩, ⟨rfl, rfl, rfl, rfl, rfl, lk⟩, rfl⟩
      · rw [if_neg k4]
        have hh : (stepM x.m).1.how = 0 := by
          rcases tr with ⟨q, _⟩ | ⟨q, _⟩ | ⟨_, _, e, _⟩
          · omega
          · omega
          · exact e
        exact ⟨⟨h.ca, h.cb, lk.cells.trans h.cel, h.th, rs, h.few, h.part, h.tk, h.sp, by dsimp only; rw [hl]; exact h.wlen, h.wok, fun _ => hh, (fun q => by dsimp only at q; omega), (fun q => by dsimp only at q; omega), h.at4, (fun q => by dsimp only at q; omega), (fun q => by dsimp only at q; omega)⟩, ⟨rfl, rfl, rfl, rfl, rfl, lk⟩, rfl⟩
theorem scan_inY (h : InY x) (hp : x.part = 5) : InY (scanY x ws) ∧ AlikeY x (scanY x ws) ∧ (scanY x ws).steps = x.steps := by
  have h5 := h.at5 hp
  unfold scanY
  split
  · split
    · by_cases hl : x.m.buf.length = 0
      · rw [if_pos hl]
        exact ⟨⟨h.ca, h.cb, h.cel, h.th, h.rest, h.few, by dsimp only; omega, h.tk, h.sp, h.wlen, h.wok, (fun q => by dsimp only at q; omega), fun _ => h.fin (by omega), fun _ _ => h.com (by omega) (by omega), (fun q => by dsimp only at q; omega), (fun q => by dsimp only at q; omega), (fun q => by dsimp only at q; omega)⟩, ⟨rfl, rfl, rfl, rfl, rfl, Like.refl _⟩, rfl⟩
      · rw [if_neg hl]
        exact ⟨⟨h.ca, h.cb, h.cel, h.th, h.rest, h.few, by dsimp only; omega, h.tk, h.sp, h.wlen, h.wok, (fun q => by dsimp only at q; omega), fun _ => h.fin (by omega), fun _ _ => h.com (by omega) (by omega), (fun q => by dsimp only at q; omega), (fun q => by dsimp only at q; omega), (fun _ => by dsimp only; omega)⟩, ⟨rfl, rfl, rfl, rfl, rfl, Like.refl _⟩, rfl⟩
    · next hne => exact ⟨⟨h.ca, h.cb, h.cel, h.th, h.rest, h.few, h.part, h.tk, h.sp, h.wlen, h.wok, h.run, h.fin, h.com, (fun q => by dsimp only at q; omega), (fun _ => by dsimp only; omega), (fun q => by dsimp only at q; omega)⟩, ⟨rfl, rfl, rfl, rfl, rfl, Like.refl _⟩, rfl⟩
  · exact ⟨h, AlikeY.refl x, rfl⟩
theorem back_inY (h : InY x) (hp : x.part = 6) (hW : okW ws) : InY (backY x) ∧ AlikeY x (backY x) ∧ okW (backW x ws) ∧ (backW x ws).length = ws.length := by
  have h6 := h.at6 hp
  have hk : x.at_ / 3 < x.m.buf.length := by omega
  have hw : (x.was.getD (x.at_ / 3) 0) < 18446744073709551616 := (getD_all 0 okN_zero x.was h.wok _).2
  have hm : x.m.buf.getD (x.at_ / 3) (0, 0) = x.m.buf[x.at_ / 3] := by simp [hk]
  have hv : (x.m.buf.getD (x.at_ / 3) (0, 0)).2 < 18446744073709551616 := by
    rw [hm]
    exact (h.rest.inv.buf _ (List.getElem_mem hk)).2
  refine ⟨?_, ⟨rfl, rfl, rfl, rfl, rfl, Like.refl _⟩, ?_, ?_⟩
  · unfold backY
    by_cases q : x.at_ + 1 = 3 * x.m.buf.length
    · rw [if_pos q]
      exact ⟨h.ca, h.cb, h.cel, h.th, h.rest, h.few, by dsimp only; omega, h.tk, h.sp, h.wlen, h.wok, (fun q => by dsimp only at q; omega), fun _ => h.fin (by omega), fun _ _ => h.com (by omega) (by omega), (fun q => by dsimp only at q; omega), (fun q => by dsimp only at q; omega), (fun q => by dsimp only at q; omega)⟩
    · rw [if_neg q]
      exact ⟨h.ca, h.cb, h.cel, h.th, h.rest, h.few, by dsimp only; omega, h.tk, h.sp, h.wlen, h.wok, (fun q => by dsimp only at q; omega), fun _ => h.fin (by omega), fun _ _ => h.com (by omega) (by omega), (fun q => by dsimp only at q; omega), (fun q => by dsimp only at q; omega), (fun _ => by dsimp only; omega)⟩
  · unfold backW
    split
    · exact hW.set _ ⟨by omega, by omega⟩
    · split
      · exact hW.set _ (pass_in _)
      · exact hW.set _ ⟨by omega, by omega⟩
  · unfold backW
    split
    · simp
    · split <;> simp
theorem step_inY (h : InY x) (hp : x.part ≠ 9) (hW : okW ws) : InY (stepY x ws).1 ∧ AlikeY x (stepY x ws).1 ∧ (stepY x ws).1.steps = x.steps + 1 ∧ okW (stepY x ws).2.1 ∧ (stepY x ws).2.1.length = ws.length := by
  have hP := h.part
  have t := h.tick
  have e8 : (tickY x).part = x.part := rfl
  unfold stepY stepY0
  rcases (by omega : x.part = 1 ∨ x.part = 2 ∨ x.part = 3 ∨ x.part = 4 ∨ x.part = 5 ∨ x.part = 6 ∨ x.part = 7 ∨ x.part = 8) with e | e | e | e | e | e | e | e
  · rw [if_pos (e8.trans e)]
    exact ⟨⟨h.ca, h.cb, h.cel, h.th, h.rest, h.few, by dsimp only; omega, hW.at _, h.sp, h.wlen, h.wok, fun _ => h.run (by omega), (fun q => by dsimp only at q; omega), (fun q => by dsimp only at q; omega), fun _ => h.at4 (by omega), (fun q => by dsimp only at q; omega), (fun q => by dsimp only at q; omega)⟩, ⟨rfl, rfl, rfl, rfl, rfl, Like.refl _⟩, rfl, hW.set _ (pass_in _), by simp⟩
  · rw [if_neg (by omega), if_pos (e8.trans e)]
    dsimp only
    split
    · exact ⟨⟨h.ca, h.cb, h.cel, h.th, h.rest, h.few, by dsimp only; omega, h.tk, h.sp, h.wlen, h.wok, fun _ => h.run (by omega), (fun q => by dsimp only at q; omega), (fun q => by dsimp only at q; omega), fun _ => h.at4 (by omega), (fun q => by dsimp only at q; omega), (fun q => by dsimp only at q; omega)⟩, ⟨rfl, rfl, rfl, rfl, rfl, Like.refl _⟩, rfl, hW, rfl⟩
    · exact ⟨t, ⟨rfl, rfl, rfl, rfl, rfl, Like.refl _⟩, rfl, hW, rfl⟩
  · rw [if_neg (by omega), if_neg (by omega), if_pos (e8.trans e)]
    exact ⟨⟨h.ca, h.cb, h.cel, h.th, h.rest, h.few, by dsimp only; omega, h.tk, hW.at _, h.wlen, h.wok, fun _ => h.run (by omega), (fun q => by dsimp only at q; omega), (fun q => by dsimp only at q; omega), fun _ => h.at4 (by omega), (fun q => by dsimp only at q; omega), (fun q => by dsimp only at q; omega)⟩, ⟨rfl, rfl, rfl, rfl, rfl, Like.refl _⟩, rfl, hW, rfl⟩
  · rw [if_neg (by omega), if_neg (by omega), if_neg (by omega), if_pos (e8.trans e)]
    obtain ⟨k1, k2, k3⟩ := run_inY t (e8.trans e) hW
    exact ⟨k1, ⟨k2.a, k2.b, k2.th, k2.tag, k2.args, k2.lk⟩, k3, hW, rfl⟩
  · rw [if_neg (by omega), if_neg (by omega), if_neg (by omega), if_neg (by omega), if_pos (e8.trans e)]
    obtain ⟨k1, k2, k3⟩ := scan_inY (ws := ws) t (e8.trans e)
    exact ⟨k1, ⟨k2.a, k2.b, k2.th, k2.tag, k2.args, k2.lk⟩, k3, hW, rfl⟩
  · rw [if_neg (by omega), if_neg (by omega), if_neg (by omega), if_neg (by omega), if_neg (by omega), if_pos (e8.trans e)]
    obtain ⟨k1, k2, k3, k4⟩ := back_inY t (e8.trans e) hW
    exact ⟨k1, ⟨k2.a, k2.b, k2.th, k2.tag, k2.args, k2.lk⟩, rfl, k3, k4⟩
  · rw [if_neg (by omega), if_neg (by omega), if_neg (by omega), if_neg (by omega), if_neg (by omega), if_neg (by omega), if_pos (e8.trans e)]
    exact ⟨⟨h.ca, h.cb, h.cel, h.th, h.rest, h.few, by dsimp only; omega, h.tk, h.sp, h.wlen, h.wok, (fun q => by dsimp only at q; omega), fun _ => h.fin (by omega), (fun _ q => by dsimp only at q; omega), (fun q => by dsimp only at q; omega), (fun q => by dsimp only at q; omega), (fun q => by dsimp only at q; omega)⟩, ⟨rfl, rfl, rfl, rfl, rfl, Like.refl _⟩, rfl, hW.set _ (pass_in _), by simp⟩
  · rw [if_neg (by omega), if_neg (by omega), if_neg (by omega), if_neg (by omega), if_neg (by omega), if_neg (by omega), if_neg (by omega)]
    exact ⟨⟨h.ca, h.cb, h.cel, h.th, h.rest, h.few, by dsimp only; omega, h.tk, h.sp, h.wlen, h.wok, (fun q => by dsimp only at q; omega), fun _ => h.fin (by omega), (fun _ q => by dsimp only at q; omega), (fun q => by dsimp only at q; omega), (fun q => by dsimp only at q; omega), (fun q => by dsimp only at q; omega)⟩, ⟨rfl, rfl, rfl, rfl, rfl, Like.refl _⟩, rfl, hW.set _ (pass_in _), by simp⟩
def leftY (x : Wx) : Int :=
  if x.part = 1 then (x.m.fuel - x.m.used) + x.b + 3 * x.m.wmax + 6
  else if x.part = 2 then (x.m.fuel - x.m.used) + x.b + 3 * x.m.wmax + 5
  else if x.part = 3 then (x.m.fuel - x.m.used) + x.b + 3 * x.m.wmax + 4
  else if x.part = 4 then (x.m.fuel - x.m.used) + x.b + 3 * x.m.wmax + 3
  else if x.part = 5 then x.b - (x.at_ : Int) + 3 * (x.m.buf.length : Int) + 2
  else if x.part = 6 then 3 * (x.m.buf.length : Int) - (x.at_ : Int) + 2
  else if x.part = 7 then 2
  else if x.part = 8 then 1
  else 0
def waitY (x : Wx) (ws : List Int) : Prop := (x.part = 2 ∧ wordAt ws 1 ≠ x.tick) ∨ (x.part = 5 ∧ ¬ (wordAt ws (3 + (x.at_ : Int)) = 0 ∨ x.stamp < wordAt ws (3 + (x.at_ : Int))))
theorem left_pos (h : InY x) (hp : x.part ≠ 9) : 1 ≤ leftY x := by
  have hP := h.part
  have hu := h.rest.inv.used
  have hb := h.cb
  have hw := h.rest.inv.wmax
  unfold leftY
  split
  · omega
  · split
    · omega
    · split
      · omega
      · split
        · omega
        · split
          · next q => have := h.at5 q; omega
          · split
            · next q => have := h.at6 q; omega
            · split
              · omega
              · split <;> omega
theorem left_step (h : InY x) (hp : x.part ≠ 9) (hW : okW ws) (hw : ¬ waitY x ws) : leftY (stepY x ws).1 ≤ leftY x - 1 := by
  have hP := h.part
  have t := h.tick
  have e8 : (tickY x).part = x.part := rfl
  have hu := h.rest.inv.used
  have hb := h.cb
  have hwm := h.rest.inv.wmax
  have hfew := h.rest.inv.few
  unfold stepY stepY0
  rcases (by omega : x.part = 1 ∨ x.part = 2 ∨ x.part = 3 ∨ x.part = 4 ∨ x.part = 5 ∨ x.part = 6 ∨ x.part = 7 ∨ x.part = 8) with e | e | e | e | e | e | e | e
  · rw [if_pos (e8.trans e)]
    unfold leftY
    simp [e, tickY]
    omega
  · rw [if_neg (by omega), if_pos (e8.trans e)]
    have hs : wordAt ws 1 = (tickY x).tick := by
      cases Decidable.em (wordAt ws 1 = x.tick) with
      | inl q => exact q
      | inr q => exact absurd (.inl ⟨e, q⟩) hw
    rw [if_pos hs]
    unfold leftY
    simp [e, tickY]
    omega
  · rw [if_neg (by omega), if_neg (by omega), if_pos (e8.trans e)]
    unfold leftY
    simp [e, tickY]
    omega
  · rw [if_neg (by omega), if_neg (by omega), if_neg (by omega), if_pos (e8.trans e)]
    have h0 := h.run (by omega)
    have hR := h.rest
    obtain ⟨lk, tr⟩ := step_turns hR.inv hR.nw h0
    have nb := step_bufs hR.inv hR.nw h0
    have L4 : leftY x = (x.m.fuel - x.m.used) + x.b + 3 * x.m.wmax + 3 := by unfold leftY; simp [e]
    rw [L4]
    show leftY (runY (tickY x) ws).1 ≤ _
    unfold runY
    by_cases k1 : (stepM x.m).2.kind = 1
    · rw [if_pos (show (stepM (tickY x).m).2.kind = 1 from k1)]
      obtain ⟨_, _, r3, r4, _⟩ := rest_give hR h0 k1 (now_ok hW (tickY x) (stepM x.m).2.cell)
      have r3' := r3.fuel
      have r3'' := r3.wmax
      unfold leftY
      simp only [tickY, e] at r3' r3'' r4 ⊢
      simp
      omega
    · rw [if_neg (show ¬ (stepM (tickY x).m).2.kind = 1 from k1)]
      have f1 := lk.fuel
      have f2 := lk.wmax
      by_cases k3 : (stepM x.m).2.kind = 3 ∧ (stepM x.m).2.first = true
      · rw [if_pos (show (stepM (tickY x).m).2.kind = 3 ∧ (stepM (tickY x).m).2.first = true from k3)]
        have hh : (stepM x.m).1.used = x.m.used + 1 := by
          rcases tr with ⟨q, _⟩ | ⟨q, _⟩ | ⟨_, _, _, e⟩
          · omega
          · omega
          · exact e
        unfold leftY
        simp only [tickY, e]
        simp
        omega
      · rw [if_neg (show ¬ ((stepM (tickY x).m).2.kind = 3 ∧ (stepM (tickY x).m).2.first = true) from k3)]
        by_cases k4 : (stepM x.m).2.kind = 4
        · rw [if_pos (show (stepM (tickY x).m).2.kind = 4 from k4)]
          have hl : (stepM x.m).1.buf.length = x.m.buf.length := by
            rcases nb with ⟨_, e⟩ | ⟨_, e⟩ | ⟨_, e, _⟩ | ⟨_, e, _⟩ | ⟨q, _⟩
            · rw [e]
            · rw [e]
            · rw [e]
            · rw [e]
            · omega
          have hz := h.at4 (by omega)
          by_cases hc : (stepM x.m).1.how = 1
          · rw [if_pos (show (stepM (tickY x).m).1.how = 1 from hc)]
            unfold leftY
            simp only [tickY, hl, hz]
            simp
            omega
          · rw [if_neg (show ¬ (stepM (tickY x).m).1.how = 1 from hc)]
            unfold leftY
            simp
            omega
        · rw [if_neg (show ¬ (stepM (tickY x).m).2.kind = 4 from k4)]
          have hh : (stepM x.m).1.used = x.m.used + 1 := by
            rcases tr with ⟨q, _⟩ | ⟨q, _⟩ | ⟨_, _, _, e⟩
            · omega
            · omega
            · exact e
          unfold leftY
          simp only [tickY, e]
          simp
          omega
  · rw [if_neg (by omega), if_neg (by omega), if_neg (by omega), if_neg (by omega), if_pos (e8.trans e)]
    have h5 := h.at5 e
    have hs : wordAt ws (3 + ((tickY x).at_ : Int)) = 0 ∨ (tickY x).stamp < wordAt ws (3 + ((tickY x).at_ : Int)) := by
      cases Decidable.em (wordAt ws (3 + (x.at_ : Int)) = 0 ∨ x.stamp < wordAt ws (3 + (x.at_ : Int))) with
      | inl q => exact q
      | inr q => exact absurd (.inr ⟨e, q⟩) hw
    have L5 : leftY x = x.b - (x.at_ : Int) + 3 * (x.m.buf.length : Int) + 2 := by unfold leftY; simp [e]
    rw [L5]
    show leftY (scanY (tickY x) ws) ≤ _
    unfold scanY
    rw [if_pos hs]
    by_cases q : (((tickY x).at_ + 1 : Nat) : Int) = (tickY x).b
    · rw [if_pos q]
      have q' : ((x.at_ + 1 : Nat) : Int) = x.b := q
      by_cases hl : x.m.buf.length = 0
      · rw [if_pos (show (tickY x).m.buf.length = 0 from hl)]
        unfold leftY
        simp
        omega
      · rw [if_neg (show ¬ (tickY x).m.buf.length = 0 from hl)]
        unfold leftY
        simp [tickY]
        omega
    · rw [if_neg q]
      unfold leftY
      simp [tickY, e]
      omega
  · rw [if_neg (by omega), if_neg (by omega), if_neg (by omega), if_neg (by omega), if_neg (by omega), if_pos (e8.trans e)]
    have h6 := h.at6 e
    have L6 : leftY x = 3 * (x.m.buf.length : Int) - (x.at_ : Int) + 2 := by unfold leftY; simp [e]
    rw [L6]
    show leftY (backY (tickY x)) ≤ _
    unfold backY
    by_cases q : (tickY x).at_ + 1 = 3 * (tickY x).m.buf.length
    · rw [if_pos q]
      have q' : x.at_ + 1 = 3 * x.m.buf.length := q
      unfold leftY
      simp
      omega
    · rw [if_neg q]
      unfold leftY
      simp [tickY]
      omega
  · rw [if_neg (by omega), if_neg (by omega), if_neg (by omega), if_neg (by omega), if_neg (by omega), if_neg (by omega), if_pos (e8.trans e)]
    unfold leftY
    simp [e]
  · rw [if_neg (by omega), if_neg (by omega), if_neg (by omega), if_neg (by omega), if_neg (by omega), if_neg (by omega), if_neg (by omega)]
    unfold leftY
    simp [e]
end
end Go.Proofs.YteinilmecnlanaaGreatDoor.Ww
namespace Go.Proofs.YteinilmecnlanaaGreatDoor.Ww
open Go.ChangeShapes Go.WideShapes Go.ChangeAt Go.RowKit Num Rr
structure Wz where
  bm : Nat
  K : List Nat
  pa : Option Addr
  ca : Nat
def Wz.KK (z : Wz) : List Nat := z.K ++ fpR z.pa
def ptrV (q : Option Nat) : Value := .pointer (q.map fun n => ⟨n, 0, none⟩)
structure Wv where
  ph : Option Addr
  ch : Nat
  qs : Option Nat
  s : Md.Cv.Ss
  qw : Option Nat
  t : Md.Ce.Wt
  bg : Int
  nb : Int
  nx : Value
  F : List Nat
def partF (p : Nat) : FuncId := if p = 1 then 70 else if p = 2 then 100 else if p = 3 then 117 else if p = 4 then 142 else if p = 5 then 188 else if p = 6 then 229 else if p = 7 then 226 else 186
def fnV (f : FuncId) : Value := .func (.func f) #[] #[]
def nextV (p : Nat) : Value := if p = 9 then .nilFunc else fnV (partF p)
def boxY (x : Wx) (z : Wz) (v : Wv) : Array Value := #[.int .i64 0, .int .i64 1, .int .i64 2, .int .i64 3, .int .i64 (3 + x.b), .int .i64 (3 + x.b + 3 * x.a), .int .i64 x.b, .int .i64 x.tag, .slice z.pa x.args.length z.ca, .pointer (some ⟨z.bm, 0, none⟩), .int .i64 x.steps, .int .i64 (x.part : Int), v.nx, .int .u64 x.tick, .int .u64 x.stamp, .slice v.ph x.was.length v.ch, ptrV v.qs, .int .i64 v.bg, ptrV v.qw, .int .u64 v.nb]
def ownY (b : Nat) (v : Wv) : List (List Nat) := [[b], fpR v.ph, v.qs.toList, v.qw.toList, v.F]
def LY (b : Nat) (z : Wz) (v : Wv) : List (List Nat) := [[b], fpR v.ph, v.qs.toList, v.qw.toList, v.F, z.KK]
def gY (b : Nat) (v : Wv) : List Nat := (ownY b v).flatten
structure RawAt (w : World) (b : Nat) (x : Wx) (z : Wz) (v : Wv) : Prop where
  box : w.heap[b]? = some (.cells (boxY x z v) 102 (0, 0))
  mac : Mc w z.bm v.F z.K x.m
  had : RowAt 73 w v.ph v.ch (fls x.was)
  sc : ∀ n, v.qs = some n → Md.Cv.ScAt w n v.s
  wr : ∀ n, v.qw = some n → Md.Ce.WtAt w n v.t
  arg : RowAt 73 w z.pa z.ca (fls x.args)
  apart : Apart (LY b z v)
theorem turn_of {L F : List Nat} {w w' : World} (o1 : w'.os = w.os) (o2 : w'.tape = w.tape) (o3 : w'.output = w.output) (hs : w.heap.size ≤ w'.heap.size) (hL : ∀ k, k ∈ L → k ∈ F) (hb : ∀ k, k < w.heap.size → k ∉ L → w'.heap[k]? = w.heap[k]?) : Turn F F w w' :=
  ⟨o1, o2, o3, hs, fun k hk hn => hb k hk (fun q => hn (hL k q)), fun _ h => .inl h⟩
theorem keptB {F : List Nat} {w : World} {b j : Nat} {v : Value} (h : b ∉ F) : Kept F w (w.setCell ⟨b, j, none⟩ v) := ⟨by simp, fun i hi => heap_setCell_other _ _ _ _ (fun (e : i = b) => h (e ▸ hi))⟩
section
variable {w w' : World} {b : Nat} {x : Wx} {z : Wz} {v : Wv}
theorem mem_gY {k : Nat} : k ∈ gY b v ↔ k = b ∨ k ∈ fpR v.ph ∨ v.qs = some k ∨ v.qw = some k ∨ k ∈ v.F := by
  simp only [gY, ownY, List.flatten_cons, List.flatten_nil, List.append_nil, List.mem_append, List.mem_cons, List.not_mem_nil, or_false, Option.mem_toList]
theorem in_b : b ∈ gY b v := mem_gY.2 (.inl rfl)
theorem in_h {k : Nat} (h : k ∈ fpR v.ph) : k ∈ gY b v := mem_gY.2 (.inr (.inl h))
theorem in_s {k : Nat} (h : v.qs = some k) : k ∈ gY b v := mem_gY.2 (.inr (.inr (.inl h)))
theorem in_w {k : Nat} (h : v.qw = some k) : k ∈ gY b v := mem_gY.2 (.inr (.inr (.inr (.inl h))))
theorem in_F {k : Nat} (h : k ∈ v.F) : k ∈ gY b v := mem_gY.2 (.inr (.inr (.inr (.inr h))))
theorem own_inY {j k : Nat} (hj : j < 5) (h : k ∈ (LY b z v).getD j []) : k ∈ gY b v := by
  match j, hj with
  | 0, _ => exact mem_gY.2 (.inl (by simpa [LY] using h))
  | 1, _ => exact in_h h
  | 2, _ => exact in_s (by simpa [LY] using h)
  | 3, _ => exact in_w (by simpa [LY] using h)
  | 4, _ => exact in_F h
theorem in_ownY {k : Nat} (h : k ∈ gY b v) : ∃ j, j < 5 ∧ k ∈ (LY b z v).getD j [] := by
  rcases mem_gY.1 h with h | h | h | h | h
  · exact ⟨0, by omega, by simp [LY, h]⟩
  · exact ⟨1, by omega, h⟩
  · exact ⟨2, by omega, by simp [LY, h]⟩
  · exact ⟨3, by omega, by simp [LY, h]⟩
  · exact ⟨4, by omega, h⟩
theorem RawAt.ltB (h : RawAt w b x z v) : b < w.heap.size := lt_of_block h.box
theorem RawAt.blwK (h : RawAt w b x z v) : Blw w z.KK := fun k hk => by
  rcases List.mem_append.1 hk with hk | hk
  · exact h.mac.blwK k hk
  · exact h.arg.blw k hk
theorem RawAt.blws (h : RawAt w b x z v) : ∀ j, Blw w ((LY b z v).getD j []) := fun j => by
  match j with
  | 0 => intro k hk; have : k = b := by simpa [LY] using hk
         rw [this]; exact h.ltB
  | 1 => exact h.had.blw
  | 2 => intro k hk; exact (h.sc k (by simpa [LY] using hk)).lt
  | 3 => intro k hk; exact (h.wr k (by simpa [LY] using hk)).lt
  | 4 => exact h.mac.blw
  | 5 => exact h.blwK
  | n + 6 => intro k hk; simp [LY] at hk
theorem RawAt.blw (h : RawAt w b x z v) : Blw w (gY b v) := fun k hk => by
  obtain ⟨j, _, hj⟩ := in_ownY (z := z) hk
  exact h.blws j k hj
theorem RawAt.sep (h : RawAt w b x z v) : Sep z.KK (gY b v) := fun k hk q => by
  obtain ⟨j, hj, hq⟩ := in_ownY (z := z) q
  exact h.apart 5 j (by omega) k hk hq
theorem RawAt.all (h : RawAt w b x z v) (hs : w.heap.size ≤ w'.heap.size) (k : ∀ j, Kept ((LY b z v).getD j []) w w') : RawAt w' b x z v :=
  ⟨((k 0).2 b (by simp [LY])).trans h.box, h.mac.keep (k 4) ⟨hs, fun i hi => (k 5).2 i (List.mem_append.2 (.inl hi))⟩, h.had.keep (k 1), fun n hn => (h.sc n hn).keep ((k 2).2 n (by simp [LY, hn])), fun n hn => (h.wr n hn).keep ((k 3).2 n (by simp [LY, hn])), h.arg.keep ⟨hs, fun i hi => (k 5).2 i (List.mem_append.2 (.inr hi))⟩, h.apart⟩
theorem RawAt.keep (h : RawAt w b x z v) (k : Kept (gY b v) w w') (k2 : Kept z.KK w w') : RawAt w' b x z v :=
  h.all k.1 fun j => by
    by_cases hj : j < 5
    · exact ⟨k.1, fun i hi => k.2 i (own_inY hj hi)⟩
    · by_cases h5 : j = 5
      · subst h5; exact k2
      · exact ⟨k.1, fun i hi => by
          match j, hj, h5, hi with
          | n + 6, _, _, hi => simp [LY] at hi⟩
theorem RawAt.on (h : RawAt w b x z v) (k : Below w.heap.size w w') : RawAt w' b x z v := h.keep (kept_below k h.blw) (kept_below k h.blwK)
theorem RawAt.cell (h : RawAt w b x z v) (j : Nat) : w.cell? ⟨b, j, none⟩ = (boxY x z v)[j]? := cell_of_row w b j _ _ _ h.box
theorem RawAt.free (h : RawAt w b x z v) (j : Nat) : w.frozen? ⟨b, j, none⟩ = false := frozen_of_row w b j _ _ h.box
theorem RawAt.others (h : RawAt w b x z v) {i : Nat} {F' : List Nat} (t : Turn ((LY b z v).getD i []) F' w w') : ∀ j, j ≠ i → Kept ((LY b z v).getD j []) w w' := fun j hj => t.kept (h.apart j i hj) (h.blws j)
theorem RawAt.put (h : RawAt w b x z v) (j : Nat) (u : Value) (x' : Wx) (v' : Wv) (e : (boxY x z v).setIfInBounds j u = boxY x' z v') (hm : x'.m = x.m ∧ x'.args = x.args ∧ x'.was = x.was) (hv : v'.ph = v.ph ∧ v'.ch = v.ch ∧ v'.qs = v.qs ∧ v'.s = v.s ∧ v'.qw = v.qw ∧ v'.t = v.t ∧ v'.F = v.F) : RawAt (w.setCell ⟨b, j, none⟩ u) b x' z v' := by
  obtain ⟨m1, m2, m3⟩ := hm
  obtain ⟨v1, v2, v3, v4, v5, v6, v7⟩ := hv
  have kk := h.others (i := 0) (turn_set w b j u)
  have eL : LY b z v' = LY b z v := by unfold LY; rw [v1, v3, v5, v7]
  refine ⟨?_, by rw [m1, v7]; exact h.mac.keep (kk 4 (by omega)) ⟨by simp, fun i hi => (kk 5 (by omega)).2 i (List.mem_append.2 (.inl hi))⟩, by rw [m3, v1, v2]; exact h.had.keep (kk 1 (by omega)), fun n hn => by rw [v3] at hn; rw [v4]; exact (h.sc n hn).keep ((kk 2 (by omega)).2 n (by simp [LY, hn])), fun n hn => by rw [v5] at hn; rw [v6]; exact (h.wr n hn).keep ((kk 3 (by omega)).2 n (by simp [LY, hn])), by rw [m2]; exact h.arg.keep ⟨by simp, fun i hi => (kk 5 (by omega)).2 i (List.mem_append.2 (.inr hi))⟩, by rw [eL]; exact h.apart⟩
  rw [← e]
  exact heap_setCell_same w b j _ _ u h.box
theorem RawAt.putS (h : RawAt w b x z v) {n : Nat} {s : Md.Cv.Ss} (hs : Md.Cv.ScAt w n s) (hg : n ∉ gY b v) (hK : n ∉ z.KK) : RawAt (w.setCell ⟨b, 16, none⟩ (.pointer (some ⟨n, 0, none⟩))) b x z { v with qs := some n, s := s } := by
  have kk := h.others (i := 0) (turn_set w b 16 (.pointer (some ⟨n, 0, none⟩)))
  have nb : n ≠ b := fun e => hg (e ▸ in_b)
  refine ⟨heap_setCell_same w b 16 _ _ _ h.box, h.mac.keep (kk 4 (by omega)) ⟨by simp, fun i hi => (kk 5 (by omega)).2 i (List.mem_append.2 (.inl hi))⟩, h.had.keep (kk 1 (by omega)), fun m hm => ?_, fun m hm => (h.wr m hm).keep ((kk 3 (by omega)).2 m (by simp only [LY]; simpa using hm)), h.arg.keep ⟨by simp, fun i hi => (kk 5 (by omega)).2 i (List.mem_append.2 (.inr hi))⟩, fun i j hij => ?_⟩
  · obtain rfl : n = m := Option.some.inj hm
    exact hs.keep (heap_setCell_other _ _ _ _ nb)
  · have P : ∀ j, j ≠ 2 → (LY b z { v with qs := some n, s := s }).getD j [] = (LY b z v).getD j [] := fun j hj => by
      match j, hj with
      | 0, _ => rfl
      | 1, _ => rfl
      | 3, _ => rfl
      | 4, _ => rfl
      | 5, _ => rfl
      | j + 6, _ => rfl
    have N : ∀ j, j ≠ 2 → n ∉ (LY b z v).getD j [] := fun j hj y => by
      by_cases h5 : j < 5
      · exact hg (own_inY h5 y)
      · match j, h5, y with
        | 5, _, y => exact hK y
        | j + 6, _, y => simp [LY] at y
    by_cases i2 : i = 2
    · subst i2
      rw [P j (by omega)]
      intro k hk y
      have : k = n := by simpa [LY, eq_comm] using hk
      exact N j (by omega) (this ▸ y)
    · rw [P i i2]
      by_cases j2 : j = 2
      · subst j2
        intro k hk y
        have : k = n := by simpa [LY, eq_comm] using y
        exact N i i2 (this ▸ hk)
      · rw [P j j2]
        exact h.apart i j hij
theorem RawAt.putW (h : RawAt w b x z v) {n : Nat} {t : Md.Ce.Wt} (hs : Md.Ce.WtAt w n t) (hg : n ∉ gY b v) (hK : n ∉ z.KK) : RawAt (w.setCell ⟨b, 18, none⟩ (.pointer (some ⟨n, 0, none⟩))) b x z { v with qw := some n, t := t } := by
  have kk := h.others (i := 0) (turn_set w b 18 (.pointer (some ⟨n, 0, none⟩)))
  have nb : n ≠ b := fun e => hg (e ▸ in_b)
  refine ⟨heap_setCell_same w b 18 _ _ _ h.box, h.mac.keep (kk 4 (by omega)) ⟨by simp, fun i hi => (kk 5 (by omega)).2 i (List.mem_append.2 (.inl hi))⟩, h.had.keep (kk 1 (by omega)), fun m hm => (h.sc m hm).keep ((kk 2 (by omega)).2 m (by simp only [LY]; simpa using hm)), fun m hm => ?_, h.arg.keep ⟨by simp, fun i hi => (kk 5 (by omega)).2 i (List.mem_append.2 (.inr hi))⟩, fun i j hij => ?_⟩
  · obtain rfl : n = m := Option.some.inj hm
    exact hs.keep (heap_setCell_other _ _ _ _ nb)
  · have P : ∀ j, j ≠ 3 → (LY b z { v with qw := some n, t := t }).getD j [] = (LY b z v).getD j [] := fun j hj => by
      match j, hj with
      | 0, _ => rfl
      | 1, _ => rfl
      | 2, _ => rfl
      | 4, _ => rfl
      | 5, _ => rfl
      | j + 6, _ => rfl
    have N : ∀ j, j ≠ 3 → n ∉ (LY b z v).getD j [] := fun j hj y => by
      by_cases h5 : j < 5
      · exact hg (own_inY h5 y)
      · match j, h5, y with
        | 5, _, y => exact hK y
        | j + 6, _, y => simp [LY] at y
    by_cases i2 : i = 3
    · subst i2
      rw [P j (by omega)]
      intro k hk y
      have : k = n := by simpa [LY, eq_comm] using hk
      exact N j (by omega) (this ▸ y)
    · rw [P i i2]
      by_cases j2 : j = 3
      · subst j2
        intro k hk y
        have : k = n := by simpa [LY, eq_comm] using y
        exact N i i2 (this ▸ hk)
      · rw [P j j2]
        exact h.apart i j hij
theorem RawAt.scans (h : RawAt w b x z v) {n : Nat} {s : Md.Cv.Ss} (hn : v.qs = some n) (hs : w.heap.size ≤ w'.heap.size) (k : ∀ j, j ≠ 2 → Kept ((LY b z v).getD j []) w w') (h2 : Md.Cv.ScAt w' n s) : RawAt w' b x z { v with s := s } :=
  ⟨((k 0 (by omega)).2 b (by simp [LY])).trans h.box, h.mac.keep (k 4 (by omega)) ⟨hs, fun i hi => (k 5 (by omega)).2 i (List.mem_append.2 (.inl hi))⟩, h.had.keep (k 1 (by omega)), fun m hm => by have e := hn.symm.trans hm; cases e; exact h2, fun m hm => (h.wr m hm).keep ((k 3 (by omega)).2 m (by simp only [LY]; simpa using hm)), h.arg.keep ⟨hs, fun i hi => (k 5 (by omega)).2 i (List.mem_append.2 (.inr hi))⟩, h.apart⟩
theorem RawAt.writes (h : RawAt w b x z v) {n : Nat} {t : Md.Ce.Wt} (hn : v.qw = some n) (hs : w.heap.size ≤ w'.heap.size) (k : ∀ j, j ≠ 3 → Kept ((LY b z v).getD j []) w w') (h2 : Md.Ce.WtAt w' n t) : RawAt w' b x z { v with t := t } :=
  ⟨((k 0 (by omega)).2 b (by simp [LY])).trans h.box, h.mac.keep (k 4 (by omega)) ⟨hs, fun i hi => (k 5 (by omega)).2 i (List.mem_append.2 (.inl hi))⟩, h.had.keep (k 1 (by omega)), fun m hm => (h.sc m hm).keep ((k 2 (by omega)).2 m (by simp only [LY]; simpa using hm)), fun m hm => by have e := hn.symm.trans hm; cases e; exact h2, h.arg.keep ⟨hs, fun i hi => (k 5 (by omega)).2 i (List.mem_append.2 (.inr hi))⟩, h.apart⟩
theorem RawAt.mach (h : RawAt w b x z v) {m' : Mac} (g : Gm w v.F z.bm z.K w' m') : ∃ F', RawAt w' b { x with m := m' } z { v with F := F' } ∧ Turn v.F F' w w' := by
  obtain ⟨F', hM, t⟩ := g.mc
  have kk := h.others (i := 4) t
  exact ⟨F', ⟨((kk 0 (by omega)).2 b (by simp [LY])).trans h.box, hM, h.had.keep (kk 1 (by omega)), fun n hn => (h.sc n hn).keep ((kk 2 (by omega)).2 n (by simp only [LY]; simpa using hn)), fun n hn => (h.wr n hn).keep ((kk 3 (by omega)).2 n (by simp only [LY]; simpa using hn)), h.arg.keep ⟨t.size, fun i hi => (kk 5 (by omega)).2 i (List.mem_append.2 (.inr hi))⟩, h.apart.turn (i := 4) h.blws (by simp [LY]) t⟩, t⟩
theorem RawAt.hads (h : RawAt w b x z v) {w3 : World} {u : Value} {y : Nat} (hown : w3.ownsRow 0 73 1 u (x.was.length + 1) (fls x.was ++ [.float .f64 y])) (hg : w.grownBy w3 (Value.slice v.ph x.was.length v.ch).ownBlock) (hat : u.ownBlock = (Value.slice v.ph x.was.length v.ch).ownBlock ∨ ∃ s, u.ownBlock = some s ∧ w.heap.size ≤ s) :
    ∃ p' c', u = .slice p' (x.was.length + 1) c' ∧ Turn (fpR v.ph) (fpR p') w w3 ∧ RawAt (w3.setCell ⟨b, 15, none⟩ u) b { x with was := x.was ++ [y] } z { v with ph := p', ch := c' } := by
  obtain ⟨p', c', rfl, hr⟩ := ownsRow_slice hown
  have hl : (fls x.was ++ [Value.float .f64 y]).length = x.was.length + 1 := by simp [fls_len]
  rw [hl] at hat ⊢
  have ho : ∀ k, k ∈ fpR p' → k ∈ fpR v.ph ∨ w.heap.size ≤ k := by
    rcases hat with q | ⟨s, q, hs⟩
    · exact own_at (s := w.heap.size) (.inl q) (Nat.le_refl _)
    · exact own_at (n := x.was.length) (c := v.ch) (.inr q) hs
  have t : Turn (fpR v.ph) (fpR p') w w3 := ⟨hg.os, hg.tape, hg.output, hg.size, fun k hk hn => hg.block k hk (fun q => hn (own_fpR.2 q.symm)), ho⟩
  have kk := h.others (i := 1) t
  have hbox : w3.heap[b]? = _ := ((kk 0 (by omega)).2 b (by simp [LY])).trans h.box
  have ap : Apart (LY b z { v with ph := p', ch := c' }) := h.apart.turn (i := 1) h.blws (by simp [LY]) t
  have k2 : ∀ j, j ≠ 0 → ∀ F, F = (LY b z { v with ph := p', ch := c' }).getD j [] → Kept F w3 (w3.setCell ⟨b, 15, none⟩ (.slice p' (x.was.length + 1) c')) := fun j hj F hF => keptB (fun y => ap j 0 hj b (hF ▸ y) (by simp [LY]))
  have tr : ∀ {F}, Kept F w w3 → Kept F w3 (w3.setCell ⟨b, 15, none⟩ (.slice p' (x.was.length + 1) c')) → Kept F w (w3.setCell ⟨b, 15, none⟩ (.slice p' (x.was.length + 1) c')) := fun a c => ⟨Nat.le_trans a.1 c.1, fun i hi => (c.2 i hi).trans (a.2 i hi)⟩
  have k4 := tr (kk 4 (by omega)) (k2 4 (by omega) _ rfl)
  have k5 := tr (kk 5 (by omega)) (k2 5 (by omega) _ rfl)
  refine ⟨p', c', rfl, t, ⟨?_, h.mac.keep k4 ⟨k5.1, fun i hi => k5.2 i (List.mem_append.2 (.inl hi))⟩, ?_, fun n hn => (h.sc n hn).keep ((tr (kk 2 (by omega)) (k2 2 (by omega) _ rfl)).2 n (by simp only [LY]; simpa using hn)), fun n hn => (h.wr n hn).keep ((tr (kk 3 (by omega)) (k2 3 (by omega) _ rfl)).2 n (by simp only [LY]; simpa using hn)), h.arg.keep ⟨k5.1, fun i hi => k5.2 i (List.mem_append.2 (.inr hi))⟩, ap⟩⟩
  · refine (heap_setCell_same w3 b 15 _ _ _ hbox).trans ?_
    have : (x.was ++ [y]).length = x.was.length + 1 := by simp
    unfold boxY
    rw [this]
    rfl
  · rw [fls_snoc]
    exact hr.keep (k2 1 (by omega) _ rfl)
end
def Mid (W : World) (G0 : List Nat) (b : Nat) (z : Wz) (mb mg : Nat) (w : World) (x : Wx) (v : Wv) (ws : List Int) (o : Bool) (n : Int) : Prop :=
  RawAt w b x z v ∧ MemAt 116 w mb mg ws o n ∧ Sep [mb, mg] (gY b v) ∧ Sep [mb, mg] z.KK ∧ Turn G0 (mb :: mg :: gY b v) W w
section
variable {W w w' : World} {G0 : List Nat} {b mb mg : Nat} {x : Wx} {z : Wz} {v : Wv} {ws : List Int} {o : Bool} {n : Int}
theorem Mid.raw (h : Mid W G0 b z mb mg w x v ws o n) : RawAt w b x z v := h.1
theorem Mid.mem (h : Mid W G0 b z mb mg w x v ws o n) : MemAt 116 w mb mg ws o n := h.2.1
theorem Mid.cell (h : Mid W G0 b z mb mg w x v ws o n) (j : Nat) : w.cell? ⟨b, j, none⟩ = (boxY x z v)[j]? := h.1.cell j
theorem Mid.free (h : Mid W G0 b z mb mg w x v ws o n) (j : Nat) : w.frozen? ⟨b, j, none⟩ = false := h.1.free j
theorem Mid.ltB (h : Mid W G0 b z mb mg w x v ws o n) : b < w.heap.size := h.1.ltB
theorem Mid.size (h : Mid W G0 b z mb mg w x v ws o n) : W.heap.size ≤ w.heap.size := h.2.2.2.2.size
theorem Mid.on (h : Mid W G0 b z mb mg w x v ws o n) (k : Below w.heap.size w w') : Mid W G0 b z mb mg w' x v ws o n := by
  obtain ⟨h1, h2, h3, h4, t⟩ := h
  exact ⟨h1.on k, h2.on k, h3, h4, t.trans (Below.turn k _)⟩
theorem Mid.alloc (h : Mid W G0 b z mb mg w x v ws o n) (y : Obj) : Mid W G0 b z mb mg (w.alloc y) x v ws o n := h.on (below_alloc _ y)
theorem Mid.same (h : Mid W G0 b z mb mg w x v ws o n) (k : Same w w') : Mid W G0 b z mb mg w' x v ws o n := h.on (k.below _)
theorem Mid.drew (h : Mid W G0 b z mb mg w x v ws o n) : Mid W G0 b z mb mg w.drew x v ws o n := h.same (Same.drew w)
theorem Mid.put (h : Mid W G0 b z mb mg w x v ws o n) (j : Nat) (u : Value) (x' : Wx) (v' : Wv) (e : (boxY x z v).setIfInBounds j u = boxY x' z v') (hm : x'.m = x.m ∧ x'.args = x.args ∧ x'.was = x.was) (hv : v'.ph = v.ph ∧ v'.ch = v.ch ∧ v'.qs = v.qs ∧ v'.s = v.s ∧ v'.qw = v.qw ∧ v'.t = v.t ∧ v'.F = v.F) : Mid W G0 b z mb mg (w.setCell ⟨b, j, none⟩ u) x' v' ws o n := by
  obtain ⟨h1, h2, h3, h4, t⟩ := h
  have eg : gY b v' = gY b v := by obtain ⟨v1, _, v3, _, v5, _, v7⟩ := hv; unfold gY ownY; rw [v1, v3, v5, v7]
  have tb : Turn (mb :: mg :: gY b v) (mb :: mg :: gY b v) w (w.setCell ⟨b, j, none⟩ u) := turn_of (L := [b]) rfl rfl rfl (by simp) (fun k hk => by
    simp only [List.mem_cons, List.not_mem_nil, or_false] at hk
    subst hk
    exact List.mem_cons_of_mem _ (List.mem_cons_of_mem _ in_b)) fun k _ hn => heap_setCell_other _ _ _ _ (by simpa using hn)
  refine ⟨h1.put j u x' v' e hm hv, h2.other (fun e => h3 mb (by simp) (e ▸ in_b)) (fun e => h3 mg (by simp) (e ▸ in_b)) j u, by rw [eg]; exact h3, h4, ?_⟩
  rw [eg]
  exact t.trans tb
theorem Mid.memb {ws' : List Int} {o' : Bool} {n' : Int} (h : Mid W G0 b z mb mg w x v ws o n) (k : Chg mb mg w w') (hm : MemAt 116 w' mb mg ws' o' n') : Mid W G0 b z mb mg w' x v ws' o' n' := by
  obtain ⟨h1, h2, h3, h4, t⟩ := h
  refine ⟨h1.keep ⟨k.size, fun i hi => k.block i (h1.blw i hi) (fun e => h3 mb (by simp) (e ▸ hi)) (fun e => h3 mg (by simp) (e ▸ hi))⟩ ⟨k.size, fun i hi => k.block i (h1.blwK i hi) (fun e => h4 mb (by simp) (e ▸ hi)) (fun e => h4 mg (by simp) (e ▸ hi))⟩, hm, h3, h4, t.trans (turn_of (L := [mb, mg]) k.os k.tape k.output k.size (fun i hi => ?_) fun i hi hn => k.block i hi (fun e => hn (by simp [e])) (fun e => hn (by simp [e])))⟩
  simp only [List.mem_cons, List.not_mem_nil, or_false] at hi
  rcases hi with rfl | rfl <;> simp
theorem Mid.rest (h : Mid W G0 b z mb mg w x v ws o n) {i0 i : Nat} (hs : w.heap.size ≤ w'.heap.size) (k : ∀ i, i < w.heap.size → i ∉ [mb, mg, i0] → w'.heap[i]? = w.heap[i]?) (hi : i0 ∈ (LY b z v).getD i []) : ∀ j, j ≠ i → Kept ((LY b z v).getD j []) w w' := fun j hj => by
  obtain ⟨h1, h2, h3, h4, t⟩ := h
  refine ⟨hs, fun q hq => k q (h1.blws j q hq) (fun e => ?_)⟩
  have M : ∀ m, m ∈ [mb, mg] → m ≠ q := fun m hm e => by
    by_cases h5 : j < 5
    · exact h3 m hm (e ▸ own_inY h5 hq)
    · match j, h5, hq with
      | 5, _, hq => exact h4 m hm (e ▸ hq)
      | j + 6, _, hq => simp [LY] at hq
  simp only [List.mem_cons, List.not_mem_nil, or_false] at e
  rcases e with e | e | e
  · exact M mb (by simp) e.symm
  · exact M mg (by simp) e.symm
  · exact h1.apart j i hj q hq (e ▸ hi)
theorem Mid.scans {ws' : List Int} {o' : Bool} {n' : Int} {i0 : Nat} {s : Md.Cv.Ss} (h : Mid W G0 b z mb mg w x v ws o n) (hq : v.qs = some i0) (k : Md.Cv.Ch3 mb mg i0 w w') (hm : MemAt 116 w' mb mg ws' o' n') (hr : Md.Cv.ScAt w' i0 s) : Mid W G0 b z mb mg w' x { v with s := s } ws' o' n' := by
  have K : ∀ i, i < w.heap.size → i ∉ [mb, mg, i0] → w'.heap[i]? = w.heap[i]? := fun i hi hn => k.block i hi (fun e => hn (by simp [e])) (fun e => hn (by simp [e])) (fun e => hn (by simp [e]))
  have R := h.rest (i0 := i0) (i := 2) k.size K (by simp [LY, hq])
  obtain ⟨h1, h2, h3, h4, t⟩ := h
  refine ⟨h1.scans hq k.size R hr, hm, h3, h4, t.trans (turn_of (L := [mb, mg, i0]) k.os k.tape k.output k.size (fun i hi => ?_) K)⟩
  simp only [List.mem_cons, List.not_mem_nil, or_false] at hi
  rcases hi with rfl | rfl | rfl
  · simp
  · simp
  · exact List.mem_cons_of_mem _ (List.mem_cons_of_mem _ (in_s hq))
theorem Mid.writes {ws' : List Int} {o' : Bool} {n' : Int} {i0 : Nat} {s : Md.Ce.Wt} (h : Mid W G0 b z mb mg w x v ws o n) (hq : v.qw = some i0) (k : Md.Ce.Ch [mb, mg, i0] w w') (hm : MemAt 116 w' mb mg ws' o' n') (hr : Md.Ce.WtAt w' i0 s) : Mid W G0 b z mb mg w' x { v with t := s } ws' o' n' := by
  have R := h.rest (i0 := i0) (i := 3) k.size k.block (by simp [LY, hq])
  obtain ⟨h1, h2, h3, h4, t⟩ := h
  refine ⟨h1.writes hq k.size R hr, hm, h3, h4, t.trans (turn_of (L := [mb, mg, i0]) k.os k.tape k.output k.size (fun i hi => ?_) k.block)⟩
  simp only [List.mem_cons, List.not_mem_nil, or_false] at hi
  rcases hi with rfl | rfl | rfl
  · simp
  · simp
  · exact List.mem_cons_of_mem _ (List.mem_cons_of_mem _ (in_w hq))
theorem Mid.new (h : Mid W G0 b z mb mg w x v ws o n) {i0 : Nat} (hi : w.heap.size ≤ i0) : i0 ∉ gY b v ∧ i0 ∉ z.KK ∧ i0 ≠ mb ∧ i0 ≠ mg := by
  obtain ⟨h1, h2, h3, h4, t⟩ := h
  exact ⟨fun y => absurd (h1.blw i0 y) (Nat.not_lt.2 hi), fun y => absurd (h1.blwK i0 y) (Nat.not_lt.2 hi), fun e => by have := h2.ltB; omega, fun e => by have := h2.ltG; omega⟩
theorem Mid.scanNew {w1 : World} {s : Md.Cv.Ss} {i0 : Nat} (h : Mid W G0 b z mb mg w x v ws o n) (k : Below w.heap.size w w1) (hi : w.heap.size ≤ i0) (hr : Md.Cv.ScAt w1 i0 s) : Mid W G0 b z mb mg (w1.setCell ⟨b, 16, none⟩ (.pointer (some ⟨i0, 0, none⟩))) x { v with qs := some i0, s := s } ws o n := by
  obtain ⟨n1, n2, n3, n4⟩ := h.new hi
  have hs := h.size
  obtain ⟨h1, h2, h3, h4, t⟩ := h
  have tt : Turn (mb :: mg :: gY b v) (mb :: mg :: gY b v) w1 (w1.setCell ⟨b, 16, none⟩ (.pointer (some ⟨i0, 0, none⟩))) := ⟨rfl, rfl, rfl, by simp, fun i _ hn => heap_setCell_other _ _ _ _ (fun (e : i = b) => hn (e ▸ List.mem_cons_of_mem _ (List.mem_cons_of_mem _ in_b))), fun i hy => .inl hy⟩
  have G : ∀ i, i ∈ gY b { v with qs := some i0, s := s } → i = i0 ∨ i ∈ gY b v := fun i hy => by
    rcases mem_gY.1 hy with y | y | y | y | y
    · exact .inr (mem_gY.2 (.inl y))
    · exact .inr (in_h y)
    · exact .inl (Option.some.inj y).symm
    · exact .inr (in_w y)
    · exact .inr (in_F y)
  refine ⟨(h1.on k).putS hr n1 n2, (h2.on k).other (fun e => h3 mb (by simp) (e ▸ in_b)) (fun e => h3 mg (by simp) (e ▸ in_b)) 16 _, fun i hi2 hy => ?_, h4, ((t.trans (Below.turn k _)).trans tt).mono fun i hy => ?_⟩
  · rcases G i hy with e | y
    · subst e
      simp only [List.mem_cons, List.not_mem_nil, or_false] at hi2
      omega
    · exact h3 i hi2 y
  · simp only [List.mem_cons] at hy
    rcases hy with y | y | y
    · exact t.own i (by simp [y])
    · exact t.own i (by simp [y])
    · rcases G i y with e | y
      · exact .inr (by omega)
      · exact t.own i (by simp [y])
theorem Mid.writeNew {w1 : World} {s : Md.Ce.Wt} {i0 : Nat} (h : Mid W G0 b z mb mg w x v ws o n) (k : Below w.heap.size w w1) (hi : w.heap.size ≤ i0) (hr : Md.Ce.WtAt w1 i0 s) : Mid W G0 b z mb mg (w1.setCell ⟨b, 18, none⟩ (.pointer (some ⟨i0, 0, none⟩))) x { v with qw := some i0, t := s } ws o n := by
  obtain ⟨n1, n2, n3, n4⟩ := h.new hi
  have hs := h.size
  obtain ⟨h1, h2, h3, h4, t⟩ := h
  have tt : Turn (mb :: mg :: gY b v) (mb :: mg :: gY b v) w1 (w1.setCell ⟨b, 18, none⟩ (.pointer (some ⟨i0, 0, none⟩))) := ⟨rfl, rfl, rfl, by simp, fun i _ hn => heap_setCell_other _ _ _ _ (fun (e : i = b) => hn (e ▸ List.mem_cons_of_mem _ (List.mem_cons_of_mem _ in_b))), fun i hy => .inl hy⟩
  have G : ∀ i, i ∈ gY b { v with qw := some i0, t := s } → i = i0 ∨ i ∈ gY b v := fun i hy => by
    rcases mem_gY.1 hy with y | y | y | y | y
    · exact .inr (mem_gY.2 (.inl y))
    · exact .inr (in_h y)
    · exact .inr (in_s y)
    · exact .inl (Option.some.inj y).symm
    · exact .inr (in_F y)
  refine ⟨(h1.on k).putW hr n1 n2, (h2.on k).other (fun e => h3 mb (by simp) (e ▸ in_b)) (fun e => h3 mg (by simp) (e ▸ in_b)) 18 _, fun i hi2 hy => ?_, h4, ((t.trans (Below.turn k _)).trans tt).mono fun i hy => ?_⟩
  · rcases G i hy with e | y
    · subst e
      simp only [List.mem_cons, List.not_mem_nil, or_false] at hi2
      omega
    · exact h3 i hi2 y
  · simp only [List.mem_cons] at hy
    rcases hy with y | y | y
    · exact t.own i (by simp [y])
    · exact t.own i (by simp [y])
    · rcases G i y with e | y
      · exact .inr (by omega)
      · exact t.own i (by simp [y])
theorem Mid.mach (h : Mid W G0 b z mb mg w x v ws o n) : Gm w v.F z.bm z.K w x.m ∧ (TabAt W G0 → TabAt w v.F) ∧ ∀ w' m', Gm w v.F z.bm z.K w' m' → ∃ F', Mid W G0 b z mb mg w' { x with m := m' } { v with F := F' } ws o n := by
  obtain ⟨h1, h2, h3, h4, t⟩ := h
  refine ⟨h1.mac.gm, fun hT => ?_, fun w' m' g => ?_⟩
  · have := hT.turn t
    exact ⟨this.1, fun y => this.2 (List.mem_cons_of_mem _ (List.mem_cons_of_mem _ (in_F y)))⟩
  · obtain ⟨F', g1, tF⟩ := h1.mach g
    have nm : ∀ i, i ∈ [mb, mg] → i ∉ v.F := fun i hi y => h3 i hi (in_F y)
    have lM : Blw w [mb, mg] := fun k hk => by
      simp only [List.mem_cons, List.not_mem_nil, or_false] at hk
      rcases hk with rfl | rfl
      · exact h2.ltB
      · exact h2.ltG
    have sp : Sep [mb, mg] F' := Sep.turn (fun i hi y => nm i hi y) lM tF
    have G : ∀ i, i ∈ gY b { v with F := F' } → i ∈ F' ∨ i ∈ gY b v := fun i hy => by
      rcases mem_gY.1 hy with y | y | y | y | y
      · exact .inr (mem_gY.2 (.inl y))
      · exact .inr (in_h y)
      · exact .inr (in_s y)
      · exact .inr (in_w y)
      · exact .inl y
    refine ⟨F', g1, h2.keep (tF.block mb h2.ltB (nm mb (by simp))) (tF.block mg h2.ltG (nm mg (by simp))), fun i hi hy => ?_, h4, t.trans ⟨tF.os, tF.tape, tF.output, tF.size, fun k hk hn => tF.block k hk (fun y => hn (List.mem_cons_of_mem _ (List.mem_cons_of_mem _ (in_F y)))), fun i hy => ?_⟩⟩
    · rcases G i hy with y | y
      · exact sp i hi y
      · exact h3 i hi y
    · simp only [List.mem_cons] at hy
      rcases hy with y | y | y
      · exact .inl (by simp [y])
      · exact .inl (by simp [y])
      · rcases G i y with y | y
        · rcases tF.own i y with y | y
          · exact .inl (List.mem_cons_of_mem _ (List.mem_cons_of_mem _ (in_F y)))
          · exact .inr y
        · exact .inl (by simp [y])
theorem Mid.hads (h : Mid W G0 b z mb mg w x v ws o n) {w3 : World} {u : Value} {y : Nat} (hown : w3.ownsRow 0 73 1 u (x.was.length + 1) (fls x.was ++ [.float .f64 y])) (hg : w.grownBy w3 (Value.slice v.ph x.was.length v.ch).ownBlock) (hat : u.ownBlock = (Value.slice v.ph x.was.length v.ch).ownBlock ∨ ∃ s, u.ownBlock = some s ∧ w.heap.size ≤ s) :
    ∃ p' c', u = .slice p' (x.was.length + 1) c' ∧ w3.heap[b]? = some (.cells (boxY x z v) 102 (0, 0)) ∧ Mid W G0 b z mb mg (w3.setCell ⟨b, 15, none⟩ u) { x with was := x.was ++ [y] } { v with ph := p', ch := c' } ws o n := by
  obtain ⟨h1, h2, h3, h4, t⟩ := h
  obtain ⟨p', c', e, tH, g1⟩ := h1.hads hown hg hat
  have hbox : w3.heap[b]? = _ := ((h1.others (i := 1) tH 0 (by omega)).2 b (by simp [LY])).trans h1.box
  have nm : ∀ i, i ∈ [mb, mg] → i ∉ fpR v.ph := fun i hi y => h3 i hi (in_h y)
  have lM : Blw w [mb, mg] := fun k hk => by
    simp only [List.mem_cons, List.not_mem_nil, or_false] at hk
    rcases hk with rfl | rfl
    · exact h2.ltB
    · exact h2.ltG
  have sp : Sep [mb, mg] (fpR p') := Sep.turn (fun i hi y => nm i hi y) lM tH
  have G : ∀ i, i ∈ gY b { v with ph := p', ch := c' } → i ∈ fpR p' ∨ i ∈ gY b v := fun i hy => by
    rcases mem_gY.1 hy with y | y | y | y | y
    · exact .inr (mem_gY.2 (.inl y))
    · exact .inl y
    · exact .inr (in_s y)
    · exact .inr (in_w y)
    · exact .inr (in_F y)
  have m3 : MemAt 116 w3 mb mg ws o n := h2.keep (tH.block mb h2.ltB (nm mb (by simp))) (tH.block mg h2.ltG (nm mg (by simp)))
  refine ⟨p', c', e, hbox, g1, m3.other (fun e => h3 mb (by simp) (e ▸ in_b)) (fun e => h3 mg (by simp) (e ▸ in_b)) 15 _, fun i hi hy => ?_, h4, t.trans ⟨tH.os, tH.tape, tH.output, by simpa using tH.size, fun k hk hn => ?_, fun i hy => ?_⟩⟩
  · rcases G i hy with y | y
    · exact sp i hi y
    · exact h3 i hi y
  · have nb : k ≠ b := fun e => hn (e ▸ List.mem_cons_of_mem _ (List.mem_cons_of_mem _ in_b))
    exact (heap_setCell_other _ _ _ _ nb).trans (tH.block k hk (fun y => hn (List.mem_cons_of_mem _ (List.mem_cons_of_mem _ (in_h y)))))
  · simp only [List.mem_cons] at hy
    rcases hy with y | y | y
    · exact .inl (by simp [y])
    · exact .inl (by simp [y])
    · rcases G i y with y | y
      · rcases tH.own i y with y | y
        · exact .inl (List.mem_cons_of_mem _ (List.mem_cons_of_mem _ (in_h y)))
        · exact .inr y
      · exact .inl (by simp [y])
end
end Go.Proofs.YteinilmecnlanaaGreatDoor.Ww
namespace Go.Proofs.YteinilmecnlanaaGreatDoor.Md.Ct
open Go.ChangeShapes Go.WideShapes Go.ChangeAt Go.RowKit
def plnV (a b c d e f : Int) : Value := .agg #[.int .i64 a, .int .i64 b, .int .i64 c, .int .i64 d, .int .i64 e, .int .i64 f]
theorem letW_any {f : FuncId} {cap : Array Value} {w : World} {Q : World → Prop} (x y : Int) (z : Int) (hz : (if y = 0 then x else 0) = z) (hcall : ∀ (args : Array Value) (w : World), (callFunc f args).run Tryz.prog w = .ok (.enter f args) w)
    (hf : Calls Tryz.prog f cap w fun e w' => e = .returned (.tuple #[.int .u64 x, .int .i64 y]) ∧ Q w') : Calls Tryz.prog 113 #[.func (.func f) #[] cap] w fun e w' => e = .returned (.tuple #[.int .u64 z, .int .i64 y]) ∧ Q w' := by
  subst hz
  have HF := Lib.hid hf
  clear hf
  by_cases hy : y = 0
  · subst hy
    go_enter Tryz.func113, Tryz.ntmps113
    go_wp2_with (refine HF.out.mono ?_; rintro e w' ⟨rfl, hq⟩)
    go_ret2
    exact ⟨rfl, hq⟩
  · rw [if_neg hy]
    go_enter Tryz.func113, Tryz.ntmps113
    go_wp2_with (refine HF.out.mono ?_; rintro e w' ⟨rfl, hq⟩)
    go_ret2
    exact ⟨rfl, hq⟩
theorem letB_any {f : FuncId} {cap : Array Value} {w : World} {Q : World → Prop} (x : Bool) (y : Int) (z : Bool) (hz : (if y = 0 then x else false) = z) (hcall : ∀ (args : Array Value) (w : World), (callFunc f args).run Tryz.prog w = .ok (.enter f args) w)
    (hf : Calls Tryz.prog f cap w fun e w' => e = .returned (.tuple #[.bool x, .int .i64 y]) ∧ Q w') : Calls Tryz.prog 139 #[.func (.func f) #[] cap] w fun e w' => e = .returned (.tuple #[.bool z, .int .i64 y]) ∧ Q w' := by
  subst hz
  have HF := Lib.hid hf
  clear hf
  by_cases hy : y = 0
  · subst hy
    go_enter Tryz.func139, Tryz.ntmps139
    go_wp2_with (refine HF.out.mono ?_; rintro e w' ⟨rfl, hq⟩)
    go_ret2
    exact ⟨rfl, hq⟩
  · rw [if_neg hy]
    go_enter Tryz.func139, Tryz.ntmps139
    go_wp2_with (refine HF.out.mono ?_; rintro e w' ⟨rfl, hq⟩)
    go_ret2
    exact ⟨rfl, hq⟩
theorem cell_kept {w w' : World} {b : Nat} (e : w'.heap[b]? = w.heap[b]?) (o : Nat) : w'.cell? ⟨b, o, none⟩ = w.cell? ⟨b, o, none⟩ := by simp [World.cell?, e]
end Go.Proofs.YteinilmecnlanaaGreatDoor.Md.Ct
namespace Go.Proofs.YteinilmecnlanaaGreatDoor.Md.Ct
open Go.ChangeShapes Go.WideShapes Go.ChangeAt Go.RowKit
section
variable {w : World} {b g : Nat} {ws : List Int} {o : Bool} {c : Int}
def lookB (ws : List Int) (o : Bool) (i t : Int) : Bool := (hasB ws i && o) && decide (wordAt ws i = t)
def passV (t : Int) : Int := IntKind.u64.wrap (t + 1)
theorem told_let (ws : List Int) (o : Bool) (i : Int) : (if errA ws o i = 0 then toldW ws o i else 0) = toldW ws o i := by
  unfold errA toldW
  cases q : hasB ws i <;> cases o <;> simp
theorem look_let (ws : List Int) (o : Bool) (i t : Int) : (if errA ws o i = 0 then decide (toldW ws o i = t) else false) = lookB ws o i t := by
  unfold errA toldW lookB
  cases q : hasB ws i <;> cases o <;> simp
set_option maxRecDepth 100000 in
set_option maxHeartbeats 1000000 in
theorem drawAct_any (h : MemAt 116 w b g ws o c) (pm pp : Nat) (a : Int) (h0 : w.cell? ⟨pm, 0, none⟩ = some (.pointer (some ⟨b, 0, none⟩))) (h1 : w.cell? ⟨pp, 0, none⟩ = some (.int .i64 a)) :
    Calls Tryz.prog 114 #[.pointer (some ⟨pm, 0, none⟩), .pointer (some ⟨pp, 0, none⟩)] w fun e w' => e = .returned (.tuple #[.int .u64 (toldW ws o a), .int .i64 (errA ws o a)]) ∧ MemAt 116 w' b g (stored ws o a (addV (wordAt ws a) 1)) (spentO ws o a) (spentC ws o a c) ∧ Chg b g w w' := by
  have HA := Lib.hid (add_any h a 1)
  clear h
  go_enter Tryz.func114, Tryz.ntmps114
  go_wp2_with (go_at_call 115; refine HA.out.mono ?_; rintro e w' ⟨rfl, hq⟩)
  go_ret2
  exact ⟨rfl, hq⟩
set_option maxRecDepth 100000 in
set_option maxHeartbeats 1000000 in
theorem draw_any (h : MemAt 116 w b g ws o c) (a0 a1 a2 a3 a4 a5 : Int) :
    Calls Tryz.prog 99 #[.pointer (some ⟨b, 0, none⟩), plnV a0 a1 a2 a3 a4 a5] w fun e w' => e = .returned (.tuple #[.int .u64 (toldW ws o a0), .int .i64 (errA ws o a0)]) ∧ MemAt 116 w' b g (stored ws o a0 (addV (wordAt ws a0) 1)) (spentO ws o a0) (spentC ws o a0 c) ∧ Chg b g w w' := by
  unfold plnV
  have HM := Lib.hid h
  clear h
  go_enter Tryz.func99, Tryz.ntmps99
  go_wp2_with (go_at_call 113; refine (letW_any _ _ _ (told_let ..) (enter_run Tryz.func114 (by kernel_rfl) (by kernel_rfl)) (drawAct_any ((HM.out.alloc _).alloc _) _ _ a0 (by simp [go_sem]) (by simp [go_sem]))).mono ?_; rintro e w' ⟨rfl, hm, hc⟩; have HX := Lib.hid (And.intro hm (((Chg.refl b g w).alloc _).alloc _ |>.trans hc)); clear hm hc)
  go_ret2
  exact ⟨rfl, HX.out⟩
set_option maxRecDepth 100000 in
set_option maxHeartbeats 1000000 in
theorem lookAct_any (h : MemAt 116 w b g ws o c) (pm pp pt : Nat) (a t : Int) (nb : pt ≠ b) (ng : pt ≠ g) (h0 : w.cell? ⟨pm, 0, none⟩ = some (.pointer (some ⟨b, 0, none⟩))) (h1 : w.cell? ⟨pp, 1, none⟩ = some (.int .i64 a)) (h2 : w.cell? ⟨pt, 0, none⟩ = some (.int .u64 t)) :
    Calls Tryz.prog 140 #[.pointer (some ⟨pm, 0, none⟩), .pointer (some ⟨pp, 0, none⟩), .pointer (some ⟨pt, 0, none⟩)] w fun e w' => e = .returned (.tuple #[.bool (decide (toldW ws o a = t)), .int .i64 (errA ws o a)]) ∧ MemAt 116 w' b g ws (spentO ws o a) (spentC ws o a c) ∧ Chg b g w w' := by
  have HA := Lib.hid (load_any h a)
  have hlt := World.block_lt_of_cell? w _ h2
  have HN := Lib.hid (And.intro nb ng)
  clear h nb ng
  generalize toldW ws o a = x at *
  by_cases hx : x = t
  · go_enter Tryz.func140, Tryz.ntmps140
    go_wp2_with (go_at_call 23; refine HA.out.mono ?_; rintro e w' ⟨rfl, hm, hc⟩; have q2 : w'.cell? ⟨pt, 0, none⟩ = some (.int .u64 t) := ((cell_kept (hc.block pt hlt HN.out.1 HN.out.2) 0).trans h2); have HX := Lib.hid (And.intro hm hc); clear hm hc)
    go_ret2
    exact ⟨by simp [hx], HX.out⟩
  · go_enter Tryz.func140, Tryz.ntmps140
    go_wp2_with (go_at_call 23; refine HA.out.mono ?_; rintro e w' ⟨rfl, hm, hc⟩; have q2 : w'.cell? ⟨pt, 0, none⟩ = some (.int .u64 t) := ((cell_kept (hc.block pt hlt HN.out.1 HN.out.2) 0).trans h2); have HX := Lib.hid (And.intro hm hc); clear hm hc)
    go_ret2
    exact ⟨by simp [hx], HX.out⟩
set_option maxRecDepth 100000 in
set_option maxHeartbeats 1000000 in
theorem look_any (h : MemAt 116 w b g ws o c) (a0 a1 a2 a3 a4 a5 t : Int) :
    Calls Tryz.prog 116 #[.pointer (some ⟨b, 0, none⟩), plnV a0 a1 a2 a3 a4 a5, .int .u64 t] w fun e w' => e = .returned (.tuple #[.bool (lookB ws o a1 t), .int .i64 (errA ws o a1)]) ∧ MemAt 116 w' b g ws (spentO ws o a1) (spentC ws o a1 c) ∧ Chg b g w w' := by
  unfold plnV
  have HM := Lib.hid h
  have HLT : Hid (b < w.heap.size ∧ g < w.heap.size) := ⟨h.ltB, h.ltG⟩
  clear h
  go_enter Tryz.func116, Tryz.ntmps116
  go_wp2_with (go_at_call 139; refine (letB_any _ _ _ (look_let ..) (enter_run Tryz.func140 (by kernel_rfl) (by kernel_rfl)) (lookAct_any (((HM.out.alloc _).alloc _).alloc _) _ _ _ a1 t (by have := HLT.out; omega) (by have := HLT.out; omega) (by simp [go_sem]) (by simp [go_sem]) (by simp [go_sem]))).mono ?_; rintro e w' ⟨rfl, hm, hc⟩; have HX := Lib.hid (And.intro hm ((((Chg.refl b g w).alloc _).alloc _).alloc _ |>.trans hc)); clear hm hc)
  go_ret2
  exact ⟨rfl, HX.out⟩
set_option maxRecDepth 100000 in
set_option maxHeartbeats 1000000 in
theorem passAct_any (h : MemAt 116 w b g ws o c) (pm pp pt : Nat) (a t : Int) (h0 : w.cell? ⟨pm, 0, none⟩ = some (.pointer (some ⟨b, 0, none⟩))) (h1 : w.cell? ⟨pp, 1, none⟩ = some (.int .i64 a)) (h2 : w.cell? ⟨pt, 0, none⟩ = some (.int .u64 t)) :
    Calls Tryz.prog 221 #[.pointer (some ⟨pt, 0, none⟩), .pointer (some ⟨pm, 0, none⟩), .pointer (some ⟨pp, 0, none⟩)] w fun e w' => e = .returned (.tuple #[.int .u64 (passV t), .int .i64 (errA ws o a)]) ∧ MemAt 116 w' b g (stored ws o a (passV t)) (spentO ws o a) (spentC ws o a c) ∧ Chg b g w w' := by
  have HA := Lib.hid (store_any h a (passV t))
  unfold passV at *
  clear h
  go_enter Tryz.func221, Tryz.ntmps221
  go_wp2_with (go_at_call 222; refine HA.out.mono ?_; rintro e w' ⟨rfl, hm, hc⟩; have HX := Lib.hid (And.intro hm hc); clear hm hc)
  go_ret2
  exact ⟨rfl, HX.out⟩
set_option maxRecDepth 100000 in
set_option maxHeartbeats 1000000 in
theorem pass_any (h : MemAt 116 w b g ws o c) (a0 a1 a2 a3 a4 a5 t : Int) :
    Calls Tryz.prog 212 #[.pointer (some ⟨b, 0, none⟩), plnV a0 a1 a2 a3 a4 a5, .int .u64 t] w fun e w' => e = .returned (.int .i64 (errA ws o a1)) ∧ MemAt 116 w' b g (stored ws o a1 (passV t)) (spentO ws o a1) (spentC ws o a1 c) ∧ Chg b g w w' := by
  unfold plnV
  have HM := Lib.hid h
  obtain ⟨z, hz⟩ : ∃ z, (if errA ws o a1 = 0 then passV t else 0) = z := ⟨_, rfl⟩
  have HZ := Lib.hid hz
  clear hz
  clear h
  go_enter Tryz.func212, Tryz.ntmps212
  go_wp2_with (go_at_call 113; refine (letW_any _ _ z HZ.out (enter_run Tryz.func221 (by kernel_rfl) (by kernel_rfl)) (passAct_any (((HM.out.alloc _).alloc _).alloc _) _ _ _ a1 t (by simp [go_sem]) (by simp [go_sem]) (by simp [go_sem]))).mono ?_; rintro e w' ⟨rfl, hm, hc⟩; have HX := Lib.hid (And.intro hm ((((Chg.refl b g w).alloc _).alloc _).alloc _ |>.trans hc)); clear hm hc)
  go_ret
  exact ⟨rfl, HX.out⟩
end
end Go.Proofs.YteinilmecnlanaaGreatDoor.Md.Ct
namespace Go.Proofs.YteinilmecnlanaaGreatDoor.Ww
open Go.ChangeShapes Go.WideShapes Go.ChangeAt Go.RowKit Num Rr
theorem hasB_of {ws : List Int} {i : Int} (h : 0 ≤ i) (k : i < (ws.length : Int)) : hasB ws i = true := decide_eq_true ⟨h, k⟩
theorem errA_of {ws : List Int} {i : Int} (h : 0 ≤ i) (k : i < (ws.length : Int)) : errA ws true i = 0 := by unfold errA; rw [hasB_of h k]; rfl
def bufC (x : Wx) (k : Nat) : Int := (x.m.buf.getD k (0, 0)).1
def bufX (x : Wx) (k : Nat) : Nat := (x.m.buf.getD k (0, 0)).2
def wtK (x : Wx) (k d : Nat) : Md.Ce.Wt := ⟨3 + x.b, bufC x k, ((x.was.getD k 0 : Nat) : Int), Md.Cv.passV x.stamp, ((bufX x k : Nat) : Int), d⟩
structure VOk (x : Wx) (v : Wv) : Prop where
  nx : v.nx = nextV x.part
  s5 : x.part = 5 → (∃ n, v.qs = some n) ∧ v.s.B = 3 ∧ v.s.H = x.b ∧ v.s.D = x.stamp ∧ v.s.P = (x.at_ : Int)
  b5 : x.part ≤ 5 → v.bg = 0
  w6 : x.part = 6 → (∃ n, v.qw = some n) ∧ v.bg = ((x.at_ / 3 + 1 : Nat) : Int) ∧ v.t = wtK x (x.at_ / 3) (x.at_ % 3)
  nb : wrap64 v.nb = x.num
theorem nextV_ne {p : Nat} (h : p ≠ 9) : nextV p = fnV (partF p) := by unfold nextV; rw [if_neg h]
theorem VOk.tick {x : Wx} {v : Wv} (h : VOk x v) : VOk (tickY x) v := ⟨h.nx, h.s5, h.b5, h.w6, h.nb⟩
section
variable {x : Wx} {ws : List Int}
def letsY (x : Wx) (ws : List Int) : Bool := decide (wordAt ws (3 + (x.at_ : Int)) = 0 ∨ x.stamp < wordAt ws (3 + (x.at_ : Int)))
theorem scan_rel (hI : InY x) (hp : x.part = 5) (hl : plY x ≤ (ws.length : Int)) {s : Md.Cv.Ss} (hB : s.B = 3) (hH : s.H = x.b) (hD : s.D = x.stamp) (hP : s.P = (x.at_ : Int)) (n : Int) :
    Md.Cv.sE s ws true = 0 ∧ Md.Cv.sP s ws true = false ∧ Md.Cv.sQ s ws true n = up n ∧ Md.Cv.SOk s ∧ Md.Cv.sO s ws true = (letsY x ws && decide (((x.at_ + 1 : Nat) : Int) = x.b)) ∧ (letsY x ws = true → Md.Cv.sC s ws true = ⟨3, x.b, x.stamp, ((x.at_ + 1 : Nat) : Int), s.Q⟩) ∧ (letsY x ws = false → Md.Cv.sC s ws true = ⟨3, x.b, x.stamp, (x.at_ : Int), up s.Q⟩) := by
  obtain ⟨B, H, D, P, Q⟩ := s
  dsimp only at hB hH hD hP
  subst hB hH hD hP
  have h5 := hI.at5 hp
  have hb := hI.cb
  have ha := hI.ca
  unfold plY at hl
  have hpl : Md.Cv.plc 3 (x.at_ : Int) = 3 + (x.at_ : Int) := by unfold Md.Cv.plc; rw [if_pos (by omega)]
  have hm : Md.Cv.mayH x.b = true := decide_eq_true ⟨hb.1, hb.2⟩
  have hE : Md.Cv.sE ⟨3, x.b, x.stamp, (x.at_ : Int), Q⟩ ws true = 0 := by
    unfold Md.Cv.sE
    dsimp only
    rw [hm, if_pos rfl, if_neg (by omega), hpl]
    exact errA_of (by omega) (by omega)
  have hC : Md.Cv.sC ⟨3, x.b, x.stamp, (x.at_ : Int), Q⟩ ws true = Md.Cv.sN ⟨3, x.b, x.stamp, (x.at_ : Int), Q⟩ (wordAt ws (3 + (x.at_ : Int))) := by
    unfold Md.Cv.sC
    rw [if_pos hE]
    dsimp only
    rw [hpl]
  have hL : Md.Cv.letB x.stamp (wordAt ws (3 + (x.at_ : Int))) = letsY x ws := by
    unfold Md.Cv.letB letsY
    rw [Bool.eq_iff_iff]
    simp
  have hN : Md.Cv.sN ⟨3, x.b, x.stamp, (x.at_ : Int), Q⟩ (wordAt ws (3 + (x.at_ : Int))) = if letsY x ws then ⟨3, x.b, x.stamp, (x.at_ : Int) + 1, Q⟩ else ⟨3, x.b, x.stamp, (x.at_ : Int), up Q⟩ := by
    unfold Md.Cv.sN
    dsimp only
    rw [hL]
  refine ⟨hE, ?_, ?_, ⟨by dsimp only; omega, fun _ => by dsimp only; omega⟩, ?_, fun q => ?_, fun q => ?_⟩
  · unfold Md.Cv.sP; rw [if_pos hE]
  · unfold Md.Cv.sQ; rw [if_pos hE]
  · unfold Md.Cv.sO
    rw [hE, hC, hN, decide_eq_true rfl, Bool.true_and]
    cases letsY x ws
    · rw [Bool.false_and]
      exact decide_eq_false (by simp; omega)
    · rw [Bool.true_and]
      simp
  · rw [hC, hN, q]
    simp
  · rw [hC, hN, q]
    simp
theorem scanY_no (h : letsY x ws = false) : scanY x ws = x := by
  have := of_decide_eq_false h
  unfold scanY
  rw [if_neg this]
theorem scanY_on (h : letsY x ws = true) (hb : ¬ ((x.at_ + 1 : Nat) : Int) = x.b) : scanY x ws = { x with at_ := x.at_ + 1 } := by
  have := of_decide_eq_true h
  unfold scanY
  rw [if_pos this, if_neg hb]
theorem scanY_end (h : letsY x ws = true) (hb : ((x.at_ + 1 : Nat) : Int) = x.b) : scanY x ws = { x with at_ := 0, part := if x.m.buf.length = 0 then 7 else 6 } := by
  have := of_decide_eq_true h
  unfold scanY
  rw [if_pos this, if_pos hb]
theorem okN_fix' {v : Nat} (h : okN v) : fixB v = v := h.1
theorem buf_in (hI : InY x) {k : Nat} (hk : k < x.m.buf.length) : 0 ≤ bufC x k ∧ bufC x k < x.a ∧ okN (bufX x k) := by
  have e : x.m.buf.getD k (0, 0) = x.m.buf[k] := by simp [hk]
  unfold bufC bufX
  rw [e, ← hI.cel]
  exact ⟨(hI.rest.cel _ (List.getElem_mem hk)).1, (hI.rest.cel _ (List.getElem_mem hk)).2, hI.rest.inv.buf _ (List.getElem_mem hk)⟩
theorem was_in (hI : InY x) (k : Nat) : okN (x.was.getD k 0) := getD_all 0 okN_zero x.was hI.wok k
theorem newW_is (hI : InY x) {k : Nat} (hk : k < x.m.buf.length) : Md.Ce.newW (3 + x.b) (bufC x k) (Md.Cv.passV x.stamp) (x.was.getD k 0) (bufX x k) = wtK x k 0 := by
  unfold Md.Ce.newW wtK
  rw [okN_fix' (was_in hI k), okN_fix' (buf_in hI hk).2.2]
theorem write_rel (hI : InY x) (hp : x.part = 6) (hl : plY x ≤ (ws.length : Int)) (n : Int) : Md.Ce.errW (wtK x (x.at_ / 3) (x.at_ % 3)) ws true = 0 ∧ Md.Ce.laidW (wtK x (x.at_ / 3) (x.at_ % 3)) ws true = backW x ws ∧ Md.Ce.stepW (wtK x (x.at_ / 3) (x.at_ % 3)) ws true = wtK x (x.at_ / 3) (x.at_ % 3 + 1) ∧ Md.Ce.endW (wtK x (x.at_ / 3) (x.at_ % 3)) ws true = decide (x.at_ % 3 = 2) ∧ Md.Ce.aftO (Md.Ce.errW (wtK x (x.at_ / 3) (x.at_ % 3)) ws true) true = false ∧ Md.Ce.aftN (Md.Ce.errW (wtK x (x.at_ / 3) (x.at_ % 3)) ws true) n = up n := by
  have h6 := hI.at6 hp
  have hk : x.at_ / 3 < x.m.buf.length := by omega
  obtain ⟨c1, c2, c3⟩ := buf_in hI hk
  have hb := hI.cb
  have ha := hI.ca
  unfold plY at hl
  have hd : x.at_ % 3 < 3 := Nat.mod_lt _ (by omega)
  have P : ∀ j : Int, Md.Ce.placeI (3 + x.b) (bufC x (x.at_ / 3)) j = 3 + x.b + 3 * bufC x (x.at_ / 3) + j := fun j => by unfold Md.Ce.placeI; rw [if_pos (by omega)]
  have hw := Md.Ce.wordW_in (x.at_ % 3)
  have hE : Md.Ce.errW (wtK x (x.at_ / 3) (x.at_ % 3)) ws true = 0 := by
    unfold Md.Ce.errW Md.Ce.errC wtK
    dsimp only
    rw [if_pos hd, show Md.Ce.mayC (bufC x (x.at_ / 3)) = true from decide_eq_true ⟨c1, by omega⟩, if_pos rfl, P]
    exact errA_of (by omega) (by omega)
  refine ⟨hE, ?_, ?_, ?_, ?_, ?_⟩
  · unfold Md.Ce.laidW
    rw [if_pos hE]
    unfold Md.Ce.storeC Md.Ce.bitsW Md.Ce.wordW wtK backW atC
    dsimp only
    rw [P]
    rcases (by omega : x.at_ % 3 = 0 ∨ x.at_ % 3 = 1 ∨ x.at_ % 3 = 2) with d | d | d
    · simp only [d, if_true]
      rfl
    · simp only [d, if_true, if_neg (show ¬ (1 : Nat) = 0 by omega)]
      rfl
    · simp only [d, if_neg (show ¬ (2 : Nat) = 0 by omega), if_neg (show ¬ (2 : Nat) = 1 by omega)]
      rfl
  · unfold Md.Ce.stepW
    rw [if_pos hE]
    rfl
  · unfold Md.Ce.endW
    rw [hE, decide_eq_true rfl, Bool.true_and]
    rfl
  · unfold Md.Ce.aftO; rw [if_pos hE]
  · unfold Md.Ce.aftN; rw [if_pos hE]
theorem now_rel (ha : 1 ≤ x.a ∧ x.a ≤ 256) (hb : 1 ≤ x.b ∧ x.b ≤ 8) (hl : plY x ≤ (ws.length : Int)) {c : Int} (h0 : 0 ≤ c) (h1 : c < x.a) (n : Int) : Md.Ce.errC ws true (3 + x.b) c 1 = 0 ∧ Md.Ce.nowV ws true (3 + x.b) c = nowN x ws c ∧ Md.Ce.aftO (Md.Ce.errC ws true (3 + x.b) c 1) true = false ∧ Md.Ce.aftN (Md.Ce.errC ws true (3 + x.b) c 1) n = up n := by
  unfold plY at hl
  have P : Md.Ce.placeI (3 + x.b) c 1 = 3 + x.b + 3 * c + 1 := by unfold Md.Ce.placeI; rw [if_pos (by omega)]
  have hE : Md.Ce.errC ws true (3 + x.b) c 1 = 0 := by
    unfold Md.Ce.errC
    rw [show Md.Ce.mayC c = true from decide_eq_true ⟨h0, by omega⟩, if_pos rfl, P]
    exact errA_of (by omega) (by omega)
  refine ⟨hE, ?_, ?_, ?_⟩
  · unfold Md.Ce.nowV Md.Ce.wordC nowN atC
    rw [if_pos hE, P]
  · unfold Md.Ce.aftO; rw [if_pos hE]
  · unfold Md.Ce.aftN; rw [if_pos hE]
end
section
variable {W w w' : World} {G0 : List Nat} {b mb mg : Nat} {x : Wx} {z : Wz} {v : Wv} {ws : List Int} {o : Bool} {n : Int}
theorem RawAt.like (h : RawAt w b x z v) {x' : Wx} (e : boxY x' z v = boxY x z v) (hm : x'.m = x.m) (ha : x'.args = x.args) (hw : x'.was = x.was) : RawAt w b x' z v := ⟨by rw [e]; exact h.box, by rw [hm]; exact h.mac, by rw [hw]; exact h.had, h.sc, h.wr, by rw [ha]; exact h.arg, h.apart⟩
theorem Mid.like (h : Mid W G0 b z mb mg w x v ws o n) {x' : Wx} (e : boxY x' z v = boxY x z v) (hm : x'.m = x.m) (ha : x'.args = x.args) (hw : x'.was = x.was) : Mid W G0 b z mb mg w x' v ws o n := ⟨h.1.like e hm ha hw, h.2⟩
theorem Mid.plan (h : Mid W G0 b z mb mg w x v ws o n) {p4 p5 : Int} (h4 : 3 + x.b = p4) (h5 : 3 + x.b + 3 * x.a = p5) : w.cell? ⟨b, 0, none⟩ = some (.int .i64 0) ∧ w.cell? ⟨b, 1, none⟩ = some (.int .i64 1) ∧ w.cell? ⟨b, 2, none⟩ = some (.int .i64 2) ∧ w.cell? ⟨b, 3, none⟩ = some (.int .i64 3) ∧ w.cell? ⟨b, 4, none⟩ = some (.int .i64 p4) ∧ w.cell? ⟨b, 5, none⟩ = some (.int .i64 p5) := by
  subst h4 h5
  exact ⟨(h.cell 0).trans rfl, (h.cell 1).trans rfl, (h.cell 2).trans rfl, (h.cell 3).trans rfl, (h.cell 4).trans rfl, (h.cell 5).trans rfl⟩
theorem Mid.step (h : Mid W G0 b z mb mg w x v ws o n) (hT : TabAt W G0) (hI : Inv x.m) {M : Mac} {A : Ask} (hM : (stepM x.m).1 = M) (hA : (stepM x.m).2 = A) : Calls Tryz.prog 91 #[.pointer (some ⟨z.bm, 0, none⟩)] w fun e w' => e = .returned (.agg #[.int .i64 A.kind, .int .i64 A.cell, .float .f64 A.x, .bool A.first]) ∧ Hid (∃ F, Mid W G0 b z mb mg w' { x with m := M } { v with F := F } ws o n) := by
  obtain ⟨g, tb, go⟩ := h.mach
  subst hM hA
  refine (step_any g (tb hT) hI).mono ?_
  rintro e w' ⟨rfl, k⟩
  exact ⟨rfl, go _ _ k⟩
theorem Mid.give (h : Mid W G0 b z mb mg w x v ws o n) (hI : Inv x.m) (y : Nat) {M : Mac} (hM : giveM x.m y = M) : Calls Tryz.prog 93 #[.pointer (some ⟨z.bm, 0, none⟩), .float .f64 y] w fun e w' => e = .returned (.int .i64 (giveE x.m)) ∧ Hid (∃ F, Mid W G0 b z mb mg w' { x with m := M } { v with F := F } ws o n) := by
  obtain ⟨g, tb, go⟩ := h.mach
  subst hM
  refine (give_any g hI y).mono ?_
  rintro e w' ⟨rfl, k⟩
  exact ⟨rfl, go _ _ k⟩
end
end Go.Proofs.YteinilmecnlanaaGreatDoor.Ww
namespace Go.Proofs.YteinilmecnlanaaGreatDoor.Ww
open Go.ChangeShapes Go.WideShapes Go.ChangeAt Go.RowKit Num Rr
attribute [local go_sem] run_store_float Md.Ce.run_store_func Md.Ce.run_store_nilFunc
theorem funcT : ∃ ps rs v, Tryz.prog.underlying 98 = some (.func ps rs v) := ⟨#[33, 37], #[], false, by kernel_rfl⟩
theorem run_eql_func (f : Fn) (x y : Array Value) (w : World) : (binOp .eql 98 (.func f x y) .nilFunc).run Tryz.prog w = .ok (.bool false) w := by
  obtain ⟨ps, rs, v, h⟩ := funcT
  simp only [binOp]
  simp [Md.Ce.run_equal_func _ f x y w h]
theorem run_eql_nilFunc (w : World) : (binOp .eql 98 .nilFunc .nilFunc).run Tryz.prog w = .ok (.bool true) w := by
  obtain ⟨ps, rs, v, h⟩ := funcT
  simp only [binOp]
  simp [Md.Ce.run_equal_nil _ w h]
attribute [local go_sem] run_eql_func run_eql_nilFunc
theorem part_enter (p : Nat) (args : Array Value) (w : World) : (callFunc (partF p) args).run Tryz.prog w = .ok (.enter (partF p) args) w := by
  unfold partF
  split
  · exact Md.enter_run Tryz.func70 (by kernel_rfl) (by kernel_rfl) args w
  split
  · exact Md.enter_run Tryz.func100 (by kernel_rfl) (by kernel_rfl) args w
  split
  · exact Md.enter_run Tryz.func117 (by kernel_rfl) (by kernel_rfl) args w
  split
  · exact Md.enter_run Tryz.func142 (by kernel_rfl) (by kernel_rfl) args w
  split
  · exact Md.enter_run Tryz.func188 (by kernel_rfl) (by kernel_rfl) args w
  split
  · exact Md.enter_run Tryz.func229 (by kernel_rfl) (by kernel_rfl) args w
  split
  · exact Md.enter_run Tryz.func226 (by kernel_rfl) (by kernel_rfl) args w
  · exact Md.enter_run Tryz.func186 (by kernel_rfl) (by kernel_rfl) args w
section
variable {W w : World} {G0 : List Nat} {b mb mg : Nat} {x : Wx} {z : Wz} {v : Wv} {ws : List Int} {o : Bool} {n : Int}
theorem over_raw (h : RawAt w b x z v) (hv : v.nx = nextV x.part) : Calls Tryz.prog 39 #[.pointer (some ⟨b, 0, none⟩)] w fun e w' => e = .returned (.bool (decide ((x.part : Int) = 9))) ∧ w' = w := by
  have h12 : w.cell? ⟨b, 12, none⟩ = some v.nx := (h.cell 12).trans rfl
  have hb := h.ltB
  rw [hv] at h12
  unfold nextV at h12
  clear h hv
  by_cases e : x.part = 9
  · rw [if_pos e] at h12
    rw [decide_eq_true (by omega)]
    clear e
    go_enter Tryz.func39, Tryz.ntmps39
    go_wp2
    go_ret
    exact ⟨rfl, rfl⟩
  · rw [if_neg e] at h12
    unfold fnV at h12
    rw [decide_eq_false (by omega)]
    generalize partF x.part = ff at h12
    clear e
    go_enter Tryz.func39, Tryz.ntmps39
    go_wp2
    go_ret
    exact ⟨rfl, rfl⟩
theorem phase_raw (h : RawAt w b x z v) : Calls Tryz.prog 18 #[.pointer (some ⟨b, 0, none⟩)] w fun e w' => e = .returned (.int .i64 (x.part : Int)) ∧ w' = w := by
  have h11 : w.cell? ⟨b, 11, none⟩ = some (.int .i64 (x.part : Int)) := (h.cell 11).trans rfl
  have hb := h.ltB
  clear h
  go_enter Tryz.func18, Tryz.ntmps18
  go_wp2
  go_ret
  exact ⟨rfl, rfl⟩
theorem turnTo_fn (h : Mid W G0 b z mb mg w x v ws o n) (p : Nat) {P : Int} (hP : (p : Int) = P) (f : FuncId) : Calls Tryz.prog 69 #[.pointer (some ⟨b, 0, none⟩), .int .i64 P, .func (.func f) #[] #[]] w fun e w' => e = .returned (.tuple #[]) ∧ Mid W G0 b z mb mg w' { x with part := p } { v with nx := fnV f } ws o n := by
  subst hP
  have h11 : w.cell? ⟨b, 11, none⟩ = some (.int .i64 (x.part : Int)) := (h.cell 11).trans rfl
  have f11 := h.free 11
  have H1 := h.put 11 (.int .i64 (p : Int)) { x with part := p } v rfl ⟨rfl, rfl, rfl⟩ ⟨rfl, rfl, rfl, rfl, rfl, rfl, rfl⟩
  have h12 : (w.setCell ⟨b, 11, none⟩ (.int .i64 (p : Int))).cell? ⟨b, 12, none⟩ = some v.nx := (H1.cell 12).trans rfl
  have f12 := H1.free 12
  have H2 := Lib.hid (H1.put 12 (.func (.func f) #[] #[]) { x with part := p } { v with nx := fnV f } rfl ⟨rfl, rfl, rfl⟩ ⟨rfl, rfl, rfl, rfl, rfl, rfl, rfl⟩)
  have hb := h.ltB
  clear h H1
  go_enter Tryz.func69, Tryz.ntmps69
  go_wp2
  go_end0
  exact ⟨rfl, H2.out⟩
theorem turnTo_nil (h : Mid W G0 b z mb mg w x v ws o n) (p : Nat) {P : Int} (hP : (p : Int) = P) : Calls Tryz.prog 69 #[.pointer (some ⟨b, 0, none⟩), .int .i64 P, .nilFunc] w fun e w' => e = .returned (.tuple #[]) ∧ Mid W G0 b z mb mg w' { x with part := p } { v with nx := .nilFunc } ws o n := by
  subst hP
  have h11 : w.cell? ⟨b, 11, none⟩ = some (.int .i64 (x.part : Int)) := (h.cell 11).trans rfl
  have f11 := h.free 11
  have H1 := h.put 11 (.int .i64 (p : Int)) { x with part := p } v rfl ⟨rfl, rfl, rfl⟩ ⟨rfl, rfl, rfl, rfl, rfl, rfl, rfl⟩
  have h12 : (w.setCell ⟨b, 11, none⟩ (.int .i64 (p : Int))).cell? ⟨b, 12, none⟩ = some v.nx := (H1.cell 12).trans rfl
  have f12 := H1.free 12
  have H2 := Lib.hid (H1.put 12 .nilFunc { x with part := p } { v with nx := .nilFunc } rfl ⟨rfl, rfl, rfl⟩ ⟨rfl, rfl, rfl, rfl, rfl, rfl, rfl⟩)
  have hb := h.ltB
  clear h H1
  go_enter Tryz.func69, Tryz.ntmps69
  go_wp2
  go_end0
  exact ⟨rfl, H2.out⟩
theorem nextStamp_any (h : Mid W G0 b z mb mg w x v ws o n) : Calls Tryz.prog 228 #[.pointer (some ⟨b, 0, none⟩)] w fun e w' => e = .returned (.int .u64 (Md.Cv.passV x.stamp)) ∧ w' = w := by
  have h14 : w.cell? ⟨b, 14, none⟩ = some (.int .u64 x.stamp) := (h.cell 14).trans rfl
  have hb := h.ltB
  clear h
  unfold Md.Cv.passV
  go_enter Tryz.func228, Tryz.ntmps228
  go_wp2
  go_ret
  exact ⟨rfl, rfl⟩
set_option maxRecDepth 100000 in
set_option maxHeartbeats 1000000 in
theorem draw_any (h : Mid W G0 b z mb mg w x v ws true n) (hl : 0 < (ws.length : Int)) : Calls Tryz.prog 70 #[.pointer (some ⟨b, 0, none⟩), .pointer (some ⟨mb, 0, none⟩)] w fun e w' => e = .returned (.tuple #[]) ∧ Mid W G0 b z mb mg w' { x with tick := wordAt ws 0, part := 2 } { v with nx := fnV 100 } (ws.set 0 (Md.Cv.passV (wordAt ws 0))) false (up n) := by
  have hE : errA ws true 0 = 0 := errA_of (by omega) hl
  obtain ⟨f1, f2, f3, f4, _⟩ := Md.Cv.ok_facts hE
  obtain ⟨y, hy⟩ : ∃ y, wordAt ws 0 = y := ⟨_, rfl⟩
  obtain ⟨ws', hws⟩ : ∃ ws', ws.set 0 (Md.Cv.passV (wordAt ws 0)) = ws' := ⟨_, rfl⟩
  have HD := Lib.hid (Md.Ct.draw_any h.mem 0 1 2 3 (3 + x.b) (3 + x.b + 3 * x.a))
  unfold Md.Ct.plnV at HD
  rw [hE, f1, f2, f3, f4, show ws.set (Int.toNat 0) (addV (wordAt ws 0) 1) = ws' from hws, hy] at HD
  rw [hws, hy]
  have HM : Hid (∀ w', MemAt 116 w' mb mg ws' false (up n) → Chg mb mg w w' → Mid W G0 b z mb mg w' x v ws' false (up n)) := fun w' k1 k2 => h.memb k2 k1
  have HP : Hid (∀ w', Mid W G0 b z mb mg w' x v ws' false (up n) → Mid W G0 b z mb mg (w'.setCell ⟨b, 13, none⟩ (.int .u64 y)) { x with tick := y } v ws' false (up n)) := fun w' k => k.put 13 _ { x with tick := y } v rfl ⟨rfl, rfl, rfl⟩ ⟨rfl, rfl, rfl, rfl, rfl, rfl, rfl⟩
  have HT : Hid (∀ w', Mid W G0 b z mb mg w' { x with tick := y } v ws' false (up n) → Calls Tryz.prog 69 #[.pointer (some ⟨b, 0, none⟩), .int .i64 2, .func (.func 100) #[] #[]] w' fun e w' => e = .returned (.tuple #[]) ∧ Mid W G0 b z mb mg w' { x with tick := y, part := 2 } { v with nx := fnV 100 } ws' false (up n)) := fun w' k => turnTo_fn k 2 rfl 100
  obtain ⟨h0, h1, h2, h3, h4, h5⟩ := h.plan rfl rfl
  have hb := h.ltB
  clear h f1 f2 f3 f4 hE hl hy hws
  generalize 3 + x.b + 3 * x.a = p5 at *
  generalize 3 + x.b = p4 at *
  go_enter Tryz.func70, Tryz.ntmps70
  go_wp2_with (first
    | (go_at_call 69; refine (HT.out _ (HP.out _ HQ.out)).mono ?_; rintro e w2 ⟨rfl, k⟩; have HR := Lib.hid k; clear k HT)
    | (go_at_call 99; refine HD.out.mono ?_; rintro e w1 ⟨rfl, k1, k2⟩; have HQ := Lib.hid (HM.out _ k1 k2); have e13 : w1.cell? ⟨b, 13, none⟩ = some (.int .u64 x.tick) := (HQ.out.cell 13).trans rfl; have f13 := HQ.out.free 13; have lb := HQ.out.ltB; clear k1 k2 HD HM))
  go_end0
  exact ⟨rfl, HR.out⟩
set_option maxRecDepth 100000 in
set_option maxHeartbeats 1000000 in
theorem wait_any (h : Mid W G0 b z mb mg w x v ws true n) (hl : 1 < (ws.length : Int)) {is : Bool} (his : decide (wordAt ws 1 = x.tick) = is) : Calls Tryz.prog 100 #[.pointer (some ⟨b, 0, none⟩), .pointer (some ⟨mb, 0, none⟩)] w fun e w' => e = .returned (.tuple #[]) ∧ Mid W G0 b z mb mg w' (if is then { x with part := 3 } else x) (if is then { v with nx := fnV 117 } else v) ws false (up n) := by
  have hE : errA ws true 1 = 0 := errA_of (by omega) hl
  obtain ⟨f1, f2, f3, f4, f5, _⟩ := Md.Cv.ok_facts hE
  have HD := Lib.hid (Md.Ct.look_any h.drew.mem 0 1 2 3 (3 + x.b) (3 + x.b + 3 * x.a) x.tick)
  unfold Md.Ct.plnV Md.Ct.lookB at HD
  rw [hE, f2, f3, f5, Bool.true_and, Bool.true_and, his] at HD
  have HM : Hid (∀ w', MemAt 116 w' mb mg ws false (up n) → Chg mb mg w.drew w' → Mid W G0 b z mb mg w' x v ws false (up n)) := fun w' k1 k2 => h.drew.memb k2 k1
  have HT : Hid (∀ w', Mid W G0 b z mb mg w' x v ws false (up n) → Calls Tryz.prog 69 #[.pointer (some ⟨b, 0, none⟩), .int .i64 3, .func (.func 117) #[] #[]] w' fun e w' => e = .returned (.tuple #[]) ∧ Mid W G0 b z mb mg w' { x with part := 3 } { v with nx := fnV 117 } ws false (up n)) := fun w' k => turnTo_fn k 3 rfl 117
  obtain ⟨h0, h1, h2, h3, h4, h5⟩ := h.plan rfl rfl
  have h13 : w.cell? ⟨b, 13, none⟩ = some (.int .u64 x.tick) := (h.cell 13).trans rfl
  have hb := h.ltB
  have HPL : Hid (∀ w', Mid W G0 b z mb mg w' x v ws false (up n) → (w'.cell? ⟨b, 0, none⟩ = some (.int .i64 0) ∧ w'.cell? ⟨b, 1, none⟩ = some (.int .i64 1) ∧ w'.cell? ⟨b, 2, none⟩ = some (.int .i64 2) ∧ w'.cell? ⟨b, 3, none⟩ = some (.int .i64 3) ∧ w'.cell? ⟨b, 4, none⟩ = some (.int .i64 (3 + x.b)) ∧ w'.cell? ⟨b, 5, none⟩ = some (.int .i64 (3 + x.b + 3 * x.a))) ∧ w'.cell? ⟨b, 13, none⟩ = some (.int .u64 x.tick)) := fun w' k => ⟨k.plan rfl rfl, (k.cell 13).trans rfl⟩
  clear h f1 f2 f3 f4 f5 hE hl his
  generalize 3 + x.b + 3 * x.a = p5 at *
  generalize 3 + x.b = p4 at *
  go_enter Tryz.func100, Tryz.ntmps100
  go_wp2_with fail
  refine wp_region_seq (fun u => (u.cell? ⟨b, 0, none⟩ = some (.int .i64 0) ∧ u.cell? ⟨b, 1, none⟩ = some (.int .i64 1) ∧ u.cell? ⟨b, 2, none⟩ = some (.int .i64 2) ∧ u.cell? ⟨b, 3, none⟩ = some (.int .i64 3) ∧ u.cell? ⟨b, 4, none⟩ = some (.int .i64 p4) ∧ u.cell? ⟨b, 5, none⟩ = some (.int .i64 p5)) ∧ u.cell? ⟨b, 13, none⟩ = some (.int .u64 x.tick) )  ((0, true) :: (1, true) :: (2, true) :: (3, true) :: (4, true) :: (5, true) :: (6, true) :: (7, true) :: (8, true) :: (9, false) :: (10, true) :: (11, true) :: (12, true) :: (13, true) :: (14, true) :: [])  Md.Cv.follows13 (by kernel_rfl) (fun _ _ _ _ _ h => h)  ⟨⟨h0, h1, h2, h3, h4, h5⟩, h13⟩ ?_
  (repeat ((first | (refine wpSeq_take (v := ?_) rfl (by rfl) (fun wq hSq => ?_) ?_; rotate_left; (focus ((try dsimp only at hSq); go_simp; try with_reducible rfl))) | refine wpSeq_skip rfl (by rfl) ?_); simp only [Act.put, List.setIfInBounds_toArray, List.set_cons_zero, List.set_cons_succ]))
  (refine wpSeq_do rfl (by rfl) (fun KK hK => ?_); go_simp)
  refine HD.out.mono ?_
  rintro e w1 ⟨rfl, k1, k2⟩
  have HQ := Lib.hid (HM.out _ k1 k2)
  have lb := HQ.out.ltB
  clear k1 k2 HD HM
  refine hK.out _ _ (HPL.out _ HQ.out) ?_
  (clear hK KK; try simp only [Act.put, List.setIfInBounds_toArray, List.set_cons_zero, List.set_cons_succ])
  (repeat ((first | (refine wpSeq_take (v := ?_) rfl (by rfl) (fun wq hSq => ?_) ?_; rotate_left; (focus ((try dsimp only at hSq); go_simp; try with_reducible rfl))) | refine wpSeq_skip rfl (by rfl) ?_); simp only [Act.put, List.setIfInBounds_toArray, List.set_cons_zero, List.set_cons_succ]))
  refine wpSeq_nil ?_
  cases is
  · go_wp2_with fail
    go_end0
    exact ⟨rfl, HQ.out⟩
  · go_wp2_with (go_at_call 69; refine (HT.out _ HQ.out).mono ?_; rintro e w2 ⟨rfl, k⟩; have HR := Lib.hid k; clear k HT)
    go_end0
    exact ⟨rfl, HR.out⟩
set_option maxRecDepth 100000 in
set_option maxHeartbeats 1000000 in
theorem mark_any (h : Mid W G0 b z mb mg w x v ws true n) (hl : 2 < (ws.length : Int)) : Calls Tryz.prog 117 #[.pointer (some ⟨b, 0, none⟩), .pointer (some ⟨mb, 0, none⟩)] w fun e w' => e = .returned (.tuple #[]) ∧ Mid W G0 b z mb mg w' { x with stamp := wordAt ws 2, part := 4 } { v with nx := fnV 142 } ws false (up n) := by
  have hE : errA ws true 2 = 0 := errA_of (by omega) hl
  obtain ⟨f1, f2, f3, f4, _⟩ := Md.Cv.ok_facts hE
  obtain ⟨y, hy⟩ : ∃ y, wordAt ws 2 = y := ⟨_, rfl⟩
  have HD := Lib.hid (Md.Cv.stampM_any h.mem 0 1 2 3 (3 + x.b) (3 + x.b + 3 * x.a))
  unfold Md.Cv.plnV at HD
  rw [hE, f2, f3, f4, hy] at HD
  rw [hy]
  have HM : Hid (∀ w', MemAt 116 w' mb mg ws false (up n) → Chg mb mg w w' → Mid W G0 b z mb mg w' x v ws false (up n)) := fun w' k1 k2 => h.memb k2 k1
  have HP : Hid (∀ w', Mid W G0 b z mb mg w' x v ws false (up n) → Mid W G0 b z mb mg (w'.setCell ⟨b, 14, none⟩ (.int .u64 y)) { x with stamp := y } v ws false (up n)) := fun w' k => k.put 14 _ { x with stamp := y } v rfl ⟨rfl, rfl, rfl⟩ ⟨rfl, rfl, rfl, rfl, rfl, rfl, rfl⟩
  have HT : Hid (∀ w', Mid W G0 b z mb mg w' { x with stamp := y } v ws false (up n) → Calls Tryz.prog 69 #[.pointer (some ⟨b, 0, none⟩), .int .i64 4, .func (.func 142) #[] #[]] w' fun e w' => e = .returned (.tuple #[]) ∧ Mid W G0 b z mb mg w' { x with stamp := y, part := 4 } { v with nx := fnV 142 } ws false (up n)) := fun w' k => turnTo_fn k 4 rfl 142
  obtain ⟨h0, h1, h2, h3, h4, h5⟩ := h.plan rfl rfl
  have hb := h.ltB
  clear h f1 f2 f3 f4 hE hl hy
  generalize 3 + x.b + 3 * x.a = p5 at *
  generalize 3 + x.b = p4 at *
  go_enter Tryz.func117, Tryz.ntmps117
  go_wp2_with (first
    | (go_at_call 69; refine (HT.out _ (HP.out _ HQ.out)).mono ?_; rintro e w2 ⟨rfl, k⟩; have HR := Lib.hid k; clear k HT)
    | (go_at_call 141; refine HD.out.mono ?_; rintro e w1 ⟨rfl, k1, k2⟩; have HQ := Lib.hid (HM.out _ k1 k2); have e14 : w1.cell? ⟨b, 14, none⟩ = some (.int .u64 x.stamp) := (HQ.out.cell 14).trans rfl; have f14 := HQ.out.free 14; have lb := HQ.out.ltB; clear k1 k2 HD HM))
  go_end0
  exact ⟨rfl, HR.out⟩
set_option maxRecDepth 100000 in
set_option maxHeartbeats 1000000 in
theorem publish_any (h : Mid W G0 b z mb mg w x v ws true n) (hl : 2 < (ws.length : Int)) : Calls Tryz.prog 226 #[.pointer (some ⟨b, 0, none⟩), .pointer (some ⟨mb, 0, none⟩)] w fun e w' => e = .returned (.tuple #[]) ∧ Mid W G0 b z mb mg w' { x with part := 8 } { v with nx := fnV 186, nb := Md.Cv.passV x.stamp } (ws.set 2 (Md.Cv.passV x.stamp)) false (up n) := by
  have hE : errA ws true 2 = 0 := errA_of (by omega) hl
  obtain ⟨f1, f2, f3, f4, _⟩ := Md.Cv.ok_facts hE
  have HN : Hid (Calls Tryz.prog 228 #[.pointer (some ⟨b, 0, none⟩)] w fun e w' => e = .returned (.int .u64 (Md.Cv.passV x.stamp)) ∧ w' = w) := nextStamp_any h
  obtain ⟨y, hy⟩ : ∃ y, Md.Cv.passV x.stamp = y := ⟨_, rfl⟩
  rw [hy] at HN ⊢
  clear hy
  have H1 := h.put 19 (.int .u64 y) x { v with nb := y } rfl ⟨rfl, rfl, rfl⟩ ⟨rfl, rfl, rfl, rfl, rfl, rfl, rfl⟩
  have h19 : w.cell? ⟨b, 19, none⟩ = some (.int .u64 v.nb) := (h.cell 19).trans rfl
  have f19 := h.free 19
  have hb := h.ltB
  obtain ⟨w1, hw1⟩ : ∃ w1, w1 = w.setCell ⟨b, 19, none⟩ (.int .u64 y) := ⟨_, rfl⟩
  rw [← hw1] at H1
  have HD := Lib.hid (Md.Cv.publish_any H1.drew.mem 0 1 2 3 (3 + x.b) (3 + x.b + 3 * x.a) y)
  unfold Md.Cv.plnV at HD
  obtain ⟨ws', hws⟩ : ∃ ws', ws.set 2 y = ws' := ⟨_, rfl⟩
  rw [hE, f1, f2, f3, show ws.set (Int.toNat 2) y = ws' from hws] at HD
  rw [hws]
  have HM : Hid (∀ w', MemAt 116 w' mb mg ws' false (up n) → Chg mb mg w1.drew w' → Mid W G0 b z mb mg w' x { v with nb := y } ws' false (up n)) := fun w' k1 k2 => H1.drew.memb k2 k1
  have HT : Hid (∀ w', Mid W G0 b z mb mg w' x { v with nb := y } ws' false (up n) → Calls Tryz.prog 69 #[.pointer (some ⟨b, 0, none⟩), .int .i64 8, .func (.func 186) #[] #[]] w' fun e w' => e = .returned (.tuple #[]) ∧ Mid W G0 b z mb mg w' { x with part := 8 } { v with nx := fnV 186, nb := y } ws' false (up n)) := fun w' k => turnTo_fn k 8 rfl 186
  obtain ⟨h0, h1, h2, h3, h4, h5⟩ := H1.plan rfl rfl
  have e19 : w1.cell? ⟨b, 19, none⟩ = some (.int .u64 y) := (H1.cell 19).trans rfl
  have hb1 := H1.ltB
  have HPL : Hid (∀ w', Mid W G0 b z mb mg w' x { v with nb := y } ws' false (up n) → (w'.cell? ⟨b, 0, none⟩ = some (.int .i64 0) ∧ w'.cell? ⟨b, 1, none⟩ = some (.int .i64 1) ∧ w'.cell? ⟨b, 2, none⟩ = some (.int .i64 2) ∧ w'.cell? ⟨b, 3, none⟩ = some (.int .i64 3) ∧ w'.cell? ⟨b, 4, none⟩ = some (.int .i64 (3 + x.b)) ∧ w'.cell? ⟨b, 5, none⟩ = some (.int .i64 (3 + x.b + 3 * x.a))) ∧ w'.cell? ⟨b, 19, none⟩ = some (.int .u64 y)) := fun w' k => ⟨k.plan rfl rfl, (k.cell 19).trans rfl⟩
  have HW1 := Lib.hid hw1
  clear h H1 f1 f2 f3 f4 hE hl hws hw1
  generalize 3 + x.b + 3 * x.a = p5 at *
  generalize 3 + x.b = p4 at *
  go_enter Tryz.func226, Tryz.ntmps226
  go_wp2_with (go_at_call 228; refine HN.out.mono ?_; rintro e u1 ⟨rfl, hw⟩; subst u1; clear HN)
  rw [← HW1.out]
  clear HW1
  refine wp_region_seq (fun u => (u.cell? ⟨b, 0, none⟩ = some (.int .i64 0) ∧ u.cell? ⟨b, 1, none⟩ = some (.int .i64 1) ∧ u.cell? ⟨b, 2, none⟩ = some (.int .i64 2) ∧ u.cell? ⟨b, 3, none⟩ = some (.int .i64 3) ∧ u.cell? ⟨b, 4, none⟩ = some (.int .i64 p4) ∧ u.cell? ⟨b, 5, none⟩ = some (.int .i64 p5)) ∧ u.cell? ⟨b, 19, none⟩ = some (.int .u64 y) )  ((0, true) :: (1, true) :: (2, true) :: (3, true) :: (4, true) :: (5, true) :: (6, true) :: (7, true) :: (8, true) :: (9, false) :: [])  Md.Cv.follows13 (by kernel_rfl) (fun _ _ _ _ _ h => h)  ⟨⟨h0, h1, h2, h3, h4, h5⟩, e19⟩ ?_
  (repeat ((first | (refine wpSeq_take (v := ?_) rfl (by rfl) (fun wq hSq => ?_) ?_; rotate_left; (focus ((try dsimp only at hSq); go_simp; try with_reducible rfl))) | refine wpSeq_skip rfl (by rfl) ?_); simp only [Act.put, List.setIfInBounds_toArray, List.set_cons_zero, List.set_cons_succ]))
  (refine wpSeq_do rfl (by rfl) (fun KK hK => ?_); go_simp)
  refine HD.out.mono ?_
  rintro e w2 ⟨rfl, k1, k2⟩
  have HQ := Lib.hid (HM.out _ k1 k2)
  have lb := HQ.out.ltB
  clear k1 k2 HD HM
  refine hK.out _ _ (HPL.out _ HQ.out) ?_
  (clear hK KK; try simp only [Act.put, List.setIfInBounds_toArray, List.set_cons_zero, List.set_cons_succ])
  refine wpSeq_nil ?_
  go_wp2_with (go_at_call 69; refine (HT.out _ HQ.out).mono ?_; rintro e w3 ⟨rfl, k⟩; have HR := Lib.hid k; clear k HT)
  go_end0
  exact ⟨rfl, HR.out⟩
set_option maxRecDepth 100000 in
set_option maxHeartbeats 1000000 in
theorem pass_any (h : Mid W G0 b z mb mg w x v ws true n) (hl : 1 < (ws.length : Int)) : Calls Tryz.prog 186 #[.pointer (some ⟨b, 0, none⟩), .pointer (some ⟨mb, 0, none⟩)] w fun e w' => e = .returned (.tuple #[]) ∧ Mid W G0 b z mb mg w' { x with part := 9 } { v with nx := .nilFunc } (ws.set 1 (Md.Cv.passV x.tick)) false (up n) := by
  have hE : errA ws true 1 = 0 := errA_of (by omega) hl
  obtain ⟨f1, f2, f3, f4, _⟩ := Md.Cv.ok_facts hE
  have HD := Lib.hid (Md.Ct.pass_any h.drew.mem 0 1 2 3 (3 + x.b) (3 + x.b + 3 * x.a) x.tick)
  unfold Md.Ct.plnV at HD
  obtain ⟨ws', hws⟩ : ∃ ws', ws.set 1 (Md.Cv.passV x.tick) = ws' := ⟨_, rfl⟩
  rw [hE, f1, f2, f3, show ws.set (Int.toNat 1) (Md.Ct.passV x.tick) = ws' from hws] at HD
  rw [hws]
  have HM : Hid (∀ w', MemAt 116 w' mb mg ws' false (up n) → Chg mb mg w.drew w' → Mid W G0 b z mb mg w' x v ws' false (up n)) := fun w' k1 k2 => h.drew.memb k2 k1
  have HT : Hid (∀ w', Mid W G0 b z mb mg w' x v ws' false (up n) → Calls Tryz.prog 69 #[.pointer (some ⟨b, 0, none⟩), .int .i64 9, .nilFunc] w' fun e w' => e = .returned (.tuple #[]) ∧ Mid W G0 b z mb mg w' { x with part := 9 } { v with nx := .nilFunc } ws' false (up n)) := fun w' k => turnTo_nil k 9 rfl
  obtain ⟨h0, h1, h2, h3, h4, h5⟩ := h.plan rfl rfl
  have h13 : w.cell? ⟨b, 13, none⟩ = some (.int .u64 x.tick) := (h.cell 13).trans rfl
  have hb := h.ltB
  have HPL : Hid (∀ w', Mid W G0 b z mb mg w' x v ws' false (up n) → (w'.cell? ⟨b, 0, none⟩ = some (.int .i64 0) ∧ w'.cell? ⟨b, 1, none⟩ = some (.int .i64 1) ∧ w'.cell? ⟨b, 2, none⟩ = some (.int .i64 2) ∧ w'.cell? ⟨b, 3, none⟩ = some (.int .i64 3) ∧ w'.cell? ⟨b, 4, none⟩ = some (.int .i64 (3 + x.b)) ∧ w'.cell? ⟨b, 5, none⟩ = some (.int .i64 (3 + x.b + 3 * x.a))) ∧ w'.cell? ⟨b, 13, none⟩ = some (.int .u64 x.tick)) := fun w' k => ⟨k.plan rfl rfl, (k.cell 13).trans rfl⟩
  clear h f1 f2 f3 f4 hE hl hws
  generalize 3 + x.b + 3 * x.a = p5 at *
  generalize 3 + x.b = p4 at *
  go_enter Tryz.func186, Tryz.ntmps186
  go_wp2_with fail
  refine wp_region_seq (fun u => (u.cell? ⟨b, 0, none⟩ = some (.int .i64 0) ∧ u.cell? ⟨b, 1, none⟩ = some (.int .i64 1) ∧ u.cell? ⟨b, 2, none⟩ = some (.int .i64 2) ∧ u.cell? ⟨b, 3, none⟩ = some (.int .i64 3) ∧ u.cell? ⟨b, 4, none⟩ = some (.int .i64 p4) ∧ u.cell? ⟨b, 5, none⟩ = some (.int .i64 p5)) ∧ u.cell? ⟨b, 13, none⟩ = some (.int .u64 x.tick) )  ((0, true) :: (1, true) :: (2, true) :: (3, true) :: (4, true) :: (5, true) :: (6, true) :: (7, true) :: (8, true) :: (9, false) :: [])  Md.Cv.follows13 (by kernel_rfl) (fun _ _ _ _ _ h => h)  ⟨⟨h0, h1, h2, h3, h4, h5⟩, h13⟩ ?_
  (repeat ((first | (refine wpSeq_take (v := ?_) rfl (by rfl) (fun wq hSq => ?_) ?_; rotate_left; (focus ((try dsimp only at hSq); go_simp; try with_reducible rfl))) | refine wpSeq_skip rfl (by rfl) ?_); simp only [Act.put, List.setIfInBounds_toArray, List.set_cons_zero, List.set_cons_succ]))
  (refine wpSeq_do rfl (by rfl) (fun KK hK => ?_); go_simp)
  refine HD.out.mono ?_
  rintro e w1 ⟨rfl, k1, k2⟩
  have HQ := Lib.hid (HM.out _ k1 k2)
  have lb := HQ.out.ltB
  clear k1 k2 HD HM
  refine hK.out _ _ (HPL.out _ HQ.out) ?_
  (clear hK KK; try simp only [Act.put, List.setIfInBounds_toArray, List.set_cons_zero, List.set_cons_succ])
  refine wpSeq_nil ?_
  go_wp2_with (go_at_call 69; refine (HT.out _ HQ.out).mono ?_; rintro e w2 ⟨rfl, k⟩; have HR := Lib.hid k; clear k HT)
  go_end0
  exact ⟨rfl, HR.out⟩
end
end Go.Proofs.YteinilmecnlanaaGreatDoor.Ww
namespace Go.Proofs.YteinilmecnlanaaGreatDoor
open Go.ChangeShapes Go.WideShapes Go.ChangeAt Go.RowKit Num
attribute [local go_sem] run_store_float
theorem row_at {w : World} {p : Option Addr} {c n : Nat} {l : List Nat} (h : RowAt 73 w p c (fls l)) (hn : l.length = n) (i : Nat) (hi : i < n) : ∃ g, p = some ⟨g, 0, none⟩ ∧ g < w.heap.size ∧ w.cell? ⟨g, i, none⟩ = some (.float .f64 (l.getD i 0)) := by
  rcases h.own.2 with ⟨hv, _⟩ | ⟨g, cap, cur, hv, _⟩
  · injection hv with _ h2 _
    rw [fls_len] at h2
    omega
  · injection hv with h1 _ _
    subst h1
    obtain ⟨r1, _, r2⟩ := row_get h (j := i) (v := .float .f64 (l.getD i 0)) (by simp [fls, show i < l.length by omega])
    exact ⟨g, rfl, r2, r1⟩
theorem trow_at {w : World} {p : Option Addr} {c n : Nat} {l : Wr} (h : TRow w p c l) (hn : l.length = n) (i : Nat) (hi : i < n) : ∃ g, p = some ⟨g, 0, none⟩ ∧ g < w.heap.size ∧ w.cell? ⟨g, i * 2, none⟩ = some (.int .i64 (l.getD i (0, 0)).1) ∧ w.cell? ⟨g, i * 2 + 1, none⟩ = some (.float .f64 (l.getD i (0, 0)).2) := by
  obtain ⟨g, r1, r2, r3, r4, _⟩ := h.at i (by omega)
  rw [show l.getD i (0, 0) = l[i]'(by omega) by simp [show i < l.length by omega]]
  exact ⟨g, r1, r2, r3, r4⟩
end Go.Proofs.YteinilmecnlanaaGreatDoor
namespace Go.Proofs.YteinilmecnlanaaGreatDoor
open Go.ChangeShapes Go.WideShapes Go.ChangeAt Go.RowKit Num
section
variable {P : Program} {w : World}
theorem wp_append_ex {o : Oper} {a : Act} {K : Act → World → Prop} {Q : Exit → Act → World → Prop} (s x : Operand) (t tx : TypeId)
    (ho : o.op = .call { callee := .builtin .append, args := #[s, x], argTypes := #[t, tx] }) (vs vx : Value) (hs : a.eval s = vs) (hx : a.eval x = vx) {R : Value → World → Prop}
    (hr : ∃ v w', (Builtin.append_ #[t, tx] o.type #[vs, vx]).run P w = .ok v w' ∧ R v w') (h : ∀ v w', R v w' → K (a.put o.dst v) w') : o.wp P a w K Q := by
  obtain ⟨v, w', hr, hR⟩ := hr
  unfold Oper.wp execOp
  simp only [ho, resolve, invoke, builtin, Sem.run_bind, Sem.run_pure, Result.andThen_ok, List.map_toArray, List.map_cons, List.map_nil, hs, hx, hr]
  exact h v w' hR
theorem wpList_append_ex {ops : Array Oper} {rest : List Oper} {o : Oper} {a : Act} {Q : Exit → Act → World → Prop} (hgd : o.guard = none) (s x : Operand) (t tx : TypeId)
    (ho : o.op = .call { callee := .builtin .append, args := #[s, x], argTypes := #[t, tx] }) (vs vx : Value) (hs : a.eval s = vs) (hx : a.eval x = vx) {R : Value → World → Prop}
    (hr : ∃ v w', (Builtin.append_ #[t, tx] o.type #[vs, vx]).run P w = .ok v w' ∧ R v w') (h : ∀ v w', R v w' → wpList P ops Q rest (a.put o.dst v) w') : wpList P ops Q (o :: rest) a w :=
  wpList_plain hgd fun _ hK => wp_append_ex s x t tx ho vs vx hs hx hr fun v w' hR => hK _ _ (h v w' hR)
end
def Ro (w : World) (p : Option Addr) (vs : List Value) : Prop := (p = none ∧ vs = []) ∨ ∃ g o, p = some ⟨g, o, none⟩ ∧ w.rangeAt g o vs
theorem Ro.keep {w w' : World} {p : Option Addr} {vs : List Value} (h : Ro w p vs) (k : Kept (fpR p) w w') : Ro w' p vs := by
  rcases h with h | ⟨g, o, rfl, h⟩
  · exact .inl h
  · exact .inr ⟨g, o, rfl, fun j v hv => (World.cell?_of_block (a := ⟨g, o + j, none⟩) (k.2 g (by simp [fpR]))).trans (h j v hv)⟩
theorem Ro.get {w : World} {p : Option Addr} {vs : List Value} (h : Ro w p vs) {j : Nat} {v : Value} (hv : vs[j]? = some v) : ∃ g o, p = some ⟨g, o, none⟩ ∧ w.cell? ⟨g, o + j, none⟩ = some v ∧ g < w.heap.size := by
  rcases h with ⟨_, rfl⟩ | ⟨g, o, rfl, h⟩
  · simp at hv
  · exact ⟨g, o, rfl, h j v hv, World.block_lt_of_cell? w _ (h j v hv)⟩
theorem Ro.nil (w : World) : Ro w none [] := .inl ⟨rfl, rfl⟩
def Rp.rows (q : Rp) : List (Option Addr) := [q.pa, q.ps, q.pc, q.pt, q.pr, q.pb]
def Fr (br : Nat) (q : Rp) : List Nat := br :: q.bl :: q.rows.flatMap fpR
def fpK (q : Rp) (cs : List Ins) : List Nat := if cs = [] then [] else fpR q.pk
theorem CodeAt.keepK {w w' : World} {q : Rp} {cs : List Ins} (h : CodeAt w q.pk cs) (k : Kept (fpK q cs) w w') : CodeAt w' q.pk cs := by
  by_cases e : cs = []
  · subst e
    exact fun j hj => absurd hj (by simp)
  · unfold fpK at k
    rw [if_neg e] at k
    exact h.keep k
structure RefAt (w : World) (br : Nat) (q : Rp) (m : Mac) (cs : List Ins) : Prop where
  box : w.heap[br]? = some (rbO m q)
  loc : RowAt 73 w (some ⟨q.bl, 0, none⟩) q.cl (fls (eight m.loc))
  arg : Ro w q.pa (fls (eight m.args))
  st : Ro w q.ps (fls m.st.reverse)
  cal : Ro w q.pc (i64s m.calls.reverse)
  out : Ro w q.pt (fls m.out)
  rds : Ro w q.pr (m.reads.flatMap tchC)
  buf : Ro w q.pb (m.buf.flatMap tchC)
  cod : CodeAt w q.pk cs
  na : q.na = 8
  nk : q.nk = cs.length
  bad : (q.bad = false ∧ m.code = cs) ∨ (q.bad = true ∧ m.code = [])
  tag : m.upd = (q.tg == 2)
  zc : m.how = 0 → m.cod = 0
  ne : br ≠ q.bl
  ap : ∀ p ∈ q.rows, br ∉ fpR p ∧ q.bl ∉ fpR p
  apk : br ∉ fpK q cs ∧ q.bl ∉ fpK q cs
  lt : Blw w (Fr br q)
  ltk : Blw w (fpK q cs)
  c1 : m.st.length ≤ q.cs
  c2 : m.calls.length ≤ q.cc
  c3 : m.out.length ≤ q.ct
  c4 : m.reads.length ≤ q.cr
  c5 : m.buf.length ≤ q.cb
  nd : (cellsOfL m.buf).Nodup
section
variable {w w' : World} {br : Nat} {q : Rp} {m : Mac} {cs : List Ins}
theorem in_fr {p : Option Addr} (hp : p ∈ q.rows) {x : Nat} (hx : x ∈ fpR p) : x ∈ Fr br q := List.mem_cons_of_mem _ (List.mem_cons_of_mem _ (List.mem_flatMap.2 ⟨p, hp, hx⟩))
theorem RefAt.keep (h : RefAt w br q m cs) (k : Kept (Fr br q) w w') (k2 : Kept (fpK q cs) w w') : RefAt w' br q m cs := by
  have kk : ∀ p ∈ q.rows, Kept (fpR p) w w' := fun p hp => ⟨k.1, fun i hi => k.2 i (in_fr hp hi)⟩
  exact { h with
    box := (k.2 br (by simp [Fr])).trans h.box
    loc := h.loc.keep ⟨k.1, fun i hi => k.2 i (by simp [fpR] at hi; subst hi; simp [Fr])⟩
    arg := h.arg.keep (kk _ (by simp [Rp.rows]))
    st := h.st.keep (kk _ (by simp [Rp.rows]))
    cal := h.cal.keep (kk _ (by simp [Rp.rows]))
    out := h.out.keep (kk _ (by simp [Rp.rows]))
    rds := h.rds.keep (kk _ (by simp [Rp.rows]))
    buf := h.buf.keep (kk _ (by simp [Rp.rows]))
    cod := h.cod.keepK k2
    lt := fun x hx => Nat.lt_of_lt_of_le (h.lt x hx) k.1
    ltk := fun x hx => Nat.lt_of_lt_of_le (h.ltk x hx) k.1 }
theorem RefAt.on (h : RefAt w br q m cs) (k : Below w.heap.size w w') : RefAt w' br q m cs := h.keep (kept_below k h.lt) (kept_below k h.ltk)
end
end Go.Proofs.YteinilmecnlanaaGreatDoor
namespace Go.Proofs.YteinilmecnlanaaGreatDoor
open Go.ChangeShapes Go.WideShapes Go.ChangeAt Go.RowKit Num
attribute [local go_sem] run_store_float
end Go.Proofs.YteinilmecnlanaaGreatDoor
namespace Go.Proofs.YteinilmecnlanaaGreatDoor
open Go.ChangeShapes Go.WideShapes Go.ChangeAt Go.RowKit Num
attribute [local go_sem] run_store_float
end Go.Proofs.YteinilmecnlanaaGreatDoor
namespace Go.Proofs.YteinilmecnlanaaGreatDoor
open Go.ChangeShapes Go.WideShapes Go.ChangeAt Go.RowKit Num
attribute [local go_sem] run_store_float
end Go.Proofs.YteinilmecnlanaaGreatDoor
namespace Go.Proofs.YteinilmecnlanaaGreatDoor
open Go.ChangeShapes Go.WideShapes Go.ChangeAt Go.RowKit Num
attribute [local go_sem] run_store_float
end Go.Proofs.YteinilmecnlanaaGreatDoor
namespace Go.Proofs.YteinilmecnlanaaGreatDoor
open Go.ChangeShapes Go.WideShapes Go.ChangeAt Go.RowKit Num
attribute [local go_sem] run_store_float
end Go.Proofs.YteinilmecnlanaaGreatDoor
namespace Go.Proofs.YteinilmecnlanaaGreatDoor
open Go.ChangeShapes Go.WideShapes Go.ChangeAt Go.RowKit Num
attribute [local go_sem] run_store_float
end Go.Proofs.YteinilmecnlanaaGreatDoor
namespace Go.Proofs.YteinilmecnlanaaGreatDoor
open Go.ChangeShapes Go.WideShapes Go.ChangeAt Go.RowKit Num
attribute [local go_sem] run_store_float
end Go.Proofs.YteinilmecnlanaaGreatDoor
namespace Go.Proofs.YteinilmecnlanaaGreatDoor
open Go.ChangeShapes Go.WideShapes Go.ChangeAt Go.RowKit Num
attribute [local go_sem] run_store_float
end Go.Proofs.YteinilmecnlanaaGreatDoor
namespace Go.Proofs.YteinilmecnlanaaGreatDoor
open Go.ChangeShapes Go.WideShapes Go.ChangeAt Go.RowKit Num
attribute [local go_sem] run_store_float
end Go.Proofs.YteinilmecnlanaaGreatDoor
namespace Go.Proofs.YteinilmecnlanaaGreatDoor
open Go.ChangeShapes Go.WideShapes Go.ChangeAt Go.RowKit Num
attribute [local go_sem] run_store_float
end Go.Proofs.YteinilmecnlanaaGreatDoor
namespace Go.Proofs.YteinilmecnlanaaGreatDoor
open Go.ChangeShapes Go.WideShapes Go.ChangeAt Go.RowKit Num
attribute [local go_sem] run_store_float
end Go.Proofs.YteinilmecnlanaaGreatDoor
namespace Go.Proofs.YteinilmecnlanaaGreatDoor
open Go.ChangeShapes Go.WideShapes Go.ChangeAt Go.RowKit Num
attribute [local go_sem] run_store_float
end Go.Proofs.YteinilmecnlanaaGreatDoor
namespace Go.Proofs.YteinilmecnlanaaGreatDoor
open Go.ChangeShapes Go.WideShapes Go.ChangeAt Go.RowKit Num
attribute [local go_sem] run_store_float
end Go.Proofs.YteinilmecnlanaaGreatDoor
namespace Go.Proofs.YteinilmecnlanaaGreatDoor
open Go.ChangeShapes Go.WideShapes Go.ChangeAt Go.RowKit Num
attribute [local go_sem] run_store_float
end Go.Proofs.YteinilmecnlanaaGreatDoor
namespace Go.Proofs.YteinilmecnlanaaGreatDoor
open Go.ChangeShapes Go.WideShapes Go.ChangeAt Go.RowKit Num
attribute [local go_sem] run_store_float
end Go.Proofs.YteinilmecnlanaaGreatDoor
namespace Go.Proofs.YteinilmecnlanaaGreatDoor
open Go.ChangeShapes Go.WideShapes Go.ChangeAt Go.RowKit Num
attribute [local go_sem] run_store_float
end Go.Proofs.YteinilmecnlanaaGreatDoor
namespace Go.Proofs.YteinilmecnlanaaGreatDoor
open Go.ChangeShapes Go.WideShapes Go.ChangeAt Go.RowKit Num
end Go.Proofs.YteinilmecnlanaaGreatDoor
namespace Go.Proofs.YteinilmecnlanaaGreatDoor
open Go.ChangeShapes Go.WideShapes Go.ChangeAt Go.RowKit Num
attribute [local go_sem] run_store_float
def TlAt (w : World) (p : Option Addr) (l : Wr) : Prop := ∀ k, k < l.length → ∃ g o, p = some ⟨g, o, none⟩ ∧ g < w.heap.size ∧ w.cell? ⟨g, o + k * 2, none⟩ = some (.int .i64 (l.getD k (0, 0)).1) ∧ w.cell? ⟨g, o + k * 2 + 1, none⟩ = some (.float .f64 (l.getD k (0, 0)).2)
theorem Ro.fl {w : World} {p : Option Addr} {l : List Nat} (h : Ro w p (fls l)) : FlAt w p l := fun k hk => by
  obtain ⟨g, o, e, c, hg⟩ := h.get (j := k) (v := .float .f64 (l.getD k 0)) (by unfold fls; rw [List.getElem?_map, List.getD_eq_getElem?_getD, List.getElem?_eq_getElem hk]; rfl)
  exact ⟨g, o, e, hg, c⟩
theorem RowAt.fl {w : World} {p : Option Addr} {c : Nat} {l : List Nat} (h : RowAt 73 w p c (fls l)) : FlAt w p l := fun k hk => by
  obtain ⟨g, e, hg, c⟩ := row_at h rfl k hk
  exact ⟨g, 0, e, hg, by rw [Nat.zero_add]; exact c⟩
theorem TRow.tl {w : World} {p : Option Addr} {c : Nat} {l : Wr} (h : TRow w p c l) : TlAt w p l := fun k hk => by
  obtain ⟨g, e, hg, c0, c1⟩ := trow_at h rfl k hk
  exact ⟨g, 0, e, hg, by rw [Nat.zero_add]; exact c0, by rw [Nat.zero_add]; exact c1⟩
theorem TlAt.on {w w' : World} {p : Option Addr} {l : Wr} (h : TlAt w p l) (hb : Below w.heap.size w w') : TlAt w' p l := fun k hk => by
  obtain ⟨g, o, e, hlt, c0, c1⟩ := h k hk
  exact ⟨g, o, e, Nat.lt_of_lt_of_le hlt hb.size, (hb.cell (p := ⟨g, o + k * 2, none⟩) hlt).trans c0, (hb.cell (p := ⟨g, o + k * 2 + 1, none⟩) hlt).trans c1⟩
end Go.Proofs.YteinilmecnlanaaGreatDoor
namespace Go.Proofs.YteinilmecnlanaaGreatDoor
open Go.ChangeShapes Go.WideShapes Go.ChangeAt Go.RowKit Num
attribute [local go_sem] run_store_float
end Go.Proofs.YteinilmecnlanaaGreatDoor
namespace Go.Proofs.YteinilmecnlanaaGreatDoor
open Go.ChangeShapes Go.WideShapes Go.ChangeAt Go.RowKit Num
attribute [local go_sem] run_store_float
end Go.Proofs.YteinilmecnlanaaGreatDoor
namespace Go.Proofs.YteinilmecnlanaaGreatDoor
open Go.ChangeShapes Go.WideShapes Go.ChangeAt Go.RowKit Num
theorem RowAt.ro {E : TypeId} {w : World} {p : Option Addr} {c : Nat} {xs : List Value} (h : RowAt E w p c xs) : Ro w p xs := by
  rcases h.own.2 with ⟨q, hn⟩ | ⟨g, cap, cur, hv, _, hg, _, _, hsz, hx⟩
  · exact .inl ⟨(Value.slice.inj q).1, List.length_eq_zero_iff.1 hn⟩
  · refine .inr ⟨g, 0, (Value.slice.inj hv).1, fun j v hv => ?_⟩
    rw [← hx, List.getElem?_take] at hv
    split at hv
    · show w.cell? ⟨g, 0 + j, none⟩ = some v
      rw [Nat.zero_add, cell_of_row w g j _ _ _ hg]
      simpa using hv
    · cases hv
theorem loc_row {w : World} {b : Nat} (h : w.heap[b]? = some locO) : RowAt 73 w (some ⟨b, 0, none⟩) 8 (fls (eight fun _ => 0)) :=
  ⟨⟨rfl, .inr ⟨b, 8, _, rfl, Nat.zero_le _, h, Nat.le_refl _, by unfold maxLen; omega, rfl, rfl⟩⟩⟩
theorem fpK_blw {w : World} {q : Rp} {cs : List Ins} (h : CodeAt w q.pk cs) : Blw w (fpK q cs) := fun x hx => by
  unfold fpK at hx
  split at hx
  · cases hx
  · obtain ⟨a, ha, rfl⟩ := mem_fpR.1 hx
    obtain ⟨g, o, e, hlt, _⟩ := h 0 (List.length_pos_iff.2 (by assumption))
    rw [ha] at e
    cases e
    exact hlt
theorem RNew.ref {N w wr : World} {a b c e t : Int} {ao : Option Addr} {n cap : Nat} {l : List Nat} {br bl ca : Nat} {pa : Option Addr} {cs : List Ins} (h : RNew w wr (newM a c e t cs l) { rq0 b t ao n cap (!checkB t cs) bl with pa := pa, na := 8, ca := ca } br (eight (argF l))) (hN : Below N.heap.size N w) (hC : CodeAt N ao cs) (hn : cs.length = n) : RefAt wr br { rq0 b t ao n cap (!checkB t cs) bl with pa := pa, na := 8, ca := ca } (newM a c e t cs l) cs := by
  have hk : Blw N (fpK { rq0 b t ao n cap (!checkB t cs) bl with pa := pa, na := 8, ca := ca } cs) := fpK_blw hC
  have hs := hN.size
  exact {
    box := h.box
    loc := loc_row h.loc
    arg := h.row.ro
    st := Ro.nil _
    cal := Ro.nil _
    out := Ro.nil _
    rds := Ro.nil _
    buf := Ro.nil _
    cod := (hC.on hN).on h.bl
    na := rfl
    nk := hn.symm
    bad := by
      by_cases q : checkB t cs = true
      · exact .inl ⟨by simp [rq0, q], by simp [newM, q]⟩
      · exact .inr ⟨by simp [rq0, q], by simp [newM, q]⟩
    tag := rfl
    zc := fun _ => rfl
    ne := h.ne
    ap := fun p hp => by
      simp only [Rp.rows, rq0, List.mem_cons, List.not_mem_nil, or_false] at hp
      rcases hp with rfl | rfl | rfl | rfl | rfl | rfl
      · exact ⟨h.n1, h.n2⟩
      all_goals exact ⟨by simp [fpR], by simp [fpR]⟩
    apk := ⟨fun x => absurd (hk _ x) (Nat.not_lt.2 (Nat.le_trans hs h.a1)), fun x => absurd (hk _ x) (Nat.not_lt.2 (Nat.le_trans hs h.a2))⟩
    lt := fun x hx => by
      simp only [Fr, Rp.rows, rq0, List.flatMap_cons, List.flatMap_nil, List.mem_cons, List.mem_append] at hx
      rcases hx with rfl | rfl | hx
      · exact lt_of_block h.box
      · exact lt_of_block h.loc
      · exact h.row.blw x (by simpa [fpR] using hx)
    ltk := fun x hx => Nat.lt_of_lt_of_le (hk x hx) (Nat.le_trans hs h.bl.size)
    c1 := Nat.le_refl _
    c2 := Nat.le_refl _
    c3 := Nat.le_refl _
    c4 := Nat.le_refl _
    c5 := Nat.le_refl _
    nd := List.nodup_nil }
theorem RNew.abv {w wr : World} {b t : Int} {ao : Option Addr} {n cap : Nat} {l : List Nat} {br bl ca : Nat} {pa : Option Addr} {m : Mac} {bad : Bool} (h : RNew w wr m { rq0 b t ao n cap bad bl with pa := pa, na := 8, ca := ca } br l) : Abv w.heap.size (Fr br { rq0 b t ao n cap bad bl with pa := pa, na := 8, ca := ca }) := fun x hx => by
  simp only [Fr, Rp.rows, rq0, List.flatMap_cons, List.flatMap_nil, List.mem_cons, List.mem_append] at hx
  rcases hx with rfl | rfl | hx
  · exact h.a1
  · exact h.a2
  · exact h.a3 x (by simpa [fpR] using hx)
end Go.Proofs.YteinilmecnlanaaGreatDoor
namespace Go.Proofs.YteinilmecnlanaaGreatDoor
open Go.ChangeShapes Go.WideShapes Go.ChangeAt Go.RowKit Num
attribute [local go_sem] run_store_float
def insC (i : Ins) : List Value := [.int .i64 i.op, .int .i64 i.n, .float .f64 i.x]
theorem flat_at {α : Type} (f : α → List Value) (s : Nat) (hf : ∀ a, (f a).length = s) : ∀ (n : Nat) (l : List α) (m : α), l[n]? = some m → ∀ j, j < s → (l.flatMap f)[n * s + j]? = (f m)[j]?
  | 0, l, m, hm, j, hj => by
    cases l with
    | nil => simp at hm
    | cons a t =>
      simp at hm
      subst hm
      rw [List.flatMap_cons, Nat.zero_mul, Nat.zero_add, List.getElem?_append_left (by rw [hf]; exact hj)]
  | n + 1, l, m, hm, j, hj => by
    cases l with
    | nil => simp at hm
    | cons a t =>
      rw [List.flatMap_cons, List.getElem?_append_right (by rw [hf, Nat.add_mul]; omega)]
      have e : (n + 1) * s + j - (f a).length = n * s + j := by rw [hf, Nat.add_mul]; omega
      rw [e]
      exact flat_at f s hf n t m (by simpa using hm) j hj
theorem insC_len (c : List Ins) : (c.flatMap insC).length = c.length * 3 := by
  induction c with
  | nil => rfl
  | cons i c ih => rw [List.flatMap_cons, List.length_append, ih]; simp [insC]; omega
theorem insC_one (c : List Ins) : ∀ u ∈ c.flatMap insC, u.oneCell' = true := by
  intro u hu
  obtain ⟨i, _, h⟩ := List.mem_flatMap.1 hu
  simp [insC] at h
  rcases h with rfl | rfl | rfl <;> rfl
theorem codeAt_range {w : World} {g off : Nat} {c : List Ins} (hg : g < w.heap.size) (h : w.rangeAt g off (c.flatMap insC)) : CodeAt w (some ⟨g, off, none⟩) c := fun k hk => by
  have e : ∀ j, j < 3 → w.cell? ⟨g, off + (k * 3 + j), none⟩ = (insC (ci c k))[j]? := fun j hj => by
    have h2 := flat_at insC 3 (fun _ => rfl) k c (ci c k) (ci_lt hk) j hj
    cases hq : (insC (ci c k))[j]? with
    | none =>
      rw [List.getElem?_eq_none_iff] at hq
      simp [insC] at hq
      omega
    | some v => exact h _ _ (h2.trans hq)
  exact ⟨g, off, rfl, hg, e 0 (by decide), e 1 (by decide), e 2 (by decide)⟩
theorem range_codeAt {w : World} {b off : Nat} {c : List Ins} (h : CodeAt w (some ⟨b, off, none⟩) c) : w.rangeAt b off (c.flatMap insC) := fun j v hv => by
  have hj : j < c.length * 3 := by
    have := (List.getElem?_eq_some_iff.1 hv).1
    rwa [insC_len] at this
  have hk : j / 3 < c.length := by omega
  obtain ⟨b', off', e, _, c0, c1, c2⟩ := h (j / 3) hk
  cases e
  have hr : j % 3 < 3 := Nat.mod_lt _ (by decide)
  have e2 := flat_at insC 3 (fun _ => rfl) (j / 3) c (ci c (j / 3)) (ci_lt hk) (j % 3) hr
  rw [show j / 3 * 3 + j % 3 = j by omega, hv] at e2
  have h3 : j % 3 = 0 ∨ j % 3 = 1 ∨ j % 3 = 2 := by omega
  rcases h3 with q | q | q
  · rw [show off + j = off + j / 3 * 3 by omega, c0, e2, q]; rfl
  · rw [show off + j = off + j / 3 * 3 + 1 by omega, c1, e2, q]; rfl
  · rw [show off + j = off + j / 3 * 3 + 2 by omega, c2, e2, q]; rfl
theorem src_code {w : World} {ao : Option Addr} {c : List Ins} (cap : Nat) (h : CodeAt w ao c) : Src Tryz.prog 3 24 (.slice ao c.length cap) c.length (c.flatMap insC) w := by
  cases ao with
  | none =>
    cases c with
    | nil => exact Src.ofNil w Tryz.underlying24 cap
    | cons i c =>
      obtain ⟨b, off, e, _⟩ := h 0 (by simp)
      cases e
  | some a =>
    refine Src.ofSlice w Tryz.underlying24 a c.length cap _ (insC_len c) (fun j u hu => ?_) (insC_one c)
    cases c with
    | nil => simp at hu
    | cons i c =>
      obtain ⟨b, off, e, _⟩ := h 0 (by simp)
      cases e
      rw [Addr.add_mid]
      exact range_codeAt h j u hu
theorem fls_get {l : List Nat} {j : Nat} (hj : j < l.length) : (fls l)[j]? = some (.float .f64 (l.getD j 0)) := by
  unfold fls
  rw [List.getElem?_map, List.getElem?_eq_getElem hj, List.getD_eq_getElem?_getD, List.getElem?_eq_getElem hj]
  rfl
theorem src_fl {w : World} {po : Option Addr} {l : List Nat} (co : Nat) (h : FlAt w po l) : Src Tryz.prog 1 27 (.slice po l.length co) l.length (fls l) w := by
  cases po with
  | none =>
    cases l with
    | nil => exact Src.ofNil w Tryz.underlying27 co
    | cons i c =>
      obtain ⟨b, off, e, _⟩ := h 0 (by simp)
      cases e
  | some a =>
    refine Src.ofSlice w Tryz.underlying27 a l.length co _ (by rw [fls_len, Nat.mul_one]) (fun j u hu => ?_) (fls_one l)
    have hj : j < l.length := by
      have := (List.getElem?_eq_some_iff.1 hu).1
      rwa [fls_len] at this
    obtain ⟨b, off, e, _, c⟩ := h j hj
    cases e
    rw [Addr.add_mid, c, ← hu, fls_get hj]
end Go.Proofs.YteinilmecnlanaaGreatDoor
namespace Go.Proofs.YteinilmecnlanaaGreatDoor.Ww
open Go.ChangeShapes Go.WideShapes Go.ChangeAt Go.RowKit Num Rr
attribute [local go_sem] run_store_float Md.Ce.run_store_func Md.Ce.run_store_nilFunc
theorem end_how (a b c : Int) (w : World) : (Instr.field 59 (.agg #[.int .i64 a, .int .i64 b, .int .i64 c]) 0).run Tryz.prog w = .ok (.int .i64 a) w := by kernel_rfl
attribute [local go_sem] end_how
section
variable {W w : World} {G0 : List Nat} {b mb mg : Nat} {x : Wx} {z : Wz} {v : Wv} {ws : List Int} {o : Bool} {n : Int}
set_option maxRecDepth 100000 in
set_option maxHeartbeats 1000000 in
theorem load_any (h : Mid W G0 b z mb mg w x v ws true n) (ha : 1 ≤ x.a ∧ x.a ≤ 256) (hb8 : 1 ≤ x.b ∧ x.b ≤ 8) (hl : plY x ≤ (ws.length : Int)) {c : Int} (h0 : 0 ≤ c) (h1 : c < x.a) {y : Nat} (hy : nowN x ws c = y) : Calls Tryz.prog 172 #[.pointer (some ⟨b, 0, none⟩), .pointer (some ⟨mb, 0, none⟩), .int .i64 c] w fun e w' => e = .returned (.float .f64 y) ∧ Mid W G0 b z mb mg w' x v ws false (up n) ∧ Chg mb mg w w' := by
  obtain ⟨f1, f2, f3, f4⟩ := now_rel ha hb8 hl h0 h1 n
  have HD := Lib.hid (Md.Ce.cnow_any h.mem 0 1 2 3 (3 + x.b) (3 + x.b + 3 * x.a) c)
  unfold Md.Ce.planV at HD
  rw [f2, f3, f4, f1, hy] at HD
  have HM : Hid (∀ w', MemAt 116 w' mb mg ws false (up n) → Chg mb mg w w' → Mid W G0 b z mb mg w' x v ws false (up n) ∧ Chg mb mg w w') := fun w' k1 k2 => ⟨h.memb k2 k1, k2⟩
  obtain ⟨h0, h1, h2, h3, h4, h5⟩ := h.plan rfl rfl
  have hb := h.ltB
  clear h f1 f2 f3 f4 hl ha hb8 hy
  generalize 3 + x.b + 3 * x.a = p5 at *
  generalize 3 + x.b = p4 at *
  go_enter Tryz.func172, Tryz.ntmps172
  go_wp2_with (go_at_call 185; refine HD.out.mono ?_; rintro e w1 ⟨rfl, k1, k2⟩; have HQ := Lib.hid (HM.out _ k1 k2); clear k1 k2 HD HM)
  go_ret
  exact ⟨rfl, HQ.out⟩
set_option maxRecDepth 100000 in
theorem wend_no (h : Mid W G0 b z mb mg w x v ws o n) (hh : (x.m.how != 1) = true) : Calls Tryz.prog 173 #[.pointer (some ⟨b, 0, none⟩)] w fun e w' => e = .returned (.tuple #[]) ∧ Mid W G0 b z mb mg w' { x with part := 8 } { v with nx := fnV 186 } ws o n := by
  have HE : Hid (Calls Tryz.prog 49 #[.pointer (some ⟨z.bm, 0, none⟩)] w fun e w' => e = .returned (.agg #[.int .i64 x.m.how, .int .i64 x.m.cod, .int .i64 x.m.err]) ∧ Below w.heap.size w w') := Go.Proofs.YteinilmecnlanaaGreatDoor.end_any h.raw.mac.gm
  have HT : Hid (∀ w', Below w.heap.size w w' → Calls Tryz.prog 69 #[.pointer (some ⟨b, 0, none⟩), .int .i64 8, .func (.func 186) #[] #[]] w' fun e w' => e = .returned (.tuple #[]) ∧ Mid W G0 b z mb mg w' { x with part := 8 } { v with nx := fnV 186 } ws o n) := fun w' k => turnTo_fn (h.on k) 8 rfl 186
  have h9 : w.cell? ⟨b, 9, none⟩ = some (.pointer (some ⟨z.bm, 0, none⟩)) := (h.cell 9).trans rfl
  have hb := h.ltB
  clear h
  generalize x.m.how = hw at HE hh
  generalize x.m.cod = cd at HE
  generalize x.m.err = er at HE
  go_enter Tryz.func173, Tryz.ntmps173
  go_wp2_with (first
    | (go_at_call 69; refine (HT.out _ HQ.out).mono ?_; rintro e w2 ⟨rfl, k⟩; have HR := Lib.hid k; clear k HT)
    | (go_at_call 49; refine HE.out.mono ?_; rintro e w1 ⟨rfl, k⟩; have HQ := Lib.hid k; clear k HE))
  refine bodyPost_ret (results_none rfl _ _ _) rfl ?_
  exact ⟨rfl, HR.out⟩
set_option maxRecDepth 100000 in
set_option maxHeartbeats 1000000 in
theorem wend_yes (h : Mid W G0 b z mb mg w x v ws o n) (hh : (x.m.how != 1) = false) : Calls Tryz.prog 173 #[.pointer (some ⟨b, 0, none⟩)] w fun e w' => e = .returned (.tuple #[]) ∧ Hid (∃ i, Mid W G0 b z mb mg w' { x with part := 5 } { v with nx := fnV 188, qs := some i, s := ⟨3, x.b, x.stamp, 0, 0⟩ } ws o n) := by
  have HE : Hid (Calls Tryz.prog 49 #[.pointer (some ⟨z.bm, 0, none⟩)] w fun e w' => e = .returned (.agg #[.int .i64 x.m.how, .int .i64 x.m.cod, .int .i64 x.m.err]) ∧ Below w.heap.size w w') := Go.Proofs.YteinilmecnlanaaGreatDoor.end_any h.raw.mac.gm
  have HM := Lib.hid h
  have HL : Hid (∀ u, Calls Tryz.prog 187 #[.agg #[.int .i64 0, .int .i64 1, .int .i64 2, .int .i64 3, .int .i64 (3 + x.b), .int .i64 (3 + x.b + 3 * x.a)], .int .i64 x.b, .int .u64 x.stamp] u fun e w' => ∃ i, e = .returned (.pointer (some ⟨i, 0, none⟩)) ∧ u.heap.size ≤ i ∧ Md.Cv.ScAt w' i ⟨3, x.b, x.stamp, 0, 0⟩ ∧ Below u.heap.size u w') := fun u => Md.Cv.look_any 0 1 2 3 (3 + x.b) (3 + x.b + 3 * x.a) x.b x.stamp u
  have HT : Hid (∀ i w', Mid W G0 b z mb mg w' x { v with qs := some i, s := ⟨3, x.b, x.stamp, 0, 0⟩ } ws o n → Calls Tryz.prog 69 #[.pointer (some ⟨b, 0, none⟩), .int .i64 5, .func (.func 188) #[] #[]] w' fun e w' => e = .returned (.tuple #[]) ∧ Mid W G0 b z mb mg w' { x with part := 5 } { v with nx := fnV 188, qs := some i, s := ⟨3, x.b, x.stamp, 0, 0⟩ } ws o n) := fun i w' k => turnTo_fn k 5 rfl 188
  have h9 : w.cell? ⟨b, 9, none⟩ = some (.pointer (some ⟨z.bm, 0, none⟩)) := (h.cell 9).trans rfl
  have hb := h.ltB
  have HPL : Hid (∀ w' v', Mid W G0 b z mb mg w' x v' ws o n → (w'.cell? ⟨b, 0, none⟩ = some (.int .i64 0) ∧ w'.cell? ⟨b, 1, none⟩ = some (.int .i64 1) ∧ w'.cell? ⟨b, 2, none⟩ = some (.int .i64 2) ∧ w'.cell? ⟨b, 3, none⟩ = some (.int .i64 3) ∧ w'.cell? ⟨b, 4, none⟩ = some (.int .i64 (3 + x.b)) ∧ w'.cell? ⟨b, 5, none⟩ = some (.int .i64 (3 + x.b + 3 * x.a))) ∧ w'.cell? ⟨b, 6, none⟩ = some (.int .i64 x.b) ∧ w'.cell? ⟨b, 14, none⟩ = some (.int .u64 x.stamp)) := fun w' v' k => ⟨k.plan rfl rfl, (k.cell 6).trans rfl, (k.cell 14).trans rfl⟩
  clear h
  generalize x.m.how = hw at HE hh
  generalize x.m.cod = cd at HE
  generalize x.m.err = er at HE
  generalize 3 + x.b + 3 * x.a = p5 at *
  generalize 3 + x.b = p4 at *
  go_enter Tryz.func173, Tryz.ntmps173
  go_wp2_with (go_at_call 49; refine HE.out.mono ?_; rintro e w1 ⟨rfl, k⟩; have HQ := Lib.hid (HM.out.on k); clear k HE)
  clear h9 hb HM
  obtain ⟨⟨h0, h1, h2, h3, h4, h5⟩, h6, h14⟩ := HPL.out _ _ HQ.out
  have hb := HQ.out.ltB
  refine wp_region_seq (fun u => (u.cell? ⟨b, 0, none⟩ = some (.int .i64 0) ∧ u.cell? ⟨b, 1, none⟩ = some (.int .i64 1) ∧ u.cell? ⟨b, 2, none⟩ = some (.int .i64 2) ∧ u.cell? ⟨b, 3, none⟩ = some (.int .i64 3) ∧ u.cell? ⟨b, 4, none⟩ = some (.int .i64 p4) ∧ u.cell? ⟨b, 5, none⟩ = some (.int .i64 p5)) ∧ u.cell? ⟨b, 6, none⟩ = some (.int .i64 x.b) ∧ u.cell? ⟨b, 14, none⟩ = some (.int .u64 x.stamp) )  ((0, true) :: (1, true) :: (2, true) :: (3, true) :: (4, true) :: (5, true) :: (6, true) :: (7, true) :: (8, true) :: (9, true) :: (10, true) :: (11, true) :: (12, true) :: (13, false) :: (14, true) :: (15, true) :: (16, false) :: [])  Md.Cv.follows13 (by kernel_rfl) (fun _ _ _ _ _ h => h)  ⟨⟨h0, h1, h2, h3, h4, h5⟩, h6, h14⟩ ?_
  (repeat ((first | (refine wpSeq_take (v := ?_) rfl (by rfl) (fun wq hSq => ?_) ?_; rotate_left; (focus ((try dsimp only at hSq); go_simp; try with_reducible rfl))) | refine wpSeq_skip rfl (by rfl) ?_); simp only [Act.put, List.setIfInBounds_toArray, List.set_cons_zero, List.set_cons_succ]))
  (refine wpSeq_do rfl (by rfl) (fun KK hK => ?_); go_simp)
  refine (HL.out _).mono ?_
  rintro e w2 ⟨i0, rfl, k1, k2, k3⟩
  have HV := Lib.hid (HQ.out.drew.on k3)
  have HN := Lib.hid (HQ.out.drew.scanNew k3 k1 k2)
  have e16 : w2.cell? ⟨b, 16, none⟩ = some (ptrV v.qs) := (HV.out.cell 16).trans rfl
  have f16 := HV.out.free 16
  have lb := HV.out.ltB
  clear k1 k2 k3
  refine hK.out _ _ (HPL.out _ _ HV.out) ?_
  (clear hK KK; try simp only [Act.put, List.setIfInBounds_toArray, List.set_cons_zero, List.set_cons_succ])
  (repeat ((first | (refine wpSeq_take (v := ?_) rfl (by rfl) (fun wq hSq => ?_) ?_; rotate_left; (focus ((try dsimp only at hSq); go_simp; try with_reducible rfl))) | refine wpSeq_skip rfl (by rfl) ?_); simp only [Act.put, List.setIfInBounds_toArray, List.set_cons_zero, List.set_cons_succ]))
  (refine wpSeq_do rfl (by rfl) (fun KK hK => ?_); go_simp)
  refine hK.out _ _ (HPL.out _ _ HN.out) ?_
  (clear hK KK; try simp only [Act.put, List.setIfInBounds_toArray, List.set_cons_zero, List.set_cons_succ])
  refine wpSeq_nil ?_
  go_wp2_with (go_at_call 69; refine (HT.out _ _ HN.out).mono ?_; rintro e w3 ⟨rfl, k⟩; have HR := Lib.hid k; clear k HT)
  go_end0
  exact ⟨rfl, i0, HR.out⟩
set_option maxRecDepth 100000 in
set_option maxHeartbeats 1000000 in
theorem run_end (h : Mid W G0 b z mb mg w x v ws o n) (hT : TabAt W G0) (hI : Inv x.m) {M : Mac} {A : Ask} (hM : (stepM x.m).1 = M) (hA : (stepM x.m).2 = A) (hk : A.kind = 4) {Q : World → Prop} (HE : Hid (∀ u F, Mid W G0 b z mb mg u { x with m := M } { v with F := F } ws o n → Calls Tryz.prog 173 #[.pointer (some ⟨b, 0, none⟩)] u fun e w' => e = .returned (.tuple #[]) ∧ Q w')) : Calls Tryz.prog 142 #[.pointer (some ⟨b, 0, none⟩), .pointer (some ⟨mb, 0, none⟩)] w fun e w' => e = .returned (.tuple #[]) ∧ Q w' := by
  have HS := Lib.hid (h.step hT hI hM hA)
  rw [hk] at HS
  have h9 : w.cell? ⟨b, 9, none⟩ = some (.pointer (some ⟨z.bm, 0, none⟩)) := (h.cell 9).trans rfl
  have hb := h.ltB
  clear h hM hA hT hI hk
  go_enter Tryz.func142, Tryz.ntmps142
  go_wp2_with (first
    | (go_at_call 173; refine (HE.out _ _ HU.out).mono ?_; rintro e w3 ⟨rfl, k⟩; have HR := Lib.hid k; clear k)
    | (go_at_call 91; refine HS.out.mono ?_; rintro e w1 ⟨rfl, k⟩; obtain ⟨F, k⟩ := k.out; have HU := Lib.hid (k.alloc (.cells #[.int .i64 4, .int .i64 A.cell, .float .f64 A.x, .bool A.first] 139)); have lb := k.ltB; clear k HS))
  go_end0
  exact ⟨rfl, HR.out⟩
set_option maxRecDepth 100000 in
set_option maxHeartbeats 1000000 in
theorem run_go (h : Mid W G0 b z mb mg w x v ws o n) (hT : TabAt W G0) (hI : Inv x.m) {M : Mac} {A : Ask} (hM : (stepM x.m).1 = M) (hA : (stepM x.m).2 = A) (h1 : (A.kind == 1) = false) (h3 : (A.kind == 3) = false ∨ ((A.kind == 3) = true ∧ A.first = false)) (h4 : (A.kind == 4) = false) : Calls Tryz.prog 142 #[.pointer (some ⟨b, 0, none⟩), .pointer (some ⟨mb, 0, none⟩)] w fun e w' => e = .returned (.tuple #[]) ∧ Hid (∃ F, Mid W G0 b z mb mg w' { x with m := M } { v with F := F } ws o n) := by
  have HS := Lib.hid (h.step hT hI hM hA)
  have h9 : w.cell? ⟨b, 9, none⟩ = some (.pointer (some ⟨z.bm, 0, none⟩)) := (h.cell 9).trans rfl
  have hb := h.ltB
  clear h hM hA hT hI
  obtain ⟨ak, ac, ax, af⟩ := A
  dsimp only at *
  rcases h3 with h3 | ⟨h3, rfl⟩
  · go_enter Tryz.func142, Tryz.ntmps142
    go_wp2_with (go_at_call 91; refine HS.out.mono ?_; rintro e w1 ⟨rfl, k⟩; obtain ⟨F, k⟩ := k.out; have HU := Lib.hid (k.alloc (.cells #[.int .i64 ak, .int .i64 ac, .float .f64 ax, .bool af] 139)); have lb := k.ltB; clear k HS)
    go_end0
    exact ⟨rfl, F, HU.out⟩
  · go_enter Tryz.func142, Tryz.ntmps142
    go_wp2_with (go_at_call 91; refine HS.out.mono ?_; rintro e w1 ⟨rfl, k⟩; obtain ⟨F, k⟩ := k.out; have HU := Lib.hid (k.alloc (.cells #[.int .i64 ak, .int .i64 ac, .float .f64 ax, .bool false] 139)); have lb := k.ltB; clear k HS)
    go_end0
    exact ⟨rfl, F, HU.out⟩
set_option maxRecDepth 100000 in
set_option maxHeartbeats 1000000 in
theorem run_read (h : Mid W G0 b z mb mg w x v ws true n) (hT : TabAt W G0) (hI : Inv x.m) (hI2 : Inv (stepM x.m).1) (ha : 1 ≤ x.a ∧ x.a ≤ 256) (hb8 : 1 ≤ x.b ∧ x.b ≤ 8) (hl : plY x ≤ (ws.length : Int)) {M : Mac} {A : Ask} (hM : (stepM x.m).1 = M) (hA : (stepM x.m).2 = A) (hk : A.kind = 1) (h0 : 0 ≤ A.cell) (h1 : A.cell < x.a) {y : Nat} (hy : nowN x ws A.cell = y) : Calls Tryz.prog 142 #[.pointer (some ⟨b, 0, none⟩), .pointer (some ⟨mb, 0, none⟩)] w fun e w' => e = .returned (.tuple #[]) ∧ Hid (∃ F, Mid W G0 b z mb mg w' { x with m := giveM M y } { v with F := F } ws false (up n)) := by
  have HS := Lib.hid (h.step hT hI hM hA)
  rw [hk] at HS
  have h9 : w.cell? ⟨b, 9, none⟩ = some (.pointer (some ⟨z.bm, 0, none⟩)) := (h.cell 9).trans rfl
  have hb := h.ltB
  have HLD : Hid (∀ u F, Mid W G0 b z mb mg u { x with m := M } { v with F := F } ws true n → Calls Tryz.prog 172 #[.pointer (some ⟨b, 0, none⟩), .pointer (some ⟨mb, 0, none⟩), .int .i64 A.cell] u fun e w' => e = .returned (.float .f64 y) ∧ Mid W G0 b z mb mg w' { x with m := M } { v with F := F } ws false (up n) ∧ Chg mb mg u w') := fun u F k => load_any k ha hb8 hl h0 h1 hy
  have HGV : Hid (∀ u F, Mid W G0 b z mb mg u { x with m := M } { v with F := F } ws false (up n) → Calls Tryz.prog 93 #[.pointer (some ⟨z.bm, 0, none⟩), .float .f64 y] u fun e w' => e = .returned (.int .i64 (giveE M)) ∧ Hid (∃ F, Mid W G0 b z mb mg w' { x with m := giveM M y } { v with F := F } ws false (up n))) := fun u F k => k.give (hM ▸ hI2) y rfl
  generalize giveE M = gE at HGV
  clear h hM hA hT hI hk hl ha hb8 h0 h1 hy hI2
  go_enter Tryz.func142, Tryz.ntmps142
  go_wp2_with (go_at_call 91; refine HS.out.mono ?_; rintro e w1 ⟨rfl, k⟩; obtain ⟨F, k⟩ := k.out; have HQ := Lib.hid k; have lb := k.ltB; clear k HS)
  obtain ⟨w2, hw2⟩ : ∃ w2, w2 = w1.alloc (.cells #[.int .i64 1, .int .i64 A.cell, .float .f64 A.x, .bool A.first] 139) := ⟨_, rfl⟩
  rw [← hw2]
  have HU := Lib.hid ((HQ.out.alloc (.cells #[.int .i64 1, .int .i64 A.cell, .float .f64 A.x, .bool A.first] 139)).drew)
  rw [← hw2] at HU
  have eA : w2.cell? ⟨w1.heap.size, 1, none⟩ = some (.int .i64 A.cell) := by rw [hw2]; simp [go_sem]
  have lA : w1.heap.size < w2.heap.size := by rw [hw2]; simp
  have HNE : Hid (w1.heap.size ≠ mb ∧ w1.heap.size ≠ mg) := ⟨(HQ.out.new (Nat.le_refl _)).2.2.1, (HQ.out.new (Nat.le_refl _)).2.2.2⟩
  clear hw2 HQ
  have e9 : w2.cell? ⟨b, 9, none⟩ = some (.pointer (some ⟨z.bm, 0, none⟩)) := (HU.out.cell 9).trans rfl
  have eb : b < w2.heap.size := HU.out.ltB
  refine wp_region_seqE (fun u => u.cell? ⟨b, 9, none⟩ = some (.pointer (some ⟨z.bm, 0, none⟩)) ∧ u.cell? ⟨w1.heap.size, 1, none⟩ = some (.int .i64 A.cell) )  ((0, true) :: (1, true) :: (2, true) :: (3, true) :: (4, true) :: (5, true) :: (6, true) :: (7, true) :: (8, false) :: (9, false) :: [])  Md.Cv.follows13 (by kernel_rfl) (fun _ _ _ _ _ h => h)  ⟨e9, eA⟩ ?_
  (repeat (refine wpSeqE_take (v := ?_) rfl (by rfl) (fun wq hSq => ?_) ?_; rotate_left; (focus ((try dsimp only at hSq); go_simp; try with_reducible rfl)); simp only [Act.put, List.setIfInBounds_toArray, List.set_cons_zero, List.set_cons_succ]))
  (refine wpSeqE_do rfl (by rfl) (fun KK hK => ?_); go_simp)
  refine (HLD.out _ _ HU.out).mono ?_
  rintro e w3 ⟨rfl, k1, k2⟩
  have HV := Lib.hid k1
  have g9 : w3.cell? ⟨b, 9, none⟩ = some (.pointer (some ⟨z.bm, 0, none⟩)) := (k1.cell 9).trans rfl
  have gA : w3.cell? ⟨w1.heap.size, 1, none⟩ = some (.int .i64 A.cell) := (Md.Cv.cell_kept (k2.block _ lA HNE.out.1 HNE.out.2) 1).trans eA
  clear k1 k2
  refine hK.out _ _ (fun _ => ⟨g9, gA⟩) ?_
  (clear hK KK; try simp only [Act.put, List.setIfInBounds_toArray, List.set_cons_zero, List.set_cons_succ])
  (refine wpSeqE_do rfl (by rfl) (fun KK hK => ?_); go_simp)
  refine (HGV.out _ _ HV.out).mono ?_
  rintro e w4 ⟨rfl, k⟩
  refine hK.out _ _ (fun hn => absurd rfl hn) ?_
  (clear hK KK; try simp only [Act.put, List.setIfInBounds_toArray, List.set_cons_zero, List.set_cons_succ])
  refine wpSeqE_nil ?_
  go_wp2_with fail
  go_end0
  exact ⟨rfl, k.out⟩
theorem Mid.hads2 (h : Mid W G0 b z mb mg w x v ws o n) {k : Nat} (hk : x.was.length = k) {ob : Obj} {w3 : World} {u : Value} {y : Nat} (hown : w3.ownsRow 0 73 1 u (k + 1) (fls x.was ++ [.float .f64 y])) (hg : (w.alloc ob).grownBy w3 (Value.slice v.ph k v.ch).ownBlock) (hat : u.ownBlock = (Value.slice v.ph k v.ch).ownBlock ∨ u.ownBlock = some (w.alloc ob).heap.size) :
    ∃ p' c', u = .slice p' (k + 1) c' ∧ w3.heap[b]? = some (.cells (boxY x z v) 102 (0, 0)) ∧ Mid W G0 b z mb mg (w3.setCell ⟨b, 15, none⟩ (.slice p' (k + 1) c')) { x with was := x.was ++ [y] } { v with ph := p', ch := c' } ws o n := by
  subst hk
  obtain ⟨p', c', e, k1, k2⟩ := h.hads hown ((World.grownBy_alloc w ob _).trans hg) (hat.imp id fun q => ⟨_, q, by simp⟩)
  exact ⟨p', c', e, k1, e ▸ k2⟩
set_option maxRecDepth 100000 in
set_option maxHeartbeats 2000000 in
theorem run_first (h : Mid W G0 b z mb mg w x v ws true n) (hT : TabAt W G0) (hI : Inv x.m) (ha : 1 ≤ x.a ∧ x.a ≤ 256) (hb8 : 1 ≤ x.b ∧ x.b ≤ 8) (hl : plY x ≤ (ws.length : Int)) (hfew : x.was.length ≤ 1000) {M : Mac} {A : Ask} (hM : (stepM x.m).1 = M) (hA : (stepM x.m).2 = A) (hk : A.kind = 3) (hf : A.first = true) (h0 : 0 ≤ A.cell) (h1 : A.cell < x.a) {y : Nat} (hy : nowN x ws A.cell = y) : Calls Tryz.prog 142 #[.pointer (some ⟨b, 0, none⟩), .pointer (some ⟨mb, 0, none⟩)] w fun e w' => e = .returned (.tuple #[]) ∧ Hid (∃ F p' c', Mid W G0 b z mb mg w' { x with m := M, was := x.was ++ [y] } { v with F := F, ph := p', ch := c' } ws false (up n)) := by
  have HS := Lib.hid (h.step hT hI hM hA)
  rw [hk, hf] at HS
  have h9 : w.cell? ⟨b, 9, none⟩ = some (.pointer (some ⟨z.bm, 0, none⟩)) := (h.cell 9).trans rfl
  have hb := h.ltB
  have HLD : Hid (∀ u F, Mid W G0 b z mb mg u { x with m := M } { v with F := F } ws true n → Calls Tryz.prog 172 #[.pointer (some ⟨b, 0, none⟩), .pointer (some ⟨mb, 0, none⟩), .int .i64 A.cell] u fun e w' => e = .returned (.float .f64 y) ∧ Mid W G0 b z mb mg w' { x with m := M } { v with F := F } ws false (up n) ∧ Chg mb mg u w') := fun u F k => load_any k ha hb8 hl h0 h1 hy
  obtain ⟨j, hj⟩ : ∃ j, x.was.length = j := ⟨_, rfl⟩
  have HJ := Lib.hid hj
  rw [hj] at hfew
  have HC15 : Hid (∀ u F ws o n, Mid W G0 b z mb mg u { x with m := M } { v with F := F } ws o n → u.cell? ⟨b, 15, none⟩ = some (.slice v.ph j v.ch) ∧ u.ownsRow 0 73 1 (.slice v.ph j v.ch) j (fls x.was)) := fun u F ws o n k => ⟨(k.cell 15).trans (by show some (Value.slice v.ph x.was.length v.ch) = _; rw [hj]), by
    have := k.raw.had.own
    dsimp only at this
    rw [fls_len, hj] at this
    exact this⟩
  obtain ⟨i0, hi, hz0, hz1, hz2⟩ := info_parts fInfo
  have HZI := Lib.hid (And.intro hi (And.intro hz0 (And.intro hz1 hz2)))
  clear h hM hA hT hI hk hl ha hb8 h0 h1 hy hf hi hz0 hz1 hz2 hj
  go_enter Tryz.func142, Tryz.ntmps142
  go_wp2_with (go_at_call 91; refine HS.out.mono ?_; rintro e w1 ⟨rfl, k⟩; obtain ⟨F, k⟩ := k.out; have HQ := Lib.hid k; have lb := k.ltB; clear k HS)
  obtain ⟨w2, hw2⟩ : ∃ w2, w2 = w1.alloc (.cells #[.int .i64 3, .int .i64 A.cell, .float .f64 A.x, .bool true] 139) := ⟨_, rfl⟩
  rw [← hw2]
  have HU := Lib.hid ((HQ.out.alloc (.cells #[.int .i64 3, .int .i64 A.cell, .float .f64 A.x, .bool true] 139)).drew)
  rw [← hw2] at HU
  have eA : w2.cell? ⟨w1.heap.size, 1, none⟩ = some (.int .i64 A.cell) := by rw [hw2]; simp [go_sem]
  have lA : w1.heap.size < w2.heap.size := by rw [hw2]; simp
  have HNE : Hid (w1.heap.size ≠ mb ∧ w1.heap.size ≠ mg) := ⟨(HQ.out.new (Nat.le_refl _)).2.2.1, (HQ.out.new (Nat.le_refl _)).2.2.2⟩
  have HNF : Hid (w1.heap.size ∉ fpR v.ph) := fun q => (HQ.out.new (Nat.le_refl _)).1 (in_h q)
  clear hw2 HQ
  have e15 : w2.cell? ⟨b, 15, none⟩ = some (.slice v.ph j v.ch) := (HC15.out _ _ _ _ _ HU.out).1
  have eb : b < w2.heap.size := HU.out.ltB
  refine wp_region_seqE (fun u => u.cell? ⟨b, 15, none⟩ = some (.slice v.ph j v.ch) ∧ u.cell? ⟨w1.heap.size, 1, none⟩ = some (.int .i64 A.cell) )  ((0, true) :: (1, true) :: (2, true) :: (3, true) :: (4, true) :: (5, true) :: (6, true) :: (7, true) :: (8, true) :: (9, false) :: (10, false) :: (11, false) :: (12, true) :: (13, true) :: (14, false) :: [])  Md.Cv.follows13 (by kernel_rfl) (fun _ _ _ _ _ h => h)  ⟨e15, eA⟩ ?_
  (repeat (refine wpSeqE_take (v := ?_) rfl (by rfl) (fun wq hSq => ?_) ?_; rotate_left; (focus ((try dsimp only at hSq); go_simp; try with_reducible rfl)); simp only [Act.put, List.setIfInBounds_toArray, List.set_cons_zero, List.set_cons_succ]))
  (refine wpSeqE_do rfl (by rfl) (fun KK hK => ?_); go_simp)
  refine (HLD.out _ _ HU.out).mono ?_
  rintro e w3 ⟨rfl, k1, k2⟩
  have HV := Lib.hid k1
  obtain ⟨g15, OD⟩ := HC15.out _ _ _ _ _ k1
  have HOD := Lib.hid OD
  have gA : w3.cell? ⟨w1.heap.size, 1, none⟩ = some (.int .i64 A.cell) := (Md.Cv.cell_kept (k2.block _ lA HNE.out.1 HNE.out.2) 1).trans eA
  have l3 : w1.heap.size < w3.heap.size := Nat.lt_of_lt_of_le lA k2.size
  have b3 : b < w3.heap.size := k1.ltB
  have HMR : Hid (∀ w4 v4 ob, w4.ownsRow 0 73 1 v4 (j + 1) (fls x.was ++ [.float .f64 y]) → (w3.alloc ob).grownBy w4 (Value.slice v.ph j v.ch).ownBlock → (v4.ownBlock = (Value.slice v.ph j v.ch).ownBlock ∨ v4.ownBlock = some (w3.alloc ob).heap.size) → ∃ p' c', v4 = .slice p' (j + 1) c' ∧ w4.heap[b]? = some (.cells (boxY { x with m := M } z { v with F := F }) 102 (0, 0)) ∧ Mid W G0 b z mb mg (w4.setCell ⟨b, 15, none⟩ (.slice p' (j + 1) c')) { x with m := M, was := x.was ++ [y] } { v with F := F, ph := p', ch := c' } ws false (up n)) := fun w4 v4 ob q1 q2 q3 => HV.out.hads2 HJ.out q1 q2 q3
  clear k1 k2 OD HC15
  refine hK.out _ _ (fun _ => ⟨g15, gA⟩) ?_
  (clear hK KK; try simp only [Act.put, List.setIfInBounds_toArray, List.set_cons_zero, List.set_cons_succ])
  (refine wpSeqE_do rfl (by rfl) (fun KK hK => ?_); go_simp)
  have g15a : (w3.alloc (.cells #[.float .f64 y] 73)).cell? ⟨b, 15, none⟩ = some (.slice v.ph j v.ch) := (World.cell?_alloc_old _ _ _ (Nat.ne_of_lt b3)).trans g15
  have gAa : (w3.alloc (.cells #[.float .f64 y] 73)).cell? ⟨w1.heap.size, 1, none⟩ = some (.int .i64 A.cell) := (World.cell?_alloc_old _ _ _ (Nat.ne_of_lt l3)).trans gA
  refine hK.out _ _ (fun _ => ⟨g15a, gAa⟩) ?_
  (clear hK KK; try simp only [Act.put, List.setIfInBounds_toArray, List.set_cons_zero, List.set_cons_succ])
  refine wpSeqE_do rfl (by rfl) (fun KK hK => ?_)
  refine wp_append_ex _ _ 27 27 rfl (.slice v.ph j v.ch) (.slice (some ⟨w3.heap.size, 0, none⟩) 1 1) rfl rfl (run_append_own_at (P := Tryz.prog) (w3.alloc (.cells #[.float .f64 y] 73)) 0 27 27 73 i0 (.float .f64 0) 1 8 Tryz.underlying27 HZI.out.1 HZI.out.2.1 HZI.out.2.2.1 HZI.out.2.2.2 rfl (by decide) _ j (fls x.was) (World.ownsRow.alloc (HOD.out) _) ⟨w3.heap.size, 0, none⟩ 1 1 [.float .f64 y] rfl (cell_one_new w3 _ _) (fun u hu => by simp at hu; subst hu; rfl) (by unfold maxLen; omega) (by omega) (Nat.zero_le _)) ?_
  rintro v4 w4 ⟨hown4, hgrow4, hnil4, hat4⟩
  have gB : w4.cell? ⟨w1.heap.size, 1, none⟩ = some (.int .i64 A.cell) := (Md.Cv.cell_kept (hgrow4.block _ (by simp; omega) (fun q => HNF.out (own_fpR.2 q.symm))) 1).trans gAa
  obtain ⟨p', c', hv4, k1, k2⟩ := HMR.out _ _ _ hown4 hgrow4 hat4
  subst hv4
  have c15 : w4.cell? ⟨b, 15, none⟩ = some (.slice v.ph j v.ch) := by
    rw [cell_of_row w4 _ 15 _ _ _ k1]
    show some (Value.slice v.ph x.was.length v.ch) = _
    rw [HJ.out]
  have f15 := frozen_of_row w4 _ 15 _ _ k1
  have b4 := lt_of_block k1
  have HKK := Lib.hid k2
  clear hown4 hgrow4 hnil4 hat4 k1 k2 HMR
  refine hK.out _ _ (fun _ => ⟨c15, gB⟩) ?_
  (clear hK KK; try simp only [Act.put, List.setIfInBounds_toArray, List.set_cons_zero, List.set_cons_succ])
  (repeat (refine wpSeqE_take (v := ?_) rfl (by rfl) (fun wq hSq => ?_) ?_; rotate_left; (focus ((try dsimp only at hSq); go_simp; try with_reducible rfl)); simp only [Act.put, List.setIfInBounds_toArray, List.set_cons_zero, List.set_cons_succ]))
  (refine wpSeqE_do rfl (by rfl) (fun KK hK => ?_); go_simp)
  refine hK.out _ _ (fun hn => absurd rfl hn) ?_
  (clear hK KK; try simp only [Act.put])
  refine wpSeqE_nil ?_
  go_wp2_with fail
  go_end0
  exact ⟨rfl, F, p', c', HKK.out⟩
end
end Go.Proofs.YteinilmecnlanaaGreatDoor.Ww
namespace Go.Proofs.YteinilmecnlanaaGreatDoor.Ww
open Go.ChangeShapes Go.WideShapes Go.ChangeAt Go.RowKit Num Rr
attribute [local go_sem] run_store_float Md.Ce.run_store_func Md.Ce.run_store_nilFunc
section
variable {W w : World} {G0 : List Nat} {b mb mg : Nat} {x : Wx} {z : Wz} {v : Wv} {ws : List Int} {o : Bool} {n : Int}
set_option maxRecDepth 100000 in
theorem wnext_end (h : Mid W G0 b z mb mg w x v ws o n) (hbg : v.bg = (x.m.buf.length : Int)) : Calls Tryz.prog 214 #[.pointer (some ⟨b, 0, none⟩)] w fun e w' => e = .returned (.tuple #[]) ∧ Mid W G0 b z mb mg w' { x with part := 7 } { v with nx := fnV 226 } ws o n := by
  have HW : Hid (Calls Tryz.prog 47 #[.pointer (some ⟨z.bm, 0, none⟩)] w fun e w' => e = .returned (.slice (some ⟨w.heap.size, 0, none⟩) x.m.buf.length x.m.buf.length) ∧ TRow w' (some ⟨w.heap.size, 0, none⟩) x.m.buf.length x.m.buf ∧ Below w.heap.size w w') := writes_any h.raw.mac.gm
  have HT : Hid (∀ w', Below w.heap.size w w' → Calls Tryz.prog 69 #[.pointer (some ⟨b, 0, none⟩), .int .i64 7, .func (.func 226) #[] #[]] w' fun e w' => e = .returned (.tuple #[]) ∧ Mid W G0 b z mb mg w' { x with part := 7 } { v with nx := fnV 226 } ws o n) := fun w' k => turnTo_fn (h.on k) 7 rfl 226
  have h9 : w.cell? ⟨b, 9, none⟩ = some (.pointer (some ⟨z.bm, 0, none⟩)) := (h.cell 9).trans rfl
  have HC : Hid (∀ u, Below w.heap.size w u → u.cell? ⟨b, 17, none⟩ = some (.int .i64 (x.m.buf.length : Int)) ∧ b < u.heap.size) := fun u k => ⟨((h.on k).cell 17).trans (by show some (Value.int .i64 v.bg) = _; rw [hbg]), (h.on k).ltB⟩
  have hb := h.ltB
  clear h
  generalize x.m.buf.length = bl at *
  go_enter Tryz.func214, Tryz.ntmps214
  go_wp2_with (first
    | (go_at_call 69; refine (HT.out _ HQ.out).mono ?_; rintro e w2 ⟨rfl, k⟩; have HR := Lib.hid k; clear k HT)
    | (go_at_call 47; refine HW.out.mono ?_; rintro e w1 ⟨rfl, k1, k2⟩; have HQ := Lib.hid k2; obtain ⟨e17, lb⟩ := HC.out _ k2; clear k1 k2 HW))
  refine bodyPost_ret (results_none rfl _ _ _) rfl ?_
  exact ⟨rfl, HR.out⟩
set_option maxRecDepth 100000 in
set_option maxHeartbeats 2000000 in
theorem wnext_more (h : Mid W G0 b z mb mg w x v ws o n) (hI : InY x) {k : Nat} (hk : k < x.m.buf.length) (hbg : v.bg = (k : Int)) : Calls Tryz.prog 214 #[.pointer (some ⟨b, 0, none⟩)] w fun e w' => e = .returned (.tuple #[]) ∧ Hid (∃ i, Mid W G0 b z mb mg w' { x with part := 6 } { v with nx := fnV 229, bg := (k : Int) + 1, qw := some i, t := wtK x k 0 } ws o n) := by
  have hfew : (x.m.buf.length : Int) ≤ 32 := by have h1 := hI.rest.inv.few; have h2 := hI.rest.inv.wmax; omega
  have hwl : k < x.was.length := by rw [hI.wlen]; exact hk
  have HW : Hid (Calls Tryz.prog 47 #[.pointer (some ⟨z.bm, 0, none⟩)] w fun e w' => e = .returned (.slice (some ⟨w.heap.size, 0, none⟩) x.m.buf.length x.m.buf.length) ∧ TRow w' (some ⟨w.heap.size, 0, none⟩) x.m.buf.length x.m.buf ∧ Below w.heap.size w w') := writes_any h.raw.mac.gm
  have HTC : Hid (∀ u, TRow u (some ⟨w.heap.size, 0, none⟩) x.m.buf.length x.m.buf → w.heap.size < u.heap.size ∧ u.cell? ⟨w.heap.size, k * 2, none⟩ = some (.int .i64 (bufC x k)) ∧ u.cell? ⟨w.heap.size, k * 2 + 1, none⟩ = some (.float .f64 (bufX x k))) := fun u q => by
    obtain ⟨g, e, l, c1, c2⟩ := trow_at q rfl k hk
    cases e
    exact ⟨l, c1, c2⟩
  have h9 : w.cell? ⟨b, 9, none⟩ = some (.pointer (some ⟨z.bm, 0, none⟩)) := (h.cell 9).trans rfl
  obtain ⟨g, hph, _⟩ := Sx.row_getD h.raw.had k hwl
  have HC : Hid (∀ u, Below w.heap.size w u → Mid W G0 b z mb mg u x v ws o n ∧ (u.cell? ⟨b, 0, none⟩ = some (.int .i64 0) ∧ u.cell? ⟨b, 1, none⟩ = some (.int .i64 1) ∧ u.cell? ⟨b, 2, none⟩ = some (.int .i64 2) ∧ u.cell? ⟨b, 3, none⟩ = some (.int .i64 3) ∧ u.cell? ⟨b, 4, none⟩ = some (.int .i64 (3 + x.b)) ∧ u.cell? ⟨b, 5, none⟩ = some (.int .i64 (3 + x.b + 3 * x.a))) ∧ u.cell? ⟨b, 15, none⟩ = some (.slice (some ⟨g, 0, none⟩) x.was.length v.ch) ∧ u.cell? ⟨b, 17, none⟩ = some (.int .i64 (k : Int)) ∧ u.cell? ⟨g, k, none⟩ = some (.float .f64 (x.was.getD k 0)) ∧ g < u.heap.size ∧ b < u.heap.size) := fun u q => by
    have hu := h.on q
    obtain ⟨g', e, l, c, _⟩ := Sx.row_getD hu.raw.had k hwl
    rw [hph] at e
    cases e
    exact ⟨hu, hu.plan rfl rfl, (hu.cell 15).trans (by show some (Value.slice v.ph x.was.length v.ch) = _; rw [hph]), (hu.cell 17).trans (by show some (Value.int .i64 v.bg) = _; rw [hbg]), c, l, hu.ltB⟩
  have HNS : Hid (∀ u, Below w.heap.size w u → Calls Tryz.prog 228 #[.pointer (some ⟨b, 0, none⟩)] u fun e w' => e = .returned (.int .u64 (Md.Cv.passV x.stamp)) ∧ w' = u) := fun u q => nextStamp_any (h.on q)
  have HWR : Hid (∀ u, Calls Tryz.prog 227 #[.agg #[.int .i64 0, .int .i64 1, .int .i64 2, .int .i64 3, .int .i64 (3 + x.b), .int .i64 (3 + x.b + 3 * x.a)], .int .i64 (bufC x k), .int .u64 (Md.Cv.passV x.stamp), .float .f64 (x.was.getD k 0), .float .f64 (bufX x k)] u fun e w' => ∃ i, e = .returned (.pointer (some ⟨i, 0, none⟩)) ∧ u.heap.size ≤ i ∧ Md.Ce.WtAt w' i (wtK x k 0) ∧ Below u.heap.size u w') := fun u => by
    have := Md.Ce.write_any u 0 1 2 3 (3 + x.b) (3 + x.b + 3 * x.a) (bufC x k) (Md.Cv.passV x.stamp) (x.was.getD k 0) (bufX x k)
    rw [newW_is hI hk] at this
    exact this
  have HT : Hid (∀ i w', Mid W G0 b z mb mg w' x { v with bg := (k : Int) + 1, qw := some i, t := wtK x k 0 } ws o n → Calls Tryz.prog 69 #[.pointer (some ⟨b, 0, none⟩), .int .i64 6, .func (.func 229) #[] #[]] w' fun e w' => e = .returned (.tuple #[]) ∧ Mid W G0 b z mb mg w' { x with part := 6 } { v with nx := fnV 229, bg := (k : Int) + 1, qw := some i, t := wtK x k 0 } ws o n) := fun i w' q => turnTo_fn q 6 rfl 229
  have HP : Hid (∀ i w', Mid W G0 b z mb mg w' x { v with qw := some i, t := wtK x k 0 } ws o n → Mid W G0 b z mb mg (w'.setCell ⟨b, 17, none⟩ (.int .i64 ((k : Int) + 1))) x { v with bg := (k : Int) + 1, qw := some i, t := wtK x k 0 } ws o n ∧ w'.cell? ⟨b, 17, none⟩ = some (.int .i64 (k : Int)) ∧ w'.frozen? ⟨b, 17, none⟩ = false ∧ b < w'.heap.size) := fun i w' q => ⟨q.put 17 _ x _ rfl ⟨rfl, rfl, rfl⟩ ⟨rfl, rfl, rfl, rfl, rfl, rfl, rfl⟩, (q.cell 17).trans (by show some (Value.int .i64 v.bg) = _; rw [hbg]), q.free 17, q.ltB⟩
  have hb := h.ltB
  have hwl2 : (k : Int) < (x.was.length : Int) := by omega
  have hk2 : (k : Int) < (x.m.buf.length : Int) := by omega
  have hne : ((k : Int) == (x.m.buf.length : Int)) = false := by simp; omega
  have hk32 : (k : Int) < 1000 := by omega
  clear h hI hbg hk hwl hph
  generalize x.m.buf.length = bl at *
  generalize x.was.length = wl at *
  generalize x.was.getD k 0 = u0 at *
  generalize bufC x k = c0 at *
  generalize bufX x k = y0 at *
  generalize wtK x k 0 = t0 at *
  generalize Md.Cv.passV x.stamp = s0 at *
  generalize 3 + x.b + 3 * x.a = p5 at *
  generalize 3 + x.b = p4 at *
  go_enter Tryz.func214, Tryz.ntmps214
  go_upto_region 4 with (go_at_call 47; refine HW.out.mono ?_; rintro e w1 ⟨rfl, k1, k2⟩; have HQ := Lib.hid k2; obtain ⟨lg, d0, d1⟩ := HTC.out _ k1; obtain ⟨_, ⟨h0, h1, h2, h3, h4, h5⟩, h15, h17, hg, lg2, lb⟩ := HC.out _ k2; clear k1 k2 HW HTC)
  clear h0 h1 h2 h3 h4 h5 h15 h17 hg lg2 lb h9
  obtain ⟨w2, hw2⟩ : ∃ w2, w2 = w1.alloc (.cells #[.int .i64 c0, .float .f64 y0] 75) := ⟨_, rfl⟩
  rw [← hw2]
  have HB2 : Hid (Below w.heap.size w w2.drew) := by rw [hw2]; exact (HQ.out.alloc HQ.out.size _).trans ((Same.drew _).below _)
  have a0 : w2.cell? ⟨w1.heap.size, 0, none⟩ = some (.int .i64 c0) := by rw [hw2]; simp [go_sem]
  have a1 : w2.cell? ⟨w1.heap.size, 1, none⟩ = some (.float .f64 y0) := by rw [hw2]; simp [go_sem]
  have la : w1.heap.size < w2.heap.size := by rw [hw2]; simp
  clear hw2 lg d0 d1 HQ
  obtain ⟨hm, ⟨h0, h1, h2, h3, h4, h5⟩, h15, h17, hg, lg2, lb⟩ := HC.out _ HB2.out
  have HM := Lib.hid hm
  clear hm
  have lg3 : g < w2.heap.size := lg2
  have lb3 : b < w2.heap.size := lb
  refine wp_region_seqE (fun u => (u.cell? ⟨b, 0, none⟩ = some (.int .i64 0) ∧ u.cell? ⟨b, 1, none⟩ = some (.int .i64 1) ∧ u.cell? ⟨b, 2, none⟩ = some (.int .i64 2) ∧ u.cell? ⟨b, 3, none⟩ = some (.int .i64 3) ∧ u.cell? ⟨b, 4, none⟩ = some (.int .i64 p4) ∧ u.cell? ⟨b, 5, none⟩ = some (.int .i64 p5)) ∧ u.cell? ⟨b, 15, none⟩ = some (.slice (some ⟨g, 0, none⟩) wl v.ch) ∧ u.cell? ⟨b, 17, none⟩ = some (.int .i64 (k : Int)) ∧ u.cell? ⟨g, k, none⟩ = some (.float .f64 u0) ∧ u.cell? ⟨w1.heap.size, 0, none⟩ = some (.int .i64 c0) ∧ u.cell? ⟨w1.heap.size, 1, none⟩ = some (.float .f64 y0) )  ((0, true) :: (1, true) :: (2, true) :: (3, true) :: (4, true) :: (5, true) :: (6, true) :: (7, true) :: (9, true) :: (10, true) :: (11, true) :: (12, true) :: (13, true) :: (14, true) :: (15, true) :: (16, true) :: (17, true) :: (18, true) :: (19, true) :: (20, true) :: (8, false) :: (21, false) :: (22, true) :: (23, true) :: (24, false) :: [])  Md.Cv.follows13 (by kernel_rfl) (fun _ _ _ _ _ h => h)  ⟨⟨h0, h1, h2, h3, h4, h5⟩, h15, h17, hg, a0, a1⟩ ?_
  (repeat (refine wpSeqE_take (v := ?_) rfl (by rfl) (fun wq hSq => ?_) ?_; rotate_left; (focus ((try dsimp only at hSq); go_simp; try with_reducible rfl)); simp only [Act.put, List.setIfInBounds_toArray, List.set_cons_zero, List.set_cons_succ]))
  (refine wpSeqE_do rfl (by rfl) (fun KK hK => ?_); go_simp)
  refine (HNS.out _ HB2.out).mono ?_
  rintro e u1 ⟨rfl, hw⟩
  subst u1
  refine hK.out _ _ (fun _ => ⟨⟨h0, h1, h2, h3, h4, h5⟩, h15, h17, hg, a0, a1⟩) ?_
  (clear hK KK; try simp only [Act.put, List.setIfInBounds_toArray, List.set_cons_zero, List.set_cons_succ])
  (refine wpSeqE_do rfl (by rfl) (fun KK hK => ?_); go_simp)
  refine (HWR.out _).mono ?_
  rintro e w3 ⟨i0, rfl, k1, k2, k3⟩
  have HN := Lib.hid (HM.out.writeNew k3 k1 k2)
  have HV := Lib.hid (HM.out.on k3)
  obtain ⟨q1, q2, q3, q4⟩ := HP.out _ _ HN.out
  have HN2 := Lib.hid q1
  have e18 : w3.cell? ⟨b, 18, none⟩ = some (ptrV v.qw) := (HV.out.cell 18).trans rfl
  have f18 := HV.out.free 18
  have l18 := HV.out.ltB
  have ck : ∀ (g j : Nat) (y : Value), g < w2.heap.size → w2.cell? ⟨g, j, none⟩ = some y → w3.cell? ⟨g, j, none⟩ = some y := fun g j y hg hv => (k3.cell (p := ⟨g, j, none⟩) hg).trans hv
  refine hK.out _ _ (fun _ => ⟨⟨ck _ _ _ lb3 h0, ck _ _ _ lb3 h1, ck _ _ _ lb3 h2, ck _ _ _ lb3 h3, ck _ _ _ lb3 h4, ck _ _ _ lb3 h5⟩, ck _ _ _ lb3 h15, ck _ _ _ lb3 h17, ck _ _ _ lg3 hg, ck _ _ _ la a0, ck _ _ _ la a1⟩) ?_
  clear k1 k2 k3 ck q1
  (clear hK KK; try simp only [Act.put, List.setIfInBounds_toArray, List.set_cons_zero, List.set_cons_succ])
  (repeat (refine wpSeqE_take (v := ?_) rfl (by rfl) (fun wq hSq => ?_) ?_; rotate_left; (focus ((try dsimp only at hSq); go_simp; try with_reducible rfl)); simp only [Act.put, List.setIfInBounds_toArray, List.set_cons_zero, List.set_cons_succ]))
  (refine wpSeqE_do rfl (by rfl) (fun KK hK => ?_); go_simp)
  refine hK.out _ _ (fun hn => absurd rfl hn) ?_
  (clear hK KK; try simp only [Act.put])
  refine wpSeqE_nil ?_
  clear h0 h1 h2 h3 h4 h5 h15 h17 hg lg2 lb a0 a1 la lg3 lb3 e18 f18 l18
  go_wp2_with (go_at_call 69; refine (HT.out _ _ HN2.out).mono ?_; rintro e w4 ⟨rfl, k⟩; have HR := Lib.hid k; clear k HT)
  go_end0
  exact ⟨rfl, i0, HR.out⟩
set_option maxRecDepth 100000 in
set_option maxHeartbeats 1000000 in
theorem scan_any (h : Mid W G0 b z mb mg w x v ws true n) {i0 : Nat} (hq : v.qs = some i0) (hok : Md.Cv.SOk v.s) (hE : Md.Cv.sE v.s ws true = 0) (hP : Md.Cv.sP v.s ws true = false) (hQ : Md.Cv.sQ v.s ws true n = up n) {s' : Md.Cv.Ss} (hC : Md.Cv.sC v.s ws true = s') {dn : Bool} (hO : Md.Cv.sO v.s ws true = dn) {Q : World → Prop} (HQ : Hid (∀ u, Mid W G0 b z mb mg u x { v with s := s' } ws false (up n) → dn = false → Q u)) (HN : Hid (∀ u, Mid W G0 b z mb mg u x { v with s := s' } ws false (up n) → dn = true → Calls Tryz.prog 214 #[.pointer (some ⟨b, 0, none⟩)] u fun e w' => e = .returned (.tuple #[]) ∧ Q w')) : Calls Tryz.prog 188 #[.pointer (some ⟨b, 0, none⟩), .pointer (some ⟨mb, 0, none⟩)] w fun e w' => e = .returned (.tuple #[]) ∧ Q w' := by
  have HS := Lib.hid (Md.Cv.sstep_any h.mem (h.raw.sc i0 hq) hok)
  rw [hE, hP, hQ, hC, hO] at HS
  have HM : Hid (∀ w', MemAt 116 w' mb mg ws false (up n) → Md.Cv.ScAt w' i0 s' → Md.Cv.Ch3 mb mg i0 w w' → Mid W G0 b z mb mg w' x { v with s := s' } ws false (up n)) := fun w' k1 k2 k3 => h.scans hq k3 k1 k2
  have h16 : w.cell? ⟨b, 16, none⟩ = some (.pointer (some ⟨i0, 0, none⟩)) := (h.cell 16).trans (by show some (ptrV v.qs) = _; rw [hq]; rfl)
  have hb := h.ltB
  clear h hok hE hP hQ hC hO hq
  cases dn
  · have HQ2 := Lib.hid (fun u k => HQ.out u k rfl)
    clear HN HQ
    go_enter Tryz.func188, Tryz.ntmps188
    go_wp2_with (go_at_call 213; refine HS.out.mono ?_; rintro e w1 ⟨rfl, k1, k2, k3⟩; have HR := Lib.hid (HQ2.out _ (HM.out _ k1 k2 k3)); clear k1 k2 k3 HS HM)
    go_end0
    exact ⟨rfl, HR.out⟩
  · have HN2 := Lib.hid (fun u k => HN.out u k rfl)
    clear HN HQ
    go_enter Tryz.func188, Tryz.ntmps188
    go_wp2_with (first
      | (go_at_call 214; refine (HN2.out _ HR.out).mono ?_; rintro e w2 ⟨rfl, k⟩; have HZ := Lib.hid k; clear k HN2)
      | (go_at_call 213; refine HS.out.mono ?_; rintro e w1 ⟨rfl, k1, k2, k3⟩; have HR := Lib.hid (HM.out _ k1 k2 k3); clear k1 k2 k3 HS HM))
    go_end0
    exact ⟨rfl, HZ.out⟩
set_option maxRecDepth 100000 in
set_option maxHeartbeats 1000000 in
theorem write_any (h : Mid W G0 b z mb mg w x v ws true n) {i0 : Nat} (hq : v.qw = some i0) (hE : Md.Ce.errW v.t ws true = 0) {ws' : List Int} (hL : Md.Ce.laidW v.t ws true = ws') (hO : Md.Ce.aftO (Md.Ce.errW v.t ws true) true = false) (hN : Md.Ce.aftN (Md.Ce.errW v.t ws true) n = up n) {t' : Md.Ce.Wt} (hC : Md.Ce.stepW v.t ws true = t') {dn : Bool} (hD : Md.Ce.endW v.t ws true = dn) {Q : World → Prop} (HQ : Hid (∀ u, Mid W G0 b z mb mg u x { v with t := t' } ws' false (up n) → dn = false → Q u)) (HN : Hid (∀ u, Mid W G0 b z mb mg u x { v with t := t' } ws' false (up n) → dn = true → Calls Tryz.prog 214 #[.pointer (some ⟨b, 0, none⟩)] u fun e w' => e = .returned (.tuple #[]) ∧ Q w')) : Calls Tryz.prog 229 #[.pointer (some ⟨b, 0, none⟩), .pointer (some ⟨mb, 0, none⟩)] w fun e w' => e = .returned (.tuple #[]) ∧ Q w' := by
  have hne : i0 ≠ mb ∧ i0 ≠ mg := by
    obtain ⟨_, _, h3, _⟩ := h
    exact ⟨fun e => h3 mb (by simp) (e ▸ in_w hq), fun e => h3 mg (by simp) (e ▸ in_w hq)⟩
  have HS := Lib.hid (Md.Ce.wstep_any h.mem (h.raw.wr i0 hq) hne.1 hne.2)
  rw [hO, hN, hL, hC, hD, hE] at HS
  have HM : Hid (∀ w', MemAt 116 w' mb mg ws' false (up n) → Md.Ce.WtAt w' i0 t' → Md.Ce.Ch [mb, mg, i0] w w' → Mid W G0 b z mb mg w' x { v with t := t' } ws' false (up n)) := fun w' k1 k2 k3 => h.writes hq k3 k1 k2
  have h18 : w.cell? ⟨b, 18, none⟩ = some (.pointer (some ⟨i0, 0, none⟩)) := (h.cell 18).trans (by show some (ptrV v.qw) = _; rw [hq]; rfl)
  have hb := h.ltB
  clear h hE hL hO hN hC hD hq hne
  cases dn
  · have HQ2 := Lib.hid (fun u k => HQ.out u k rfl)
    clear HN HQ
    go_enter Tryz.func229, Tryz.ntmps229
    go_wp2_with (go_at_call 238; refine HS.out.mono ?_; rintro e w1 ⟨rfl, k1, k2, k3⟩; have HR := Lib.hid (HQ2.out _ (HM.out _ k1 k2 k3)); clear k1 k2 k3 HS HM)
    go_end0
    exact ⟨rfl, HR.out⟩
  · have HN2 := Lib.hid (fun u k => HN.out u k rfl)
    clear HN HQ
    go_enter Tryz.func229, Tryz.ntmps229
    go_wp2_with (first
      | (go_at_call 214; refine (HN2.out _ HR.out).mono ?_; rintro e w2 ⟨rfl, k⟩; have HZ := Lib.hid k; clear k HN2)
      | (go_at_call 238; refine HS.out.mono ?_; rintro e w1 ⟨rfl, k1, k2, k3⟩; have HR := Lib.hid (HM.out _ k1 k2 k3); clear k1 k2 k3 HS HM))
    go_end0
    exact ⟨rfl, HZ.out⟩
end
end Go.Proofs.YteinilmecnlanaaGreatDoor.Ww
namespace Go.Proofs.YteinilmecnlanaaGreatDoor.Ww
open Go.ChangeShapes Go.WideShapes Go.ChangeAt Go.RowKit Num Rr
attribute [local go_sem] run_store_float Md.Ce.run_store_func Md.Ce.run_store_nilFunc
def Full (W : World) (G0 : List Nat) (b : Nat) (z : Wz) (mb mg : Nat) (w : World) (x : Wx) (ws : List Int) (o : Bool) (n : Int) : Prop := ∃ v, Mid W G0 b z mb mg w x v ws o n ∧ VOk x v
section
variable {W w w' : World} {G0 : List Nat} {b mb mg : Nat} {x : Wx} {z : Wz} {ws : List Int} {o : Bool} {n : Int}
theorem Full.on (h : Full W G0 b z mb mg w x ws o n) (k : Below w.heap.size w w') : Full W G0 b z mb mg w' x ws o n := by
  obtain ⟨v, h, h2⟩ := h
  exact ⟨v, h.on k, h2⟩
theorem Full.raw (h : Full W G0 b z mb mg w x ws o n) : ∃ v, RawAt w b x z v ∧ VOk x v := by
  obtain ⟨v, h, h2⟩ := h
  exact ⟨v, h.1, h2⟩
theorem wnext_any {v : Wv} (h : Mid W G0 b z mb mg w x v ws o n) (hI : InY x) {k : Nat} (hk : k ≤ x.m.buf.length) (hbg : v.bg = (k : Int)) (hnb : wrap64 v.nb = x.num) : Calls Tryz.prog 214 #[.pointer (some ⟨b, 0, none⟩)] w fun e w' => e = .returned (.tuple #[]) ∧ Full W G0 b z mb mg w' { x with at_ := 3 * k, part := if k = x.m.buf.length then 7 else 6 } ws o n := by
  by_cases e : k = x.m.buf.length
  · rw [if_pos e]
    refine (wnext_end h (by rw [hbg, e])).mono ?_
    rintro r w' ⟨rfl, q⟩
    exact ⟨rfl, _, q.like rfl rfl rfl rfl, ⟨rfl, (fun y => by dsimp only at y; omega), (fun y => by dsimp only at y; omega), (fun y => by dsimp only at y; omega), hnb⟩⟩
  · rw [if_neg e]
    refine (wnext_more h hI (by omega) hbg).mono ?_
    rintro r w' ⟨rfl, q⟩
    obtain ⟨i, q⟩ := q.out
    refine ⟨rfl, _, q.like rfl rfl rfl rfl, ⟨rfl, (fun y => by dsimp only at y; omega), (fun y => by dsimp only at y; omega), fun _ => ⟨⟨i, rfl⟩, ?_, ?_⟩, hnb⟩⟩
    · dsimp only
      rw [show 3 * k / 3 = k by omega]
      rfl
    · dsimp only
      rw [show 3 * k / 3 = k by omega, show 3 * k % 3 = 0 by omega]
      rfl
theorem VOk.of {v v' : Wv} {x x' : Wx} (h : VOk x v) (h4 : x.part ≤ 4) (h4' : x'.part ≤ 4) (hn : v'.nx = nextV x'.part) (hb : v'.bg = v.bg) (hnb : v'.nb = v.nb) (hnum : x'.num = x.num) : VOk x' v' :=
  ⟨hn, (fun y => by omega), (fun _ => by rw [hb]; exact h.b5 (by omega)), (fun y => by omega), by rw [hnb, hnum]; exact h.nb⟩
theorem part1_any (h : Full W G0 b z mb mg w x ws true n) (hI : InY x) (hp : x.part = 1) (hl : plY x ≤ (ws.length : Int)) : Calls Tryz.prog 70 #[.pointer (some ⟨b, 0, none⟩), .pointer (some ⟨mb, 0, none⟩)] w fun e w' => e = .returned (.tuple #[]) ∧ Full W G0 b z mb mg w' { x with tick := wordAt ws 0, part := 2 } (ws.set 0 (Md.Cv.passV (wordAt ws 0))) false (up n) := by
  obtain ⟨v, h, hv⟩ := h
  have hb := hI.cb
  have ha := hI.ca
  unfold plY at hl
  refine (draw_any h (by omega)).mono ?_
  rintro r w' ⟨rfl, q⟩
  exact ⟨rfl, _, q, hv.of (by omega) (by show 2 ≤ 4; omega) rfl rfl rfl rfl⟩
theorem part2_any (h : Full W G0 b z mb mg w x ws true n) (hI : InY x) (hp : x.part = 2) (hl : plY x ≤ (ws.length : Int)) : Calls Tryz.prog 100 #[.pointer (some ⟨b, 0, none⟩), .pointer (some ⟨mb, 0, none⟩)] w fun e w' => e = .returned (.tuple #[]) ∧ Full W G0 b z mb mg w' (if wordAt ws 1 = x.tick then { x with part := 3 } else x) ws false (up n) := by
  obtain ⟨v, h, hv⟩ := h
  have hb := hI.cb
  have ha := hI.ca
  unfold plY at hl
  by_cases e : wordAt ws 1 = x.tick
  · rw [if_pos e]
    refine (wait_any h (by omega) (decide_eq_true e)).mono ?_
    rintro r w' ⟨rfl, q⟩
    exact ⟨rfl, _, q, hv.of (by omega) (by show 3 ≤ 4; omega) rfl rfl rfl rfl⟩
  · rw [if_neg e]
    refine (wait_any h (by omega) (decide_eq_false e)).mono ?_
    rintro r w' ⟨rfl, q⟩
    exact ⟨rfl, _, q, hv⟩
theorem part3_any (h : Full W G0 b z mb mg w x ws true n) (hI : InY x) (hp : x.part = 3) (hl : plY x ≤ (ws.length : Int)) : Calls Tryz.prog 117 #[.pointer (some ⟨b, 0, none⟩), .pointer (some ⟨mb, 0, none⟩)] w fun e w' => e = .returned (.tuple #[]) ∧ Full W G0 b z mb mg w' { x with stamp := wordAt ws 2, part := 4 } ws false (up n) := by
  obtain ⟨v, h, hv⟩ := h
  have hb := hI.cb
  have ha := hI.ca
  unfold plY at hl
  refine (mark_any h (by omega)).mono ?_
  rintro r w' ⟨rfl, q⟩
  exact ⟨rfl, _, q, hv.of (by omega) (by show 4 ≤ 4; omega) rfl rfl rfl rfl⟩
theorem ask_cell (hI : InY x) (hp : x.part = 4) (hk : (stepM x.m).2.kind = 1 ∨ (stepM x.m).2.kind = 3) : 0 ≤ (stepM x.m).2.cell ∧ (stepM x.m).2.cell < x.a := by
  have h0 := hI.run (by omega)
  have hR := hI.rest
  obtain ⟨lk, tr⟩ := step_turns hR.inv hR.nw h0
  have hb := step_bufs hR.inv hR.nw h0
  have hc := hI.cel
  rcases hk with hk | hk
  · rcases tr with ⟨k4, _⟩ | ⟨_, e1, e2, e3, e4⟩ | ⟨k0, _⟩
    · omega
    · have hw := (inv_step hR.inv).wait
      have := lk.cells
      omega
    · omega
  · have := rest_step hR (by omega)
    rcases hb with ⟨q, _⟩ | ⟨q, _⟩ | ⟨q, _⟩ | ⟨q, _⟩ | ⟨_, e, f, _⟩
    · omega
    · omega
    · omega
    · omega
    · have m : (stepM x.m).2.cell ∈ cellsOfL (stepM x.m).1.buf := by
        rw [e]
        exact hasC_mem.1 (by rw [hasC_put]; simp)
      obtain ⟨t, ht, et⟩ := List.mem_map.1 m
      have := this.cel t ht
      have := lk.cells
      omega
theorem part4_any (h : Full W G0 b z mb mg w x ws true n) (hT : TabAt W G0) (hI : InY x) (hp : x.part = 4) (hl : plY x ≤ (ws.length : Int)) : Calls Tryz.prog 142 #[.pointer (some ⟨b, 0, none⟩), .pointer (some ⟨mb, 0, none⟩)] w fun e w' => e = .returned (.tuple #[]) ∧ Full W G0 b z mb mg w' (runY x ws).1 ws (!(runY x ws).2) (if (runY x ws).2 then up n else n) := by
  obtain ⟨v, h, hv⟩ := h
  have hR := hI.rest
  have hfew : x.was.length ≤ 1000 := by rw [hI.wlen]; have h1 := hR.inv.few; have h2 := hR.inv.wmax; omega
  unfold runY
  by_cases k1 : (stepM x.m).2.kind = 1
  · rw [if_pos k1]
    have hc := ask_cell hI hp (.inl k1)
    refine (run_read h hT hR.inv (inv_step hR.inv) hI.ca hI.cb hl rfl rfl k1 hc.1 hc.2 rfl).mono ?_
    rintro r w' ⟨rfl, q⟩
    obtain ⟨F, q⟩ := q.out
    exact ⟨rfl, _, q, hv.of (by omega) (by show x.part ≤ 4; omega) hv.nx rfl rfl rfl⟩
  · rw [if_neg k1]
    by_cases k3 : (stepM x.m).2.kind = 3 ∧ (stepM x.m).2.first = true
    · rw [if_pos k3]
      have hc := ask_cell hI hp (.inr k3.1)
      refine (run_first h hT hR.inv hI.ca hI.cb hl hfew rfl rfl k3.1 k3.2 hc.1 hc.2 rfl).mono ?_
      rintro r w' ⟨rfl, q⟩
      obtain ⟨F, p', c', q⟩ := q.out
      exact ⟨rfl, _, q, hv.of (by omega) (by show x.part ≤ 4; omega) hv.nx rfl rfl rfl⟩
    · rw [if_neg k3]
      by_cases k4 : (stepM x.m).2.kind = 4
      · rw [if_pos k4]
        refine run_end h hT hR.inv rfl rfl k4 (Q := fun w' => Full W G0 b z mb mg w' _ ws true n) (Lib.hid fun u F hu => ?_)
        by_cases hh : (stepM x.m).1.how = 1
        · rw [if_pos hh]
          refine (wend_yes hu (by simp [hh])).mono ?_
          rintro r w' ⟨rfl, q⟩
          obtain ⟨i, q⟩ := q.out
          refine ⟨rfl, _, q, ⟨rfl, fun _ => ⟨⟨i, rfl⟩, rfl, rfl, rfl, ?_⟩, fun _ => hv.b5 (by omega), (fun y => by dsimp only at y; omega), hv.nb⟩⟩
          show (0 : Int) = (x.at_ : Int)
          rw [hI.at4 (by omega)]
          rfl
        · rw [if_neg hh]
          refine (wend_no hu (by simp [hh])).mono ?_
          rintro r w' ⟨rfl, q⟩
          exact ⟨rfl, _, q, ⟨rfl, (fun y => by dsimp only at y; omega), (fun y => by dsimp only at y; omega), (fun y => by dsimp only at y; omega), hv.nb⟩⟩
      · rw [if_neg k4]
        refine (run_go h hT hR.inv rfl rfl (by simpa using k1) ?_ (by simpa using k4)).mono ?_
        · by_cases q3 : (stepM x.m).2.kind = 3
          · refine .inr ⟨by simpa using q3, ?_⟩
            cases hf : (stepM x.m).2.first with
            | false => rfl
            | true => exact absurd ⟨q3, hf⟩ k3
          · exact .inl (by simpa using q3)
        · rintro r w' ⟨rfl, q⟩
          obtain ⟨F, q⟩ := q.out
          exact ⟨rfl, _, q, hv.of (by omega) (by show x.part ≤ 4; omega) hv.nx rfl rfl rfl⟩
theorem part5_any (h : Full W G0 b z mb mg w x ws true n) (hI : InY x) (hp : x.part = 5) (hl : plY x ≤ (ws.length : Int)) : Calls Tryz.prog 188 #[.pointer (some ⟨b, 0, none⟩), .pointer (some ⟨mb, 0, none⟩)] w fun e w' => e = .returned (.tuple #[]) ∧ Full W G0 b z mb mg w' (scanY x ws) ws false (up n) := by
  obtain ⟨v, h, hv⟩ := h
  obtain ⟨⟨i0, hq⟩, e1, e2, e3, e4⟩ := hv.s5 hp
  obtain ⟨g1, g2, g3, g4, g5, g6, g7⟩ := scan_rel (ws := ws) hI hp hl e1 e2 e3 e4 n
  cases hL : letsY x ws with
  | false =>
    refine scan_any h hq g4 g1 g2 g3 (g7 hL) (dn := false) (by rw [g5, hL]; rfl) (Lib.hid fun u k _ => ?_) (Lib.hid fun u k y => by cases y)
    rw [scanY_no hL]
    exact ⟨_, k, ⟨hv.nx, fun _ => ⟨⟨i0, hq⟩, rfl, rfl, rfl, rfl⟩, hv.b5, (fun y => by omega), hv.nb⟩⟩
  | true =>
    by_cases hb : ((x.at_ + 1 : Nat) : Int) = x.b
    · refine scan_any h hq g4 g1 g2 g3 (g6 hL) (dn := true) (by rw [g5, hL]; exact decide_eq_true hb) (Lib.hid fun u k y => by cases y) (Lib.hid fun u k _ => ?_)
      rw [scanY_end hL hb]
      have := wnext_any k hI (k := 0) (Nat.zero_le _) (hv.b5 (by omega)) hv.nb
      have e : (if x.m.buf.length = 0 then 7 else 6) = (if 0 = x.m.buf.length then 7 else 6) := by
        by_cases q : x.m.buf.length = 0
        · rw [if_pos q, if_pos q.symm]
        · rw [if_neg q, if_neg (fun y => q y.symm)]
      rw [e]
      exact this
    · refine scan_any h hq g4 g1 g2 g3 (g6 hL) (dn := false) (by rw [g5, hL]; exact decide_eq_false hb) (Lib.hid fun u k _ => ?_) (Lib.hid fun u k y => by cases y)
      rw [scanY_on hL hb]
      exact ⟨_, k.like rfl rfl rfl rfl, ⟨hv.nx, fun _ => ⟨⟨i0, hq⟩, rfl, rfl, rfl, rfl⟩, hv.b5, (fun y => by dsimp only at y; omega), hv.nb⟩⟩
theorem part6_any (h : Full W G0 b z mb mg w x ws true n) (hI : InY x) (hp : x.part = 6) (hl : plY x ≤ (ws.length : Int)) : Calls Tryz.prog 229 #[.pointer (some ⟨b, 0, none⟩), .pointer (some ⟨mb, 0, none⟩)] w fun e w' => e = .returned (.tuple #[]) ∧ Full W G0 b z mb mg w' (backY x) (backW x ws) false (up n) := by
  obtain ⟨v, h, hv⟩ := h
  obtain ⟨⟨i0, hq⟩, e1, e2⟩ := hv.w6 hp
  have h6 := hI.at6 hp
  obtain ⟨g1, g2, g3, g4, g5, g6⟩ := write_rel (ws := ws) hI hp hl n
  rw [← e2] at g1 g2 g3 g4 g5 g6
  unfold backY
  by_cases d : x.at_ % 3 = 2
  · refine write_any h hq g1 g2 g5 g6 g3 (dn := true) (by rw [g4]; exact decide_eq_true d) (Lib.hid fun u k y => by cases y) (Lib.hid fun u k _ => ?_)
    have := wnext_any k hI (k := x.at_ / 3 + 1) (by omega) e1 hv.nb
    rw [show 3 * (x.at_ / 3 + 1) = x.at_ + 1 by omega] at this
    have e : (if x.at_ + 1 = 3 * x.m.buf.length then 7 else 6) = (if x.at_ / 3 + 1 = x.m.buf.length then 7 else 6) := by
      by_cases q : x.at_ + 1 = 3 * x.m.buf.length
      · rw [if_pos q, if_pos (by omega)]
      · rw [if_neg q, if_neg (by omega)]
    rw [e]
    exact this
  · refine write_any h hq g1 g2 g5 g6 g3 (dn := false) (by rw [g4]; exact decide_eq_false d) (Lib.hid fun u k _ => ?_) (Lib.hid fun u k y => by cases y)
    rw [if_neg (by omega)]
    have a1 : (x.at_ + 1) / 3 = x.at_ / 3 := by omega
    have a2 : (x.at_ + 1) % 3 = x.at_ % 3 + 1 := by omega
    refine ⟨_, k.like (by unfold boxY; dsimp only; rw [hp]) rfl rfl rfl, ⟨by rw [hv.nx, hp], (fun y => by dsimp only at y; omega), (fun y => by dsimp only at y; omega), fun _ => ⟨⟨i0, hq⟩, ?_, ?_⟩, hv.nb⟩⟩
    · dsimp only
      rw [a1]
      exact e1
    · dsimp only
      rw [a1, a2]
      rfl
theorem part7_any (h : Full W G0 b z mb mg w x ws true n) (hI : InY x) (hl : plY x ≤ (ws.length : Int)) : Calls Tryz.prog 226 #[.pointer (some ⟨b, 0, none⟩), .pointer (some ⟨mb, 0, none⟩)] w fun e w' => e = .returned (.tuple #[]) ∧ Full W G0 b z mb mg w' { x with num := wrap64 (Md.Cv.passV x.stamp), part := 8 } (ws.set 2 (Md.Cv.passV x.stamp)) false (up n) := by
  obtain ⟨v, h, hv⟩ := h
  have hb := hI.cb
  have ha := hI.ca
  unfold plY at hl
  refine (publish_any h (by omega)).mono ?_
  rintro r w' ⟨rfl, q⟩
  exact ⟨rfl, _, q.like rfl rfl rfl rfl, ⟨rfl, (fun y => by dsimp only at y; omega), (fun y => by dsimp only at y; omega), (fun y => by dsimp only at y; omega), rfl⟩⟩
theorem part8_any (h : Full W G0 b z mb mg w x ws true n) (hI : InY x) (hl : plY x ≤ (ws.length : Int)) : Calls Tryz.prog 186 #[.pointer (some ⟨b, 0, none⟩), .pointer (some ⟨mb, 0, none⟩)] w fun e w' => e = .returned (.tuple #[]) ∧ Full W G0 b z mb mg w' { x with part := 9 } (ws.set 1 (Md.Cv.passV x.tick)) false (up n) := by
  obtain ⟨v, h, hv⟩ := h
  have hb := hI.cb
  have ha := hI.ca
  unfold plY at hl
  refine (pass_any h (by omega)).mono ?_
  rintro r w' ⟨rfl, q⟩
  exact ⟨rfl, _, q, ⟨rfl, (fun y => by dsimp only at y; omega), (fun y => by dsimp only at y; omega), (fun y => by dsimp only at y; omega), hv.nb⟩⟩
theorem part_any (h : Full W G0 b z mb mg w x ws true n) (hT : TabAt W G0) (hI : InY x) (hp : x.part ≠ 9) (hl : plY x ≤ (ws.length : Int)) {y : Wx} {ws' : List Int} {ac : Bool} (hy : stepY0 x ws = (y, ws', ac)) : Calls Tryz.prog (partF x.part) #[.pointer (some ⟨b, 0, none⟩), .pointer (some ⟨mb, 0, none⟩)] w fun e w' => e = .returned (.tuple #[]) ∧ Full W G0 b z mb mg w' y ws' (!ac) (if ac then up n else n) := by
  have hP := hI.part
  unfold stepY0 at hy
  rcases (by omega : x.part = 1 ∨ x.part = 2 ∨ x.part = 3 ∨ x.part = 4 ∨ x.part = 5 ∨ x.part = 6 ∨ x.part = 7 ∨ x.part = 8) with e | e | e | e | e | e | e | e
  · rw [if_pos e] at hy
    cases hy
    rw [e]
    exact part1_any h hI e hl
  · rw [if_neg (by omega), if_pos e] at hy
    cases hy
    rw [e]
    exact part2_any h hI e hl
  · rw [if_neg (by omega), if_neg (by omega), if_pos e] at hy
    cases hy
    rw [e]
    exact part3_any h hI e hl
  · rw [if_neg (by omega), if_neg (by omega), if_neg (by omega), if_pos e] at hy
    cases hy
    rw [e]
    exact part4_any h hT hI e hl
  · rw [if_neg (by omega), if_neg (by omega), if_neg (by omega), if_neg (by omega), if_pos e] at hy
    cases hy
    rw [e]
    exact part5_any h hI e hl
  · rw [if_neg (by omega), if_neg (by omega), if_neg (by omega), if_neg (by omega), if_neg (by omega), if_pos e] at hy
    cases hy
    rw [e]
    exact part6_any h hI e hl
  · rw [if_neg (by omega), if_neg (by omega), if_neg (by omega), if_neg (by omega), if_neg (by omega), if_neg (by omega), if_pos e] at hy
    cases hy
    rw [e]
    exact part7_any h hI hl
  · rw [if_neg (by omega), if_neg (by omega), if_neg (by omega), if_neg (by omega), if_neg (by omega), if_neg (by omega), if_neg (by omega)] at hy
    cases hy
    rw [e]
    exact part8_any h hI hl
end
section
variable {W w : World} {G0 : List Nat} {b mb mg : Nat} {x : Wx} {z : Wz} {v : Wv} {ws : List Int} {o : Bool} {n : Int}
theorem Mid.lens (h : Mid W G0 b z mb mg w x v ws o n) : w.cell? ⟨b, 5, none⟩ = some (.int .i64 (plY x)) := (h.cell 5).trans rfl
set_option maxRecDepth 100000 in
set_option maxHeartbeats 1000000 in
theorem step_any (h : Full W G0 b z mb mg w x ws o n) (hT : TabAt W G0) (hI : InY x) (hp : x.part ≠ 9) (hl : plY x ≤ (ws.length : Int)) (h0 : 0 ≤ x.steps) (h1 : x.steps ≤ 1000000) {y : Wx} {ws' : List Int} {ac : Bool} (hy : stepY x ws = (y, ws', ac)) :
    Calls Tryz.prog 14 #[.pointer (some ⟨b, 0, none⟩), .pointer (some ⟨mb, 0, none⟩)] w fun e w' => e = .returned (.tuple #[.bool (decide ((y.part : Int) = 9)), .int .i64 0]) ∧ Full W G0 b z mb mg w' y ws' (!ac) (if ac then up n else n) := by
  obtain ⟨v, h, hv⟩ := h
  have h5 := h.lens
  have hb := h.ltB
  have HL := Lib.hid (Md.len_any h.drew.mem)
  have HO := Lib.hid (over_raw h.drew.raw hv.nx)
  rw [decide_eq_false (by omega)] at HO
  have HOP : Hid (Calls Tryz.prog 40 #[.pointer (some ⟨mb, 0, none⟩)] w.drew fun e w' => e = .returned (.tuple #[]) ∧ MemAt 116 w' mb mg ws true n ∧ Chg mb mg w.drew w') := Md.open_any h.drew.mem
  have HM : Hid (∀ w', MemAt 116 w' mb mg ws true n → Chg mb mg w.drew w' → Mid W G0 b z mb mg w' x v ws true n) := fun w' k1 k2 => h.drew.memb k2 k1
  have HP : Hid (∀ w', Mid W G0 b z mb mg w' x v ws true n → Full W G0 b z mb mg (w'.setCell ⟨b, 10, none⟩ (.int .i64 (x.steps + 1))) (tickY x) ws true n) := fun w' k => ⟨v, k.put 10 _ (tickY x) v rfl ⟨rfl, rfl, rfl⟩ ⟨rfl, rfl, rfl, rfl, rfl, rfl, rfl⟩, hv.tick⟩
  obtain ⟨ff, hff⟩ : ∃ ff, partF x.part = ff := ⟨_, rfl⟩
  have hcall := part_enter x.part
  have h12 : Hid (∀ w', Mid W G0 b z mb mg w' x v ws true n → (w'.setCell ⟨b, 10, none⟩ (.int .i64 (x.steps + 1))).cell? ⟨b, 12, none⟩ = some (.func (.func ff) #[] #[]) ∧ w'.cell? ⟨b, 10, none⟩ = some (.int .i64 x.steps) ∧ w'.frozen? ⟨b, 10, none⟩ = false ∧ b < w'.heap.size) := fun w' k => by
    have q := k.put 10 (.int .i64 (x.steps + 1)) (tickY x) v rfl ⟨rfl, rfl, rfl⟩ ⟨rfl, rfl, rfl, rfl, rfl, rfl, rfl⟩
    refine ⟨(q.cell 12).trans ?_, (k.cell 10).trans rfl, k.free 10, k.ltB⟩
    show some v.nx = _
    rw [hv.nx, nextV_ne hp, hff]
    rfl
  have HF : Hid (∀ w', Full W G0 b z mb mg w' (tickY x) ws true n → Calls Tryz.prog ff #[.pointer (some ⟨b, 0, none⟩), .pointer (some ⟨mb, 0, none⟩)] w' fun e w2 => e = .returned (.tuple #[]) ∧ Full W G0 b z mb mg w2 y ws' (!ac) (if ac then up n else n)) := fun w' k => by
    have := part_any k hT hI.tick hp hl hy
    rw [show partF (tickY x).part = ff from hff] at this
    exact this
  have HZ : Hid (∀ w', Full W G0 b z mb mg w' y ws' (!ac) (if ac then up n else n) → Calls Tryz.prog 39 #[.pointer (some ⟨b, 0, none⟩)] w' fun e w2 => e = .returned (.bool (decide ((y.part : Int) = 9))) ∧ w2 = w') := fun w' k => by
    obtain ⟨v', k, kv⟩ := k.raw
    exact over_raw k kv.nx
  obtain ⟨o', ho⟩ : ∃ o', o' = !ac := ⟨_, rfl⟩
  obtain ⟨n', hn⟩ : ∃ n', n' = if ac then up n else n := ⟨_, rfl⟩
  rw [← ho, ← hn] at HF HZ ⊢
  rw [hff] at hcall
  generalize plY x = pl at h5 hl
  have hlt : ¬ (ws.length : Int) < pl := by omega
  clear h hl hv hp hy hT hI hff ho hn
  go_enter Tryz.func14, Tryz.ntmps14
  go_wp2_with fail
  refine wp_region_seq (fun u => u.cell? ⟨b, 5, none⟩ = some (.int .i64 pl) )  ((0, true) :: (2, true) :: (3, true) :: (4, true) :: (5, true) :: (6, true) :: (1, false) :: (7, true) :: [])  Md.Cv.follows13 (by kernel_rfl) (fun _ _ _ _ _ h => h)  h5 ?_
  (repeat ((first | (refine wpSeq_take (v := ?_) rfl (by rfl) (fun wq hSq => ?_) ?_; rotate_left; (focus ((try dsimp only at hSq); go_simp; try with_reducible rfl))) | refine wpSeq_skip rfl (by rfl) ?_); simp only [Act.put, List.setIfInBounds_toArray, List.set_cons_zero, List.set_cons_succ]))
  (refine wpSeq_do rfl (by rfl) (fun KK hK => ?_); go_simp)
  refine HL.out.mono ?_
  rintro e w1 ⟨rfl, hw⟩
  subst w1
  refine hK.out _ _ h5 ?_
  (clear hK KK; try simp only [Act.put, List.setIfInBounds_toArray, List.set_cons_zero, List.set_cons_succ])
  (repeat ((first | (refine wpSeq_take (v := ?_) rfl (by rfl) (fun wq hSq => ?_) ?_; rotate_left; (focus ((try dsimp only at hSq); go_simp; try with_reducible rfl))) | refine wpSeq_skip rfl (by rfl) ?_); simp only [Act.put, List.setIfInBounds_toArray, List.set_cons_zero, List.set_cons_succ]))
  refine wpSeq_nil ?_
  go_wp2_with (first
    | (go_at_call 39; refine (HZ.out _ H4.out).mono ?_; rintro e w5 ⟨rfl, hw⟩; subst w5; clear HZ)
    | (go_at_call 39; refine HO.out.mono ?_; rintro e w2 ⟨rfl, hw⟩; subst w2; clear HO)
    | (go_at_call 40; refine HOP.out.mono ?_; rintro e w3 ⟨rfl, k1, k2⟩; have H3 := Lib.hid (HM.out _ k1 k2); obtain ⟨e12, e10, f10, l10⟩ := h12.out _ H3.out; clear k1 k2 HOP HM h12)
    | (refine (HF.out _ (HP.out _ H3.out)).mono ?_; rintro e w4 ⟨rfl, k⟩; have H4 := Lib.hid k; clear k HF HP H3))
  go_ret2
  exact ⟨rfl, H4.out⟩
end
end Go.Proofs.YteinilmecnlanaaGreatDoor.Ww
namespace Go.Proofs.YteinilmecnlanaaGreatDoor.Ww
open Go.ChangeShapes Go.WideShapes Go.ChangeAt Go.RowKit Num Rr
attribute [local go_sem] run_store_float frombits_run bits_run Md.Ce.run_store_func Md.Ce.run_store_nilFunc
def rowL (l : List Nat) (k n : Nat) : List Nat := (List.range n).map fun i => if i < k then fixB (l.getD i 0) else 0
theorem rowL_len (l : List Nat) (k n : Nat) : (rowL l k n).length = n := by simp [rowL]
theorem rowL_zero (l : List Nat) (n : Nat) : rowL l 0 n = List.replicate n 0 := by
  apply List.ext_getElem
  · simp [rowL]
  · intro i h1 h2
    simp [rowL]
theorem rowL_all {l : List Nat} {n : Nat} (h : l.length = n) : rowL l n n = l.map fixB := by
  apply List.ext_getElem
  · simp [rowL, h]
  · intro i h1 h2
    have hi : i < n := by simpa [rowL] using h1
    simp [rowL, hi, h]
theorem rowL_set (l : List Nat) (k n : Nat) : (rowL l k n).set k (fixB (l.getD k 0)) = rowL l (k + 1) n := by
  apply List.ext_getElem
  · simp [rowL]
  · intro i h1 h2
    rw [List.getElem_set]
    by_cases e : k = i
    · subst e
      simp [rowL]
    · rw [if_neg e]
      simp only [rowL, List.getElem_map, List.getElem_range]
      by_cases q : i < k
      · rw [if_pos q, if_pos (by omega)]
      · rw [if_neg q, if_neg (by omega)]
theorem fMk (n : Nat) (hn : n ≤ 256) (w : World) : (Instr.makeSlice 27 (.int .i64 (n : Int)) (.int .i64 (n : Int))).run Tryz.prog w = .ok (.slice (some ⟨w.heap.size, 0, none⟩) n n) (w.alloc (.cells (fls (List.replicate n 0)).toArray 73)) := by
  obtain ⟨i, hi, hz0, hz1, hz2⟩ := info_parts fInfo
  rw [run_make w 27 73 i (.float .f64 0) Tryz.underlying27 hi hz0 .i64 .i64 n n (by omega) (Int.le_refl _) (by rw [hz2]; omega) (by omega)]
  have e : (madeCells (.float .f64 0 : Value).cells (((n : Int)).toNat * i.size)) = (fls (List.replicate n 0)).toArray := by
    rw [hz1, Nat.mul_one, Int.toNat_natCast]
    apply Array.toList_inj.1
    rw [show (.float .f64 0 : Value).cells = #[.float .f64 0] from rfl, toList_madeCells_one]
    simp [fls]
  rw [e, Int.toNat_natCast]
theorem row_made {w : World} {l : List Nat} {n : Nat} (hl : l.length = n) (hn : n ≤ 256) : RowAt 73 (w.alloc (.cells (fls l).toArray 73)) (some ⟨w.heap.size, 0, none⟩) n (fls l) := ⟨by
  rw [fls_len, hl]
  exact World.ownsRow_lit w _ n (Nat.zero_le _) (by unfold maxLen; omega) (by rw [List.size_toArray, fls_len, hl, Nat.mul_one])⟩
set_option maxRecDepth 100000 in
set_option maxHeartbeats 1000000 in
theorem fixed_any {w : World} {po : Option Addr} {l : List Nat} {k co : Nat} (hk : l.length = k) (hL : FlAt w po l) (hk8 : k ≤ 8) : Calls Tryz.prog 68 #[.slice po k co] w fun e w' => e = .returned (.slice (some ⟨w.heap.size, 0, none⟩) k k) ∧ RowAt 73 w' (some ⟨w.heap.size, 0, none⟩) k (fls (l.map fixB)) ∧ Below w.heap.size w w' := by
  have hmk := fMk k (by omega) w
  have HL0 : Hid (∀ wr, Below w.heap.size w wr → FlAt wr po l) := fun wr h => hL.on h
  have HE : Hid (rowL l k k = l.map fixB) := rowL_all hk
  have HS0 : Hid (RowAt 73 (w.alloc (.cells (fls (List.replicate k 0)).toArray 73)) (some ⟨w.heap.size, 0, none⟩) k (fls (rowL l 0 k))) := by
    have := row_made (w := w) (rowL_len l 0 k) (by omega)
    rw [rowL_zero] at this ⊢
    exact this
  have HAT : Hid (∀ (v x y s : Int) (w : World), Calls Tryz.prog 59 #[.agg #[.int .u64 v, .int .u64 x, .int .u64 y], .int .u64 s] w fun e w' => e = .returned (.float .f64 (Md.Ce.atV v x y s)) ∧ Below w.heap.size w w') := Md.Ce.cat_any
  have HK : Hid (l.length = k) := hk
  clear hL hk
  go_enter Tryz.func68, Tryz.ntmps68
  go_wp2
  go_loopw [11] (fun vi wr => ∃ i : Nat, vi = .int .i64 i ∧ i ≤ k ∧ Hid (RowAt 73 wr (some ⟨w.heap.size, 0, none⟩) k (fls (rowL l i k))) ∧ Hid (Below w.heap.size w wr)) (fun vi _ => k - (intOf vi).toNat)
  case atStart => exact ⟨0, rfl, Nat.zero_le _, HS0.out, below_alloc w _⟩
  case round =>
    obtain ⟨i, rfl, hi, HR, HB⟩ := hrel
    by_cases hlt : i < k
    · have hlt' : (i : Int) < (k : Int) := by omega
      obtain ⟨g, o, rfl, hg, hx⟩ := HL0.out _ HB.out i (by rw [HK.out]; exact hlt)
      have hAt : Hid (∀ y : Nat, Md.Ce.atV 0 (y : Int) 0 0 = fixB y) := fun y => by unfold Md.Ce.atV; rw [if_neg (by omega)]; rfl
      have HS1 := Lib.hid (rowL_set l i k)
      generalize l.getD i 0 = y at hx HS1
      obtain ⟨r0, r1, r2⟩ := row_get HR.out (j := i) (v := .float .f64 ((rowL l i k).getD i 0)) (by rw [fls_get (by rw [rowL_len]; exact hlt)])
      have HD : Hid (∀ u, Below wr.heap.size wr u → u.cell? ⟨w.heap.size, i, none⟩ = some (.float .f64 ((rowL l i k).getD i 0)) ∧ u.frozen? ⟨w.heap.size, i, none⟩ = false ∧ w.heap.size < u.heap.size ∧ RowAt 73 (u.setCell ⟨w.heap.size, i, none⟩ (.float .f64 (fixB y))) (some ⟨w.heap.size, 0, none⟩) k (fls (rowL l (i + 1) k)) ∧ Below w.heap.size w (u.setCell ⟨w.heap.size, i, none⟩ (.float .f64 (fixB y)))) := fun u hu => by
        have h1 := HR.out.on hu
        obtain ⟨a1, a2, a3⟩ := row_get h1 (j := i) (v := .float .f64 ((rowL l i k).getD i 0)) (by rw [fls_get (by rw [rowL_len]; exact hlt)])
        have q := (row_put h1 i (.float .f64 (fixB y))).1
        rw [fls_set, HS1.out] at q
        exact ⟨a1, a2, a3, q, (HB.out.trans (hu.mono HB.out.size)).setCell (Nat.le_refl _) _⟩
      clear HL0 HS0
      go_wp2_with (go_at_call 59; refine (HAT.out _ _ _ _ _).mono ?_; rintro e u ⟨rfl, hb⟩; rw [hAt.out]; obtain ⟨a1, a2, a3, a4, a5⟩ := HD.out _ hb; have HZ := Lib.hid (And.intro a4 a5); clear a4 a5 hb)
      exact ⟨⟨i + 1, by first | rfl | (congr 1), by omega, HZ.out.1, HZ.out.2⟩, by simp [intOf]; omega⟩
    · have hlt' : ¬ (i : Int) < (k : Int) := by omega
      obtain rfl : i = k := by omega
      have HZ := Lib.hid HR.out
      rw [HE.out] at HZ
      go_wp2
      go_ret
      exact ⟨rfl, HZ.out, HB.out⟩
theorem heap_old {w : World} {o y : Obj} {k : Nat} (e : w.heap[k]? = some y) : (w.alloc o).heap[k]? = some y := (Below.heap_alloc _ _ _ (Array.getElem?_eq_some_iff.1 e).1).trans e
theorem cells6 {w : World} {x : Nat} {v0 v1 v2 v3 v4 v5 : Value} {T : TypeId} (h : w.heap[x]? = some (.cells #[v0, v1, v2, v3, v4, v5] T (0, 0))) : w.cell? ⟨x, 0, none⟩ = some v0 ∧ w.cell? ⟨x, 1, none⟩ = some v1 ∧ w.cell? ⟨x, 2, none⟩ = some v2 ∧ w.cell? ⟨x, 3, none⟩ = some v3 ∧ w.cell? ⟨x, 4, none⟩ = some v4 ∧ w.cell? ⟨x, 5, none⟩ = some v5 ∧ x < w.heap.size :=
  ⟨(cell_of_row w x 0 _ _ _ h).trans rfl, (cell_of_row w x 1 _ _ _ h).trans rfl, (cell_of_row w x 2 _ _ _ h).trans rfl, (cell_of_row w x 3 _ _ _ h).trans rfl, (cell_of_row w x 4 _ _ _ h).trans rfl, (cell_of_row w x 5 _ _ _ h).trans rfl, lt_of_block h⟩
theorem cells4 {w : World} {x : Nat} {v0 v1 v2 v3 : Value} {T : TypeId} (h : w.heap[x]? = some (.cells #[v0, v1, v2, v3] T (0, 0))) : w.cell? ⟨x, 0, none⟩ = some v0 ∧ w.cell? ⟨x, 1, none⟩ = some v1 ∧ w.cell? ⟨x, 2, none⟩ = some v2 ∧ w.cell? ⟨x, 3, none⟩ = some v3 ∧ x < w.heap.size :=
  ⟨(cell_of_row w x 0 _ _ _ h).trans rfl, (cell_of_row w x 1 _ _ _ h).trans rfl, (cell_of_row w x 2 _ _ _ h).trans rfl, (cell_of_row w x 3 _ _ _ h).trans rfl, lt_of_block h⟩
theorem cells2 {w : World} {x : Nat} {v0 v1 : Value} {T : TypeId} (h : w.heap[x]? = some (.cells #[v0, v1] T (0, 0))) : w.cell? ⟨x, 0, none⟩ = some v0 ∧ w.cell? ⟨x, 1, none⟩ = some v1 ∧ x < w.heap.size :=
  ⟨(cell_of_row w x 0 _ _ _ h).trans rfl, (cell_of_row w x 1 _ _ _ h).trans rfl, lt_of_block h⟩
def newY (a b c e t : Int) (cs : List Ins) (l : List Nat) (th : Int) : Wx := ⟨a, b, th, t, l.map fixB, newM a c e t cs l, 0, 1, 0, 0, [], 0, 0⟩
theorem new_inY {a b c e t : Int} {cs : List Ins} {l : List Nat} {th : Int} (hc : Md.cfgB a b c e = true) (hx : ∀ k, k < cs.length → (ci cs k).x < 18446744073709551616) (hl : ∀ x ∈ l, x < 18446744073709551616) (hk : l.length ≤ 8) (ht : 0 ≤ th ∧ th < b) : InY (newY a b c e t cs l th) := by
  obtain ⟨h1, h2, h3, h4⟩ := Md.cfgB_iff.1 hc
  have z : u64B 0 := ⟨by decide, by decide⟩
  exact ⟨h1, h2, rfl, ht, new_rest hc hx hl, by show (l.map fixB).length ≤ 8; simpa using hk, ⟨by show 1 ≤ 1; omega, by show 1 ≤ 9; omega⟩, z, z, rfl, (fun v hv => by cases hv), fun _ => rfl, (fun q => by have q' : 5 ≤ 1 := q; omega), (fun q => by have q' : 5 ≤ 1 := q; omega), fun _ => rfl, (fun q => by have q' : 1 = 5 := q; omega), (fun q => by have q' : 1 = 6 := q; omega)⟩
def mayX (a b c e : Int) (k : Nat) (th : Int) : Bool := Md.cfgB a b c e && decide (k ≤ 8) && decide (0 ≤ th ∧ th < b)
structure Made (w w' : World) (bx : Nat) (x : Wx) : Prop where
  at_ : ∃ z v, RawAt w' bx x z v ∧ VOk x v ∧ Abv w.heap.size (gY bx v) ∧ Abv w.heap.size z.KK
  bl : Below w.heap.size w w'
section
variable {w : World} {a b c e t th : Int} {ao : Option Addr} {cs : List Ins} {n cap : Nat} {po : Option Addr} {l : List Nat} {k co : Nat}
abbrev wnewC (b p4 p5 t : Int) (pa k bm : Nat) : Array Value := #[.int .i64 0, .int .i64 1, .int .i64 2, .int .i64 3, .int .i64 p4, .int .i64 p5, .int .i64 b, .int .i64 t, .slice (some ⟨pa, 0, none⟩) k k, .pointer (some ⟨bm, 0, none⟩), .int .i64 0, .int .i64 0, .nilFunc, .int .u64 0, .int .u64 0, .slice none 0 0, .pointer none, .int .i64 0, .pointer none, .int .u64 0]
theorem turnTo_new {u : World} {g : Nat} {p4 p5 : Int} {pa bm : Nat} (h : u.heap[g]? = some (.cells (wnewC b p4 p5 t pa k bm) 102 (0, 0))) (f : FuncId) : Calls Tryz.prog 69 #[.pointer (some ⟨g, 0, none⟩), .int .i64 1, .func (.func f) #[] #[]] u fun e w' => e = .returned (.tuple #[]) ∧ w' = (u.setCell ⟨g, 11, none⟩ (.int .i64 1)).setCell ⟨g, 12, none⟩ (.func (.func f) #[] #[]) := by
  have h11 : u.cell? ⟨g, 11, none⟩ = some (.int .i64 0) := (cell_of_row u g 11 _ _ _ h).trans rfl
  have f11 := frozen_of_row u g 11 _ _ h
  have h1 := heap_setCell_same u g 11 _ _ (.int .i64 1) h
  have h12 : (u.setCell ⟨g, 11, none⟩ (.int .i64 1)).cell? ⟨g, 12, none⟩ = some .nilFunc := (cell_of_row _ g 12 _ _ _ h1).trans rfl
  have f12 := frozen_of_row _ g 12 _ _ h1
  have hb := lt_of_block h
  clear h h1
  go_enter Tryz.func69, Tryz.ntmps69
  go_wp2
  go_end0
  exact ⟨rfl, rfl⟩
theorem made_of {u2 u3 : World} {bm : Nat} {K : List Nat} {N : World} (hk : l.length = k) (hN : Below w.heap.size w N) (g : Gm N [] bm K u2 (newM a c e t cs l)) (hK : Abv N.heap.size K) (hr : RowAt 73 u3 (some ⟨u2.heap.size, 0, none⟩) k (fls (l.map fixB))) (hb : Below u2.heap.size u2 u3) {v : World} (hv : v = (((u3.alloc (.cells (wnewC b (3 + b) (3 + b + 3 * a) t u2.heap.size k bm) 102)).setCell ⟨u3.heap.size, 11, none⟩ (.int .i64 1)).setCell ⟨u3.heap.size, 12, none⟩ (.func (.func 70) #[] #[]))) : Made w v u3.heap.size (newY a b c e t cs l th) := by
  obtain ⟨F, hM, tF⟩ := g.mc
  have lo : Abv N.heap.size F := fun i hi => (tF.own i hi).elim (fun q => by simp at q) id
  have sN := hN.size
  have s2 := tF.size
  have s3 := hb.size
  have lF := hM.blw
  have lK := hM.blwK
  have lr := hr.blw
  have hbx : v.heap[u3.heap.size]? = some (.cells (boxY (newY a b c e t cs l th) ⟨bm, K, some ⟨u2.heap.size, 0, none⟩, k⟩ ⟨none, 0, none, ⟨0, 0, 0, 0, 0⟩, none, ⟨0, 0, 0, 0, 0, 0⟩, 0, 0, fnV 70, F⟩) 102 (0, 0)) := by
    have h0 : (u3.alloc (.cells (wnewC b (3 + b) (3 + b + 3 * a) t u2.heap.size k bm) 102)).heap[u3.heap.size]? = _ := heap_alloc_new _ _
    have h1 := heap_setCell_same _ u3.heap.size 11 _ _ (.int .i64 1) h0
    have h2 := heap_setCell_same _ u3.heap.size 12 _ _ (.func (.func 70) #[] #[]) h1
    rw [hv]
    refine h2.trans ?_
    unfold boxY newY ptrV fnV
    dsimp only
    rw [List.length_map, hk]
    rfl
  have kp : ∀ i, i < u3.heap.size → v.heap[i]? = u3.heap[i]? := fun i hi => by
    rw [hv]
    exact (heap_setCell_other _ _ _ _ (fun (e : i = u3.heap.size) => by omega)).trans ((heap_setCell_other _ _ _ _ (fun (e : i = u3.heap.size) => by omega)).trans (Below.heap_alloc _ _ _ hi))
  have sv : u3.heap.size ≤ v.heap.size := by rw [hv]; simp
  have b3 : Below u3.heap.size u3 v := ⟨by rw [hv]; rfl, by rw [hv]; rfl, by rw [hv]; rfl, sv, kp⟩
  have b2 : Below u2.heap.size u2 v := hb.trans (b3.mono s3)
  refine ⟨⟨_, _, ⟨hbx, hM.on b2, ⟨World.ownsRow_nil _ _ _ _⟩, (fun n hn => by cases hn), (fun n hn => by cases hn), ?_, ?_⟩, ⟨rfl, (fun q => by cases q), fun _ => rfl, (fun q => by cases q), (show wrap64 0 = 0 from by decide +kernel)⟩, ?_, ?_⟩, ?_⟩
  · exact hr.on b3
  · intro i j hij y hy hz
    have A : ∀ i y, y ∈ (LY u3.heap.size ⟨bm, K, some ⟨u2.heap.size, 0, none⟩, k⟩ ⟨none, 0, none, ⟨0, 0, 0, 0, 0⟩, none, ⟨0, 0, 0, 0, 0, 0⟩, 0, 0, fnV 70, F⟩).getD i [] → (i = 0 ∧ y = u3.heap.size) ∨ (i = 4 ∧ y ∈ F) ∨ (i = 5 ∧ (y ∈ K ∨ y = u2.heap.size)) := fun i y hy => by
      match i, hy with
      | 0, hy => exact .inl ⟨rfl, by simpa [LY] using hy⟩
      | 1, hy => simp [LY, fpR] at hy
      | 2, hy => simp [LY] at hy
      | 3, hy => simp [LY] at hy
      | 4, hy => exact .inr (.inl ⟨rfl, hy⟩)
      | 5, hy => exact .inr (.inr ⟨rfl, by simpa [LY, Wz.KK, fpR, eq_comm] using hy⟩)
      | i + 6, hy => simp [LY] at hy
    have l2 : u2.heap.size < u3.heap.size := lr _ (by simp [fpR])
    have sK := hM.sepK
    rcases A i y hy with ⟨h1, h2⟩ | ⟨h1, h2⟩ | ⟨h1, h2⟩ <;> rcases A j y hz with ⟨g1, g2⟩ | ⟨g1, g2⟩ | ⟨g1, g2⟩
    · omega
    · have := lF y g2; omega
    · rcases g2 with g2 | g2
      · have := lK y g2; omega
      · omega
    · have := lF y h2; omega
    · omega
    · rcases g2 with g2 | g2
      · exact sK y g2 h2
      · have := lF y h2; omega
    · rcases h2 with h2 | h2
      · have := lK y h2; omega
      · omega
    · rcases h2 with h2 | h2
      · exact sK y h2 g2
      · have := lF y g2; omega
    · omega
  · intro i hi
    rcases mem_gY.1 hi with hi | hi | hi | hi | hi
    · omega
    · simp [fpR] at hi
    · cases hi
    · cases hi
    · have := lo i hi; omega
  · intro i hi
    have q' : i ∈ K ∨ i = u2.heap.size := by simpa [Wz.KK, fpR, eq_comm] using hi
    rcases q' with q' | q'
    · have := hK i q'; omega
    · omega
  · have bN : Below N.heap.size N u2 := g.fresh
    exact hN.trans ((bN.trans (b2.mono s2)).mono sN)
set_option maxRecDepth 100000 in
set_option maxHeartbeats 1000000 in
theorem new_nil (h : (Md.cfgB a b c e && decide (k ≤ 8)) = false) : Calls Tryz.prog 35 #[cfgV a b c e, .int .i64 th, .agg #[.int .i64 t, .slice ao n cap], .slice po k co] w fun r w' => r = .returned (.pointer none) ∧ Below w.heap.size w w' := by
  have HN : Hid (∀ u, Calls Tryz.prog 61 #[cfgV a b c e, .agg #[.int .i64 t, .slice ao n cap], .slice po k co] u fun r w' => r = .returned (.pointer none) ∧ Below u.heap.size u w') := fun u => mnew_nil h
  have HP := Lib.hid (fun u => Md.place_any a b c e u)
  have HX : Hid (∀ u, Below (newW w a b c e t ao n cap).heap.size (newW w a b c e t ao n cap) u → u.heap[w.heap.size]? = some (cfgO a b c e) ∧ u.heap[w.heap.size + 1]? = some (prgO t ao n cap) ∧ Below w.heap.size w u) := fun u q => ⟨(q.block _ (by simp; omega)).trans (heap_old (heap_alloc_new _ _)), (q.block _ (by simp)).trans (heap_new (by simp)), (newW_boxes q).2.2⟩
  cases hc : Md.cfgB a b c e
  · simp only [hc] at HP
    go_enter Tryz.func35, Tryz.ntmps35
    go_wp2_with (first
      | (go_at_call 61; refine (HN.out _).mono ?_; rintro e u2 ⟨rfl, q⟩; have H2 := Lib.hid (below_chain (H1.out.alloc H1.out.size _) q); clear q)
      | (go_at_call 67; refine (HP.out _).mono ?_; rintro e u1 ⟨rfl, q⟩; have H1 := Lib.hid q; obtain ⟨b0, b1, b3⟩ := HX.out _ q; obtain ⟨c0, c1, c2, c3, c4⟩ := cells4 b0; obtain ⟨d0, d1, d2⟩ := cells2 b1; clear b0 b1 b3 q))
    go_ret
    exact ⟨rfl, (HX.out _ H2.out).2.2⟩
  · simp only [hc] at HP
    go_enter Tryz.func35, Tryz.ntmps35
    go_wp2_with (first
      | (go_at_call 61; refine (HN.out _).mono ?_; rintro e u2 ⟨rfl, q⟩; have H2 := Lib.hid (below_chain (H1.out.alloc H1.out.size _) q); clear q)
      | (go_at_call 67; refine (HP.out _).mono ?_; rintro e u1 ⟨rfl, q⟩; have H1 := Lib.hid q; obtain ⟨b0, b1, b3⟩ := HX.out _ q; obtain ⟨c0, c1, c2, c3, c4⟩ := cells4 b0; obtain ⟨d0, d1, d2⟩ := cells2 b1; clear b0 b1 b3 q))
    go_ret
    exact ⟨rfl, (HX.out _ H2.out).2.2⟩
set_option maxRecDepth 100000 in
set_option maxHeartbeats 1000000 in
theorem new_out (hc : Md.cfgB a b c e = true) (hn : cs.length = n) (hk : l.length = k) (hk8 : k ≤ 8) (hT : Shaped5 w) (hC : CodeAt w ao cs) (hL : FlAt w po l) (hnl : n ≤ 9223372036854775807) (ht : ¬ (0 ≤ th ∧ th < b)) : Calls Tryz.prog 35 #[cfgV a b c e, .int .i64 th, .agg #[.int .i64 t, .slice ao n cap], .slice po k co] w fun r w' => r = .returned (.pointer none) ∧ Below w.heap.size w w' := by
  have HN : Hid (∀ u, Below w.heap.size w u → Calls Tryz.prog 61 #[cfgV a b c e, .agg #[.int .i64 t, .slice ao n cap], .slice po k co] u fun r w' => ∃ bm : Nat, r = .returned (.pointer (some ⟨bm, 0, none⟩)) ∧ Below u.heap.size u w') := fun u hb => (mnew_any hn hk (hT.on hb) (hC.on hb) (hL.on hb) hnl hc hk8).mono (by rintro r w' ⟨bm, K, q, g, _⟩; exact ⟨bm, q, g.fresh⟩)
  have HP := Lib.hid (fun u => Md.place_any a b c e u)
  have HX : Hid (∀ u, Below (newW w a b c e t ao n cap).heap.size (newW w a b c e t ao n cap) u → u.heap[w.heap.size]? = some (cfgO a b c e) ∧ u.heap[w.heap.size + 1]? = some (prgO t ao n cap) ∧ Below w.heap.size w u) := fun u q => ⟨(q.block _ (by simp; omega)).trans (heap_old (heap_alloc_new _ _)), (q.block _ (by simp)).trans (heap_new (by simp)), (newW_boxes q).2.2⟩
  simp only [hc] at HP
  clear hc hn hk hk8 hT hC hL hnl
  by_cases h0 : th < 0
  · go_enter Tryz.func35, Tryz.ntmps35
    go_wp2_with (first
      | (go_at_call 61; refine (HN.out _ (HX.out _ (H1.out.alloc H1.out.size _)).2.2).mono ?_; rintro e u2 ⟨br, rfl, q⟩; have H2 := Lib.hid (below_chain (H1.out.alloc H1.out.size _) q); clear q)
      | (go_at_call 67; refine (HP.out _).mono ?_; rintro e u1 ⟨rfl, q⟩; have H1 := Lib.hid q; obtain ⟨b0, b1, b3⟩ := HX.out _ q; obtain ⟨c0, c1, c2, c3, c4⟩ := cells4 b0; obtain ⟨d0, d1, d2⟩ := cells2 b1; clear b0 b1 b3 q))
    go_ret
    exact ⟨rfl, (HX.out _ H2.out).2.2⟩
  · have h1 : b ≤ th := by omega
    go_enter Tryz.func35, Tryz.ntmps35
    go_wp2_with (first
      | (go_at_call 61; refine (HN.out _ (HX.out _ (H1.out.alloc H1.out.size _)).2.2).mono ?_; rintro e u2 ⟨br, rfl, q⟩; have H2 := Lib.hid (below_chain (H1.out.alloc H1.out.size _) q); obtain ⟨x0, x1, x2, x3, x4⟩ := cells4 (HX.out _ H2.out).1; clear q)
      | (go_at_call 67; refine (HP.out _).mono ?_; rintro e u1 ⟨rfl, q⟩; have H1 := Lib.hid q; obtain ⟨b0, b1, b3⟩ := HX.out _ q; obtain ⟨c0, c1, c2, c3, c4⟩ := cells4 b0; obtain ⟨d0, d1, d2⟩ := cells2 b1; clear b0 b1 b3 q))
    go_ret
    exact ⟨rfl, (HX.out _ H2.out).2.2⟩
set_option maxRecDepth 100000 in
set_option maxHeartbeats 1000000 in
theorem new_yes (hc : Md.cfgB a b c e = true) (hn : cs.length = n) (hk : l.length = k) (hk8 : k ≤ 8) (hT : Shaped5 w) (hC : CodeAt w ao cs) (hL : FlAt w po l) (hnl : n ≤ 9223372036854775807) (h0 : 0 ≤ th) (h1 : th < b) : Calls Tryz.prog 35 #[cfgV a b c e, .int .i64 th, .agg #[.int .i64 t, .slice ao n cap], .slice po k co] w fun r w' => ∃ bx, r = .returned (.pointer (some ⟨bx, 0, none⟩)) ∧ Made w w' bx (newY a b c e t cs l th) := by
  have HN : Hid (∀ u, Below w.heap.size w u → Calls Tryz.prog 61 #[cfgV a b c e, .agg #[.int .i64 t, .slice ao n cap], .slice po k co] u fun r w' => ∃ bm K, r = .returned (.pointer (some ⟨bm, 0, none⟩)) ∧ Gm u [] bm K w' (newM a c e t cs l) ∧ Abv u.heap.size K) := fun u hb => mnew_any hn hk (hT.on hb) (hC.on hb) (hL.on hb) hnl hc hk8
  have HP := Lib.hid (fun u => Md.place_any a b c e u)
  have HX : Hid (∀ u, Below (newW w a b c e t ao n cap).heap.size (newW w a b c e t ao n cap) u → u.heap[w.heap.size]? = some (cfgO a b c e) ∧ u.heap[w.heap.size + 1]? = some (prgO t ao n cap) ∧ Below w.heap.size w u) := fun u q => ⟨(q.block _ (by simp; omega)).trans (heap_old (heap_alloc_new _ _)), (q.block _ (by simp)).trans (heap_new (by simp)), (newW_boxes q).2.2⟩
  have HFX : Hid (∀ u, Below w.heap.size w u → Calls Tryz.prog 68 #[.slice po k co] u fun e w' => e = .returned (.slice (some ⟨u.heap.size, 0, none⟩) k k) ∧ RowAt 73 w' (some ⟨u.heap.size, 0, none⟩) k (fls (l.map fixB)) ∧ Below u.heap.size u w') := fun u hb => fixed_any hk (hL.on hb) hk8
  have HMD : Hid (∀ u2 u3 bm K N v, Below w.heap.size w N → Gm N [] bm K u2 (newM a c e t cs l) → Abv N.heap.size K → RowAt 73 u3 (some ⟨u2.heap.size, 0, none⟩) k (fls (l.map fixB)) → Below u2.heap.size u2 u3 → v = (((u3.alloc (.cells (wnewC b (3 + b) (3 + b + 3 * a) t u2.heap.size k bm) 102)).setCell ⟨u3.heap.size, 11, none⟩ (.int .i64 1)).setCell ⟨u3.heap.size, 12, none⟩ (.func (.func 70) #[] #[])) → Made w v u3.heap.size (newY a b c e t cs l th)) := fun u2 u3 bm K N v q1 q2 q3 q4 q5 q6 => made_of hk q1 q2 q3 q4 q5 q6
  simp only [hc] at HP
  clear hc hn hk hk8 hT hC hL hnl
  generalize newY a b c e t cs l th = X at *
  generalize newM a c e t cs l = m0 at *
  obtain ⟨p5, h5⟩ : ∃ p5, 3 + b + 3 * a = p5 := ⟨_, rfl⟩
  obtain ⟨p4, h4⟩ : ∃ p4, 3 + b = p4 := ⟨_, rfl⟩
  rw [h5, h4] at HMD HP
  clear h4 h5
  go_enter Tryz.func35, Tryz.ntmps35
  go_wp2_with (first
    | (go_at_call 61; refine (HN.out _ (HX.out _ (H1.out.alloc H1.out.size _)).2.2).mono ?_; rintro e u2 ⟨bm, K, rfl, q1, q2⟩; have G2 := Lib.hid (And.intro q1 q2); have H2 := Lib.hid (below_chain (H1.out.alloc H1.out.size _) q1.fresh); obtain ⟨x0, x1, x2, x3, x4⟩ := cells4 (HX.out _ H2.out).1; obtain ⟨s0, s1, s2⟩ := cells2 (HX.out _ H2.out).2.1; obtain ⟨t0, t1, t2, t3, t4, t5, t6⟩ := cells6 ((q1.fresh.block _ (by simp)).trans (heap_alloc_new u1 (.cells #[.int .i64 0, .int .i64 1, .int .i64 2, .int .i64 3, .int .i64 p4, .int .i64 p5] 51))); clear q1 q2)
    | (go_at_call 67; refine (HP.out _).mono ?_; rintro e u1 ⟨rfl, q⟩; have H1 := Lib.hid q; obtain ⟨b0, b1, b3⟩ := HX.out _ q; obtain ⟨c0, c1, c2, c3, c4⟩ := cells4 b0; obtain ⟨d0, d1, d2⟩ := cells2 b1; clear b0 b1 b3 q))
  clear c0 c1 c2 c3 c4 d0 d1 d2 x0 x2 x3 s1
  have B2 : Hid (Below w.heap.size w u2) := (HX.out _ H2.out).2.2
  refine wp_region_seq (fun u => (u.cell? ⟨u1.heap.size, 0, none⟩ = some (.int .i64 0) ∧ u.cell? ⟨u1.heap.size, 1, none⟩ = some (.int .i64 1) ∧ u.cell? ⟨u1.heap.size, 2, none⟩ = some (.int .i64 2) ∧ u.cell? ⟨u1.heap.size, 3, none⟩ = some (.int .i64 3) ∧ u.cell? ⟨u1.heap.size, 4, none⟩ = some (.int .i64 p4) ∧ u.cell? ⟨u1.heap.size, 5, none⟩ = some (.int .i64 p5)) ∧ u.cell? ⟨w.heap.size, 1, none⟩ = some (.int .i64 b) ∧ u.cell? ⟨w.heap.size + 1, 0, none⟩ = some (.int .i64 t) )  ((0, true) :: (1, true) :: (2, true) :: (3, true) :: (4, true) :: (5, true) :: (7, true) :: (6, false) :: (8, true) :: (9, false) :: (10, true) :: [])  Md.Cv.follows13 (by kernel_rfl) (fun _ _ _ _ _ h => h)  ⟨⟨t0, t1, t2, t3, t4, t5⟩, x1, s0⟩ ?_
  (repeat ((first | (refine wpSeq_take (v := ?_) rfl (by rfl) (fun wq hSq => ?_) ?_; rotate_left; (focus ((try dsimp only at hSq); go_simp; try with_reducible rfl))) | refine wpSeq_skip rfl (by rfl) ?_); simp only [Act.put, List.setIfInBounds_toArray, List.set_cons_zero, List.set_cons_succ]))
  (refine wpSeq_do rfl (by rfl) (fun KK hK => ?_); go_simp)
  refine (HFX.out _ (B2.out.trans ((Same.drew u2).below _))).mono ?_
  rintro e u3 ⟨rfl, q1, q2⟩
  have H3 : Hid (RowAt 73 u3 (some ⟨u2.heap.size, 0, none⟩) k (fls (l.map fixB)) ∧ Below u2.heap.size u2 u3) := ⟨q1, ((Same.drew u2).below _).trans q2⟩
  clear q1 q2
  have ck : ∀ (g j : Nat) (v : Value), g < u2.heap.size → u2.cell? ⟨g, j, none⟩ = some v → u3.cell? ⟨g, j, none⟩ = some v := fun g j v hg hv => (H3.out.2.cell (p := ⟨g, j, none⟩) hg).trans hv
  have ck2 : ∀ (o : Obj) (g j : Nat) (v : Value), g < u2.heap.size → u2.cell? ⟨g, j, none⟩ = some v → (u3.alloc o).cell? ⟨g, j, none⟩ = some v := fun o g j v hg hv => (World.cell?_alloc_old _ _ _ (by have := H3.out.2.size; show g ≠ u3.heap.size; omega)).trans (ck g j v hg hv)
  refine hK.out _ _ ⟨⟨ck _ _ _ t6 t0, ck _ _ _ t6 t1, ck _ _ _ t6 t2, ck _ _ _ t6 t3, ck _ _ _ t6 t4, ck _ _ _ t6 t5⟩, ck _ _ _ x4 x1, ck _ _ _ s2 s0⟩ ?_
  (clear hK KK; try simp only [Act.put, List.setIfInBounds_toArray, List.set_cons_zero, List.set_cons_succ])
  (repeat ((first | (refine wpSeq_take (v := ?_) rfl (by rfl) (fun wq hSq => ?_) ?_; rotate_left; (focus ((try dsimp only at hSq); go_simp; try with_reducible rfl))) | refine wpSeq_skip rfl (by rfl) ?_); simp only [Act.put, List.setIfInBounds_toArray, List.set_cons_zero, List.set_cons_succ]))
  (refine wpSeq_do rfl (by rfl) (fun KK hK => ?_); go_simp)
  refine hK.out _ _ ⟨⟨ck2 _ _ _ _ t6 t0, ck2 _ _ _ _ t6 t1, ck2 _ _ _ _ t6 t2, ck2 _ _ _ _ t6 t3, ck2 _ _ _ _ t6 t4, ck2 _ _ _ _ t6 t5⟩, ck2 _ _ _ _ x4 x1, ck2 _ _ _ _ s2 s0⟩ ?_
  clear ck ck2
  (clear hK KK; try simp only [Act.put, List.setIfInBounds_toArray, List.set_cons_zero, List.set_cons_succ])
  (repeat ((first | (refine wpSeq_take (v := ?_) rfl (by rfl) (fun wq hSq => ?_) ?_; rotate_left; (focus ((try dsimp only at hSq); go_simp; try with_reducible rfl))) | refine wpSeq_skip rfl (by rfl) ?_); simp only [Act.put, List.setIfInBounds_toArray, List.set_cons_zero, List.set_cons_succ]))
  refine wpSeq_nil ?_
  clear t0 t1 t2 t3 t4 t5 t6 x1 x4 s0 s2
  have HTT : Hid (Calls Tryz.prog 69 #[.pointer (some ⟨u3.heap.size, 0, none⟩), .int .i64 1, .func (.func 70) #[] #[]] (u3.alloc (.cells (wnewC b p4 p5 t u2.heap.size k bm) 102)) fun e w' => e = .returned (.tuple #[]) ∧ w' = ((u3.alloc (.cells (wnewC b p4 p5 t u2.heap.size k bm) 102)).setCell ⟨u3.heap.size, 11, none⟩ (.int .i64 1)).setCell ⟨u3.heap.size, 12, none⟩ (.func (.func 70) #[] #[])) := turnTo_new (heap_alloc_new _ _) 70
  go_wp2_with (go_at_call 69; refine HTT.out.mono ?_; rintro e u4 ⟨rfl, hu⟩; have HU := Lib.hid hu; clear hu HTT)
  go_ret
  exact ⟨_, rfl, HMD.out _ _ _ _ _ _ (HX.out _ (H1.out.alloc H1.out.size _)).2.2 G2.out.1 G2.out.2 H3.out.1 H3.out.2 HU.out⟩
end
end Go.Proofs.YteinilmecnlanaaGreatDoor.Ww
