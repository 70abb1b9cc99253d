import Derived.Test.YtmlklnimkgnbkaaGreatDoorAR
import Derived.Test.YtmlklnimkgnbkaaGreatDoorKO
namespace Go.Proofs.YtmlklnimkgnbkaaGreatDoor
open Go.ChangeShapes Go.WideShapes Go.ChangeAt Go.RowKit Num
attribute [local go_sem] run_store_float

/-! calls, one behind the other: as numbers -/
/-- a program in a list: its tag, where its instructions lie, what they are -/
structure Pg where
  t : Int
  p : Option Addr
  c : List Ins
  q : Nat
/-- a call: the program's place, where its arguments lie, what they are -/
structure Cl where
  k : Int
  p : Option Addr
  l : List Nat
  q : Nat
def pg0 : Pg := ⟨0, none, [], 0⟩
def cl0 : Cl := ⟨0, none, [], 0⟩
def PgsAt (w : World) (ao : Option Addr) (ps : List Pg) : Prop := ∀ i, i < ps.length → ∃ g o, ao = some ⟨g, o, none⟩ ∧ g < w.heap.size ∧ w.cell? ⟨g, o + i * 2, none⟩ = some (.int .i64 (ps.getD i pg0).t) ∧ w.cell? ⟨g, o + i * 2 + 1, none⟩ = some (.slice (ps.getD i pg0).p (ps.getD i pg0).c.length (ps.getD i pg0).q) ∧ CodeAt w (ps.getD i pg0).p (ps.getD i pg0).c ∧ (ps.getD i pg0).c.length ≤ 9223372036854775807 ∧ ∀ x ∈ (ps.getD i pg0).c, x.x < 18446744073709551616
def ClsAt (w : World) (ao : Option Addr) (cl : List Cl) : Prop := ∀ i, i < cl.length → ∃ g o, ao = some ⟨g, o, none⟩ ∧ g < w.heap.size ∧ w.cell? ⟨g, o + i * 2, none⟩ = some (.int .i64 (cl.getD i cl0).k) ∧ w.cell? ⟨g, o + i * 2 + 1, none⟩ = some (.slice (cl.getD i cl0).p (cl.getD i cl0).l.length (cl.getD i cl0).q) ∧ FlAt w (cl.getD i cl0).p (cl.getD i cl0).l ∧ ∀ x ∈ (cl.getD i cl0).l, x < 18446744073709551616
theorem PgsAt.on {w w' : World} {ao : Option Addr} {ps : List Pg} (h : PgsAt w ao ps) (k : Below w.heap.size w w') : PgsAt w' ao ps := fun i hi => by
  obtain ⟨g, o, e, hg, c0, c1, hc, hn, hx⟩ := h i hi
  exact ⟨g, o, e, Nat.lt_of_lt_of_le hg k.size, (k.cell (p := ⟨g, o + i * 2, none⟩) hg).trans c0, (k.cell (p := ⟨g, o + i * 2 + 1, none⟩) hg).trans c1, hc.on k, hn, hx⟩
theorem ClsAt.on {w w' : World} {ao : Option Addr} {cl : List Cl} (h : ClsAt w ao cl) (k : Below w.heap.size w w') : ClsAt w' ao cl := fun i hi => by
  obtain ⟨g, o, e, hg, c0, c1, hc, hx⟩ := h i hi
  exact ⟨g, o, e, Nat.lt_of_lt_of_le hg k.size, (k.cell (p := ⟨g, o + i * 2, none⟩) hg).trans c0, (k.cell (p := ⟨g, o + i * 2 + 1, none⟩) hg).trans c1, hc.on k, hx⟩
def mayC (np : Nat) (x : Cl) : Bool := decide (0 ≤ x.k) && decide (x.k < (np : Int)) && decide (x.l.length ≤ 8)
/-- one call: the machine it comes to, the state then -/
def oneR (a b c e : Int) (ps : List Pg) (x : Cl) (s : List Nat) : Mac := runR a b c e (ps.getD x.k.toNat pg0).t (ps.getD x.k.toNat pg0).c x.l s
def oneS (a b c e : Int) (ps : List Pg) (x : Cl) (s : List Nat) : List Nat := aftS s (oneR a b c e ps x s)
def callsR (a b c e : Int) (ps : List Pg) : List Cl → List Nat → List Mac
  | [], _ => []
  | x :: xs, s => oneR a b c e ps x s :: callsR a b c e ps xs (oneS a b c e ps x s)
def callsS (a b c e : Int) (ps : List Pg) (xs : List Cl) (s : List Nat) : List Nat := xs.foldl (fun s x => oneS a b c e ps x s) s
def callsE (a b c e : Int) (np ns : Nat) (xs : List Cl) : Int := if Md.cfgB a b c e && decide ((ns : Int) = a) then (if decide (64 < np) || decide (512 < xs.length) then 160 else if xs.all (mayC np) then 0 else 1) else 1
theorem callsR_len (a b c e : Int) (ps : List Pg) : ∀ (xs : List Cl) (s : List Nat), (callsR a b c e ps xs s).length = xs.length
  | [], _ => rfl
  | _ :: xs, s => by
    show (callsR a b c e ps xs _).length + 1 = xs.length + 1
    rw [callsR_len a b c e ps xs]
theorem callsR_app (a b c e : Int) (ps : List Pg) : ∀ (xs ys : List Cl) (s : List Nat), callsR a b c e ps (xs ++ ys) s = callsR a b c e ps xs s ++ callsR a b c e ps ys (callsS a b c e ps xs s)
  | [], _, _ => rfl
  | x :: xs, ys, s => by
    show oneR a b c e ps x s :: callsR a b c e ps (xs ++ ys) (oneS a b c e ps x s) = _
    rw [callsR_app a b c e ps xs ys]
    rfl
theorem callsS_app (a b c e : Int) (ps : List Pg) (xs ys : List Cl) (s : List Nat) : callsS a b c e ps (xs ++ ys) s = callsS a b c e ps ys (callsS a b c e ps xs s) := by unfold callsS; rw [List.foldl_append]
theorem callsS_len (a b c e : Int) (ps : List Pg) : ∀ (xs : List Cl) (s : List Nat), (callsS a b c e ps xs s).length = s.length
  | [], _ => rfl
  | x :: xs, s => by
    show (callsS a b c e ps xs (oneS a b c e ps x s)).length = _
    rw [callsS_len a b c e ps xs]
    exact aftS_len _ _
theorem take_one {xs : List Cl} {j : Nat} (hj : j < xs.length) : xs.take (j + 1) = xs.take j ++ [xs.getD j cl0] := by
  rw [List.take_add_one]
  simp [hj]
theorem callsS_take (a b c e : Int) (ps : List Pg) {xs : List Cl} {j : Nat} (hj : j < xs.length) (s : List Nat) : callsS a b c e ps (xs.take (j + 1)) s = oneS a b c e ps (xs.getD j cl0) (callsS a b c e ps (xs.take j) s) := by
  rw [take_one hj, callsS_app]
  rfl
theorem callsR_take (a b c e : Int) (ps : List Pg) {xs : List Cl} {j : Nat} (hj : j < xs.length) (s : List Nat) : callsR a b c e ps (xs.take (j + 1)) s = callsR a b c e ps (xs.take j) s ++ [oneR a b c e ps (xs.getD j cl0) (callsS a b c e ps (xs.take j) s)] := by
  rw [take_one hj, callsR_app]
  rfl
/-- results in a row of one's own: each its seven cells, its lists new since B -/
structure RsRow (w : World) (B g n : Nat) (L : List (Rs × Mac)) : Prop where
  blk : ∃ arr, w.heap[g]? = some (.cells arr 44 (0, 0)) ∧ arr.size = n * 7
  got : ∀ i, i < L.length → ∀ j, j < 7 → w.cell? ⟨g, i * 7 + j, none⟩ = (resC (L.getD i (⟨none, 0, none, 0, none, 0⟩, zeroM)).1 (L.getD i (⟨none, 0, none, 0, none, 0⟩, zeroM)).2)[j]?
  res : ∀ x ∈ L, ResAt w B x.1 x.2
  fits : L.length ≤ n
  lo : B ≤ g
theorem RsRow.lt {w : World} {B g n : Nat} {L : List (Rs × Mac)} (h : RsRow w B g n L) : g < w.heap.size := by obtain ⟨arr, h1, _⟩ := h.blk; exact lt_of_block h1
theorem RsRow.on {w w' : World} {B g n : Nat} {L : List (Rs × Mac)} (h : RsRow w B g n L) (k : Below w.heap.size w w') : RsRow w' B g n L := by
  obtain ⟨arr, h1, h2⟩ := h.blk
  exact ⟨⟨arr, (k.block g (lt_of_block h1)).trans h1, h2⟩, fun i hi j hj => (k.cell (p := ⟨g, i * 7 + j, none⟩) (lt_of_block h1)).trans (h.got i hi j hj), fun x hx => (h.res x hx).on k, h.fits, h.lo⟩
theorem RsRow.turn {w w' : World} {B g n : Nat} {L : List (Rs × Mac)} {G G' : List Nat} (h : RsRow w B g n L) (k : Turn G G' w w') (hG : ∀ x ∈ G, x < B) : RsRow w' B g n L := by
  obtain ⟨arr, h1, h2⟩ := h.blk
  have hn : g ∉ G := fun hx => by have := hG g hx; have := h.lo; omega
  have hb := k.block g (lt_of_block h1) hn
  exact ⟨⟨arr, hb.trans h1, h2⟩, fun i hi j hj => (World.cell?_of_block (a := ⟨g, i * 7 + j, none⟩) hb).trans (h.got i hi j hj), fun x hx => (h.res x hx).turn k hG, h.fits, h.lo⟩
theorem RsRow.there {w : World} {B g n : Nat} {L : List (Rs × Mac)} (h : RsRow w B g n L) {j : Nat} (hj : j < n * 7) : ∃ y, w.cell? ⟨g, j, none⟩ = some y ∧ w.frozen? ⟨g, j, none⟩ = false := by
  obtain ⟨arr, h1, h2⟩ := h.blk
  exact ⟨arr[j]'(by omega), by rw [cell_of_row _ _ _ _ _ _ h1, Array.getElem?_eq_getElem], frozen_of_row w g j _ _ h1⟩
/-! the program's Calls -/
abbrev clV (x : Cl) : Value := .agg #[.int .i64 x.k, .slice x.p x.l.length x.q]
set_option maxRecDepth 100000 in
theorem amayBe_any (x : Cl) (np : Nat) (w : World) : Calls Tryz.prog 22 #[clV x, .int .i64 np] w fun e w' => e = .returned (.bool (mayC np x)) ∧ Below w.heap.size w w' := by
  obtain ⟨k, p, l, q⟩ := x
  have HB := Lib.hid (below_alloc w (.cells #[.int .i64 k, .slice p l.length q] 69))
  unfold mayC
  dsimp only
  by_cases h1 : 0 ≤ k
  · by_cases h2 : k < (np : Int)
    · by_cases h3 : l.length ≤ 8
      · have h3' : (l.length : Int) ≤ 8 := by omega
        rw [decide_eq_true h1, decide_eq_true h2, decide_eq_true h3]
        go_enter Tryz.func22, Tryz.ntmps22
        go_wp2
        go_ret
        exact ⟨rfl, HB.out⟩
      · have h3' : ¬ (l.length : Int) ≤ 8 := by omega
        have h4 : decide ((l.length : Int) ≤ 8) = false := decide_eq_false h3'
        rw [decide_eq_true h1, decide_eq_true h2, decide_eq_false h3]
        go_enter Tryz.func22, Tryz.ntmps22
        go_wp2
        go_ret
        exact ⟨by first | rfl | simp [h4], HB.out⟩
    · have h4 : decide (k < (np : Int)) = false := decide_eq_false h2
      rw [decide_eq_true h1, decide_eq_false h2]
      go_enter Tryz.func22, Tryz.ntmps22
      go_wp2
      go_ret
      exact ⟨by first | rfl | simp [h4], HB.out⟩
  · have h4 : decide (0 ≤ k) = false := decide_eq_false h1
    rw [decide_eq_false h1]
    go_enter Tryz.func22, Tryz.ntmps22
    go_wp2
    go_ret
    exact ⟨by first | rfl | simp [h4], HB.out⟩
theorem cfg_box {w u : World} {a b c e : Int} (h : Below (w.alloc (cfgO a b c e)).heap.size (w.alloc (cfgO a b c e)) u) : u.heap[w.heap.size]? = some (cfgO a b c e) ∧ Below w.heap.size w u := ⟨(h.block _ (by simp)).trans (heap_alloc_new w _), (below_alloc w _).trans (h.mono (by simp))⟩
set_option maxHeartbeats 4000000 in
set_option maxRecDepth 100000 in
theorem calls_bad {w : World} {a b c e : Int} {po : Option Addr} {np cp : Nat} {xo : Option Addr} {xs : List Cl} {nx cx bs : Nat} {F s : List Nat} (hnx : xs.length = nx) (hX : ClsAt w xo xs) (hS : Sx.Cel 77 w bs F s) (hE : callsE a b c e np s.length xs ≠ 0) : Calls Tryz.prog 9 #[cfgV a b c e, .slice po np cp, .slice xo nx cx, .pointer (some ⟨bs, 0, none⟩)] w fun r w' => r = .returned (.tuple #[.slice none 0 0, .int .i64 (callsE a b c e np s.length xs)]) ∧ Below w.heap.size w w' := by
  have HF := Lib.hid (afits_any (hS.on (below_alloc w (cfgO a b c e))) a b c e)
  have HXX : Hid (∀ u, Below w.heap.size w u → ClsAt u xo xs) := fun u hb => hX.on hb
  have HMB := Lib.hid (fun x w => amayBe_any x np w)
  unfold callsE at hE ⊢
  clear hS hX
  cases hf : (Md.cfgB a b c e && decide ((s.length : Int) = a))
  · rw [hf] at HF
    rw [if_neg Bool.false_ne_true]
    clear hE hf
    go_enter Tryz.func9, Tryz.ntmps9
    go_wp2_with (go_at_call 21; refine HF.out.mono ?_; rintro r u1 ⟨rfl, q⟩; have B1 := Lib.hid q; clear q HF)
    go_ret2
    exact ⟨rfl, (cfg_box B1.out).2⟩
  · rw [hf] at HF hE
    rw [if_pos rfl] at hE ⊢
    clear hf
    cases hm : (decide (64 < np) || decide (512 < xs.length))
    · rw [hm, if_neg Bool.false_ne_true] at hE
      rw [if_neg Bool.false_ne_true]
      have hm2 : ¬ (64 : Int) < (np : Int) ∧ ¬ (512 : Int) < (nx : Int) := by simp at hm; omega
      obtain ⟨hm3, hm4⟩ := hm2
      have hall : xs.all (mayC np) = false := by
        cases h : xs.all (mayC np)
        · rfl
        · rw [h] at hE; exact absurd rfl hE
      rw [hall, if_neg Bool.false_ne_true]
      have HNA : Hid (¬ ∀ i, i < nx → mayC np (xs.getD i cl0) = true) := fun h => by
        have : xs.all (mayC np) = true := List.all_eq_true.2 fun x hx => by
          obtain ⟨i, hi, rfl⟩ := List.mem_iff_getElem.1 hx
          have := h i (by omega)
          simpa [hi] using this
        rw [this] at hall
        cases hall
      have HNX := Lib.hid hnx
      clear hE hall hm hnx
      go_enter Tryz.func9, Tryz.ntmps9
      go_wp2_with (go_at_call 21; refine HF.out.mono ?_; rintro r u1 ⟨rfl, q⟩; have B1 := Lib.hid q; clear q HF)
      go_loopw [27] (fun vi wr => ∃ j : Nat, vi = .int .i64 j ∧ j ≤ nx ∧ Hid (Below (w.alloc (cfgO a b c e)).heap.size (w.alloc (cfgO a b c e)) wr ∧ ∀ i, i < j → mayC np (xs.getD i cl0) = true)) (fun vi _ => nx - (intOf vi).toNat)
      case atStart => exact ⟨0, rfl, Nat.zero_le _, B1.out, fun i hi => absurd hi (Nat.not_lt_zero i)⟩
      case round =>
        obtain ⟨j, rfl, hj, HQ⟩ := hrel
        by_cases hlt : j < nx
        · have hlt' : (j : Int) < (nx : Int) := by omega
          obtain ⟨g, o, e1, e2, e3, e4, _⟩ := HXX.out _ (cfg_box HQ.out.1).2 j (by rw [HNX.out]; exact hlt)
          have HMJ := Lib.hid (fun w => HMB.out (xs.getD j cl0) w)
          have HAL : Hid (mayC np (xs.getD j cl0) = true → ∀ i, i < j + 1 → mayC np (xs.getD i cl0) = true) := fun h i hi => by
            by_cases hij : i = j
            · rw [hij]; exact h
            · exact HQ.out.2 i (by omega)
          have HBJ := Lib.hid HQ.out.1
          generalize xs.getD j cl0 = x at e3 e4 HMJ HAL
          obtain ⟨xk, xp, xl, xq⟩ := x
          dsimp only at e3 e4 HMJ
          subst e1
          clear HQ HMB
          cases hmx : mayC np ⟨xk, xp, xl, xq⟩
          · rw [hmx] at HMJ
            go_wp2_with (go_at_call 22; refine (HMJ.out _).mono ?_; rintro r u2 ⟨rfl, q⟩; have B2 := Lib.hid (HBJ.out.trans (q.mono HBJ.out.size)); clear q)
            go_ret2
            exact ⟨rfl, (cfg_box B2.out).2⟩
          · rw [hmx] at HMJ
            go_wp2_with (go_at_call 22; refine (HMJ.out _).mono ?_; rintro r u2 ⟨rfl, q⟩; have B2 := Lib.hid (HBJ.out.trans (q.mono HBJ.out.size)); clear q)
            exact ⟨⟨j + 1, by first | rfl | (congr 1), by omega, B2.out, HAL.out hmx⟩, by simp [intOf]; omega⟩
        · exact absurd (fun i hi => HQ.out.2 i (by omega)) HNA.out
    · rw [if_pos rfl]
      have hm2 : (64 : Int) < (np : Int) ∨ (¬ (64 : Int) < (np : Int) ∧ (512 : Int) < (nx : Int)) := by simp at hm; omega
      clear hE hm hnx
      rcases hm2 with hm3 | ⟨hm3, hm4⟩
      all_goals
        go_enter Tryz.func9, Tryz.ntmps9
        go_wp2_with (go_at_call 21; refine HF.out.mono ?_; rintro r u1 ⟨rfl, q⟩; have B1 := Lib.hid q; clear q HF)
        go_ret2
        exact ⟨rfl, (cfg_box B1.out).2⟩
end Go.Proofs.YtmlklnimkgnbkaaGreatDoor
namespace Go.Proofs.YtmlklnimkgnbkaaGreatDoor
open Go.ChangeShapes Go.WideShapes Go.ChangeAt Go.RowKit Num
attribute [local go_sem] run_store_float

/-! a result stored in its place -/
theorem turn_put7 (w : World) (g j : Nat) (v0 v1 v2 v3 v4 v5 v6 : Value) : Turn [g] [g] w (((((((w.setCell ⟨g, j * 7, none⟩ v0).setCell ⟨g, j * 7 + 1, none⟩ v1).setCell ⟨g, j * 7 + 2, none⟩ v2).setCell ⟨g, j * 7 + 3, none⟩ v3).setCell ⟨g, j * 7 + 4, none⟩ v4).setCell ⟨g, j * 7 + 5, none⟩ v5).setCell ⟨g, j * 7 + 6, none⟩ v6) := ((((((turn_set w g (j * 7) v0).trans (turn_set _ g (j * 7 + 1) v1)).trans (turn_set _ g (j * 7 + 2) v2)).trans (turn_set _ g (j * 7 + 3) v3)).trans (turn_set _ g (j * 7 + 4) v4)).trans (turn_set _ g (j * 7 + 5) v5)).trans (turn_set _ g (j * 7 + 6) v6)
theorem block_put7 {w : World} {g j : Nat} {arr : Array Value} {T : TypeId} (v0 v1 v2 v3 v4 v5 v6 : Value) (h : w.heap[g]? = some (.cells arr T (0, 0))) : (((((((w.setCell ⟨g, j * 7, none⟩ v0).setCell ⟨g, j * 7 + 1, none⟩ v1).setCell ⟨g, j * 7 + 2, none⟩ v2).setCell ⟨g, j * 7 + 3, none⟩ v3).setCell ⟨g, j * 7 + 4, none⟩ v4).setCell ⟨g, j * 7 + 5, none⟩ v5).setCell ⟨g, j * 7 + 6, none⟩ v6).heap[g]? = some (.cells (((((((arr.setIfInBounds (j * 7) v0).setIfInBounds (j * 7 + 1) v1).setIfInBounds (j * 7 + 2) v2).setIfInBounds (j * 7 + 3) v3).setIfInBounds (j * 7 + 4) v4).setIfInBounds (j * 7 + 5) v5).setIfInBounds (j * 7 + 6) v6) T (0, 0)) := by
  have e0 := heap_setCell_same w g (j * 7) _ _ v0 h
  have e1 := heap_setCell_same _ g (j * 7 + 1) _ _ v1 e0
  have e2 := heap_setCell_same _ g (j * 7 + 2) _ _ v2 e1
  have e3 := heap_setCell_same _ g (j * 7 + 3) _ _ v3 e2
  have e4 := heap_setCell_same _ g (j * 7 + 4) _ _ v4 e3
  have e5 := heap_setCell_same _ g (j * 7 + 5) _ _ v5 e4
  have e6 := heap_setCell_same _ g (j * 7 + 6) _ _ v6 e5
  exact e6
theorem put7_size {j : Nat} {arr : Array Value} (v0 v1 v2 v3 v4 v5 v6 : Value) : (((((((arr.setIfInBounds (j * 7) v0).setIfInBounds (j * 7 + 1) v1).setIfInBounds (j * 7 + 2) v2).setIfInBounds (j * 7 + 3) v3).setIfInBounds (j * 7 + 4) v4).setIfInBounds (j * 7 + 5) v5).setIfInBounds (j * 7 + 6) v6).size = arr.size := by simp
theorem put7_at {j : Nat} {arr : Array Value} (v0 v1 v2 v3 v4 v5 v6 : Value) (hj : j * 7 + 6 < arr.size) {k : Nat} (hk : k < 7) : (((((((arr.setIfInBounds (j * 7) v0).setIfInBounds (j * 7 + 1) v1).setIfInBounds (j * 7 + 2) v2).setIfInBounds (j * 7 + 3) v3).setIfInBounds (j * 7 + 4) v4).setIfInBounds (j * 7 + 5) v5).setIfInBounds (j * 7 + 6) v6)[j * 7 + k]? = #[v0, v1, v2, v3, v4, v5, v6][k]? := by
  have hkk : k = 0 ∨ k = 1 ∨ k = 2 ∨ k = 3 ∨ k = 4 ∨ k = 5 ∨ k = 6 := by omega
  rcases hkk with rfl | rfl | rfl | rfl | rfl | rfl | rfl
  all_goals
    simp only [Array.getElem?_setIfInBounds, Array.size_setIfInBounds]
    first
      | (rw [if_pos trivial, if_pos (by omega)]; rfl)
      | (repeat rw [if_neg (by omega)]
         first
           | rw [if_pos trivial, if_pos (by omega)]
           | rw [if_pos (Nat.add_zero _).symm, if_pos (by omega)]
         rfl)
theorem put7_other {j : Nat} {arr : Array Value} (v0 v1 v2 v3 v4 v5 v6 : Value) {q : Nat} (hq : q < j * 7) : (((((((arr.setIfInBounds (j * 7) v0).setIfInBounds (j * 7 + 1) v1).setIfInBounds (j * 7 + 2) v2).setIfInBounds (j * 7 + 3) v3).setIfInBounds (j * 7 + 4) v4).setIfInBounds (j * 7 + 5) v5).setIfInBounds (j * 7 + 6) v6)[q]? = arr[q]? := by
  simp only [Array.getElem?_setIfInBounds]
  repeat rw [if_neg (by omega)]
theorem ResAt.apart {w w' : World} {B g : Nat} {R : Rs} {m : Mac} (h : ResAt w B R m) (t : Turn [g] [g] w w') (n1 : g ∉ fpR R.po) (n2 : g ∉ fpR R.pr) (n3 : g ∉ fpR R.pw) : ResAt w' B R m :=
  ⟨h.out.turn t (fun x hx y => by simp at y; subst y; exact n1 hx), h.reads.turn t (fun x hx y => by simp at y; subst y; exact n2 hx), h.writes.turn t (fun x hx y => by simp at y; subst y; exact n3 hx), h.ao, h.ar, h.aw⟩
/-- results, and where their lists do not lie -/
structure RsK (w : World) (B g n : Nat) (L : List (Rs × Mac)) : Prop where
  row : RsRow w B g n L
  sep : ∀ x ∈ L, g ∉ fpR x.1.po ∧ g ∉ fpR x.1.pr ∧ g ∉ fpR x.1.pw
theorem RsK.on {w w' : World} {B g n : Nat} {L : List (Rs × Mac)} (h : RsK w B g n L) (k : Below w.heap.size w w') : RsK w' B g n L := ⟨h.row.on k, h.sep⟩
theorem RsK.turn {w w' : World} {B g n : Nat} {L : List (Rs × Mac)} {G G' : List Nat} (h : RsK w B g n L) (k : Turn G G' w w') (hG : ∀ x ∈ G, x < B) : RsK w' B g n L := ⟨h.row.turn k hG, h.sep⟩
theorem RsK.put {w : World} {B B2 g n j : Nat} {L : List (Rs × Mac)} {R : Rs} {m : Mac} (h : RsK w B g n L) (hj : L.length = j) (hjn : j < n) (hR : ResAt w B2 R m) (hg : g < B2) (hB : B ≤ B2) : RsK (((((((w.setCell ⟨g, j * 7, none⟩ (.int .i64 m.how)).setCell ⟨g, j * 7 + 1, none⟩ (.int .i64 m.cod)).setCell ⟨g, j * 7 + 2, none⟩ (.int .i64 m.err)).setCell ⟨g, j * 7 + 3, none⟩ (.slice R.po m.out.length R.co)).setCell ⟨g, j * 7 + 4, none⟩ (.slice R.pr m.reads.length R.cr)).setCell ⟨g, j * 7 + 5, none⟩ (.slice R.pw m.buf.length R.cw)).setCell ⟨g, j * 7 + 6, none⟩ (.int .i64 m.used)) B g n (L ++ [(R, m)]) ∧ Turn [g] [g] w (((((((w.setCell ⟨g, j * 7, none⟩ (.int .i64 m.how)).setCell ⟨g, j * 7 + 1, none⟩ (.int .i64 m.cod)).setCell ⟨g, j * 7 + 2, none⟩ (.int .i64 m.err)).setCell ⟨g, j * 7 + 3, none⟩ (.slice R.po m.out.length R.co)).setCell ⟨g, j * 7 + 4, none⟩ (.slice R.pr m.reads.length R.cr)).setCell ⟨g, j * 7 + 5, none⟩ (.slice R.pw m.buf.length R.cw)).setCell ⟨g, j * 7 + 6, none⟩ (.int .i64 m.used)) := by
  have t := turn_put7 w g j (.int .i64 m.how) (.int .i64 m.cod) (.int .i64 m.err) (.slice R.po m.out.length R.co) (.slice R.pr m.reads.length R.cr) (.slice R.pw m.buf.length R.cw) (.int .i64 m.used)
  obtain ⟨arr, h1, h2⟩ := h.row.blk
  have hb := block_put7 (j := j) (.int .i64 m.how) (.int .i64 m.cod) (.int .i64 m.err) (.slice R.po m.out.length R.co) (.slice R.pr m.reads.length R.cr) (.slice R.pw m.buf.length R.cw) (.int .i64 m.used) h1
  have nf : ∀ {p : Option Addr}, Abv B2 (fpR p) → g ∉ fpR p := fun hA hx => by have := hA g hx; omega
  refine ⟨⟨⟨⟨_, hb, by rw [put7_size]; exact h2⟩, fun i hi k hk => ?_, fun x hx => ?_, by rw [List.length_append]; simp; omega, h.row.lo⟩, fun x hx => ?_⟩, t⟩
  · rw [cell_of_row _ _ _ _ _ _ hb]
    rw [List.length_append] at hi
    simp at hi
    by_cases hij : i = j
    · subst hij
      have : (L ++ [(R, m)]).getD i (⟨none, 0, none, 0, none, 0⟩, zeroM) = (R, m) := by rw [List.getD_eq_getElem?_getD, List.getElem?_append_right (by omega)]; simp [hj]
      rw [this]
      exact put7_at _ _ _ _ _ _ _ (by omega) hk
    · have hil : i < L.length := by omega
      have : (L ++ [(R, m)]).getD i (⟨none, 0, none, 0, none, 0⟩, zeroM) = L.getD i (⟨none, 0, none, 0, none, 0⟩, zeroM) := by rw [List.getD_eq_getElem?_getD, List.getElem?_append_left hil, ← List.getD_eq_getElem?_getD]
      rw [this, put7_other _ _ _ _ _ _ _ (by omega), ← h.row.got i hil k hk, cell_of_row _ _ _ _ _ _ h1]
  · rcases List.mem_append.1 hx with hx | hx
    · exact (h.row.res x hx).apart t (h.sep x hx).1 (h.sep x hx).2.1 (h.sep x hx).2.2
    · simp at hx
      subst hx
      exact (hR.apart t (nf hR.ao) (nf hR.ar) (nf hR.aw)).mono hB
  · rcases List.mem_append.1 hx with hx | hx
    · exact h.sep x hx
    · simp at hx
      subst hx
      exact ⟨nf hR.ao, nf hR.ar, nf hR.aw⟩
theorem rInfo : (Tryz.prog.info? 44).map (fun i => (i.zero, i.size, i.bytes)) = some (some (.agg #[.int .i64 0, .int .i64 0, .int .i64 0, .slice none 0 0, .slice none 0 0, .slice none 0 0, .int .i64 0]), 7, 104) := by kernel_rfl
theorem rMake (n : Nat) (hn : n ≤ 512) : ∃ arr : Array Value, arr.size = n * 7 ∧ ∀ w : World, (Instr.makeSlice 32 (.int .i64 (n : Int)) (.int .i64 (n : Int))).run Tryz.prog w = .ok (.slice (some ⟨w.heap.size, 0, none⟩) n n) (w.alloc (.cells arr 44)) := by
  obtain ⟨i, hi, hz0, hz1, hz2⟩ := info_parts rInfo
  refine ⟨madeCells (Value.agg #[.int .i64 0, .int .i64 0, .int .i64 0, .slice none 0 0, .slice none 0 0, .slice none 0 0, .int .i64 0]).cells (n * i.size), by rw [size_madeCells, hz1], fun w => ?_⟩
  rw [run_make w 32 44 i _ Tryz.underlying32 hi hz0 .i64 .i64 n n (by omega) (Int.le_refl _) (by rw [hz2]; omega) (by omega)]
  rw [Int.toNat_natCast]
theorem rsk_new {w u : World} {n : Nat} {arr : Array Value} (h : arr.size = n * 7) (hb : w.heap.size ≤ u.heap.size) : RsK (u.alloc (.cells arr 44)) w.heap.size u.heap.size n [] := ⟨⟨⟨arr, heap_alloc_new _ _, h⟩, fun i hi => absurd hi (Nat.not_lt_zero i), fun x hx => (by cases hx), Nat.zero_le _, hb⟩, fun x hx => (by cases hx)⟩
structure Cst (w w1 : World) (bs : Nat) (F : List Nat) (g n : Nat) (L : List (Rs × Mac)) (s : List Nat) (wr : World) : Prop where
  rs : RsK wr w.heap.size g n L
  cel : Sx.Cel 77 wr bs F s
  turn : Turn F F w wr
  box : wr.heap[w.heap.size]? = w1.heap[w.heap.size]?
  ok : okS s
end Go.Proofs.YtmlklnimkgnbkaaGreatDoor
namespace Go.Proofs.YtmlklnimkgnbkaaGreatDoor
open Go.ChangeShapes Go.WideShapes Go.ChangeAt Go.RowKit Num
attribute [local go_sem] run_store_float

/-! Calls: all is done, one behind the other -/
structure Cgo (w : World) (bs : Nat) (F : List Nat) (g n : Nat) (L : List (Rs × Mac)) (s : List Nat) (a b c e : Int) (wr : World) : Prop where
  rs : RsK wr w.heap.size g n L
  cel : Sx.Cel 77 wr bs F s
  turn : Turn F F w wr
  box : wr.heap[w.heap.size]? = some (cfgO a b c e)
  ok : okS s
theorem callsE_zero {a b c e : Int} {np ns : Nat} {xs : List Cl} (h : callsE a b c e np ns xs = 0) : (Md.cfgB a b c e = true ∧ (ns : Int) = a) ∧ (np ≤ 64 ∧ xs.length ≤ 512) ∧ xs.all (mayC np) = true := by
  unfold callsE at h
  split at h
  · rename_i h1
    split at h
    · exact absurd h (by decide)
    · rename_i h2
      split at h
      · rename_i h3
        simp only [Bool.and_eq_true, decide_eq_true_eq] at h1
        simp at h2
        exact ⟨h1, ⟨by omega, by omega⟩, h3⟩
      · exact absurd h (by decide)
  · exact absurd h (by decide)
theorem mayC_parts {np : Nat} {x : Cl} (h : mayC np x = true) : ∃ k : Nat, x.k = (k : Int) ∧ k < np ∧ x.l.length ≤ 8 := by
  unfold mayC at h
  simp only [Bool.and_eq_true, decide_eq_true_eq] at h
  exact ⟨x.k.toNat, by omega, by omega, h.2⟩
set_option maxHeartbeats 8000000 in
set_option maxRecDepth 100000 in
theorem calls_good {W0 w : World} {a b c e : Int} {po : Option Addr} {ps : List Pg} {np cp : Nat} {xo : Option Addr} {xs : List Cl} {nx cx bs : Nat} {F s : List Nat} (hT : Shaped5 W0) (hb0 : Below W0.heap.size W0 w) (hA : Abv W0.heap.size F) (hnp : ps.length = np) (hnx : xs.length = nx) (hP : PgsAt W0 po ps) (hX : ClsAt W0 xo xs) (hS : Sx.Cel 77 w bs F s) (hs : okS s) (hE : callsE a b c e np s.length xs = 0) : Calls Tryz.prog 9 #[cfgV a b c e, .slice po np cp, .slice xo nx cx, .pointer (some ⟨bs, 0, none⟩)] w fun r w' => ∃ g L, r = .returned (.tuple #[.slice (some ⟨g, 0, none⟩) nx nx, .int .i64 0]) ∧ L.map (·.2) = callsR a b c e ps xs s ∧ RsK w' w.heap.size g nx L ∧ Sx.Cel 77 w' bs F (callsS a b c e ps xs s) ∧ Turn F F w w' := by
  obtain ⟨⟨hc, hsa⟩, ⟨h64, h512⟩, hall⟩ := callsE_zero hE
  have HF := Lib.hid (afits_any (hS.on (below_alloc w (cfgO a b c e))) a b c e)
  rw [hc, decide_eq_true hsa] at HF
  have HXX : Hid (∀ u, Below W0.heap.size W0 u → ClsAt u xo xs) := fun u hb => hX.on hb
  have HPP : Hid (∀ u, Below W0.heap.size W0 u → PgsAt u po ps) := fun u hb => hP.on hb
  have HMB := Lib.hid (fun x w => amayBe_any x np w)
  have HMY : Hid (∀ j, j < nx → mayC np (xs.getD j cl0) = true) := fun j hj => by
    have h1 : j < xs.length := by omega
    refine List.all_eq_true.1 hall _ ?_
    simp [h1]
  have HTT : Hid (∀ u, Below W0.heap.size W0 u → Shaped5 u) := fun u hb => hT.on hb
  have HNX := Lib.hid (And.intro hnx hnp)
  have HB0 := Lib.hid (And.intro hb0 (And.intro hA hS.blw))
  have HS0 := Lib.hid (And.intro hS hs)
  obtain ⟨arr, harr, hmk⟩ := rMake nx (by omega)
  have HAR := Lib.hid harr
  have hm3 : ¬ (64 : Int) < (np : Int) := by omega
  have hm4 : ¬ (512 : Int) < (nx : Int) := by omega
  clear hE hall hnx hnp hP hX hS hs hT hb0 hA harr hc hsa
  go_enter Tryz.func9, Tryz.ntmps9
  go_wp2_with (go_at_call 21; refine HF.out.mono ?_; rintro r u1 ⟨rfl, q⟩; have B1 := Lib.hid q; clear q HF)
  go_loopw [27] (fun vi wr => ∃ j : Nat, vi = .int .i64 j ∧ j ≤ nx ∧ Hid (Below (w.alloc (cfgO a b c e)).heap.size (w.alloc (cfgO a b c e)) wr)) (fun vi _ => nx - (intOf vi).toNat)
  case atStart => exact ⟨0, rfl, Nat.zero_le _, B1.out⟩
  case round =>
    obtain ⟨j, rfl, hj, HQ⟩ := hrel
    by_cases hlt : j < nx
    · have hlt' : (j : Int) < (nx : Int) := by omega
      obtain ⟨g, o, e1, e2, e3, e4, _⟩ := HXX.out _ (HB0.out.1.trans ((cfg_box HQ.out).2.mono HB0.out.1.size)) j (by rw [HNX.out.1]; exact hlt)
      have HMJ := Lib.hid (fun w => HMB.out (xs.getD j cl0) w)
      rw [HMY.out j hlt] at HMJ
      generalize xs.getD j cl0 = x at e3 e4 HMJ
      obtain ⟨xk, xp, xl, xq⟩ := x
      dsimp only at e3 e4 HMJ
      subst e1
      clear HMB
      go_wp2_with (go_at_call 22; refine (HMJ.out _).mono ?_; rintro r u2 ⟨rfl, q⟩; have B2 := Lib.hid (HQ.out.trans (q.mono HQ.out.size)); clear q)
      exact ⟨⟨j + 1, by first | rfl | (congr 1), by omega, B2.out⟩, by simp [intOf]; omega⟩
    · have hlt' : ¬ (j : Int) < (nx : Int) := by omega
      obtain ⟨wo, rfl⟩ : ∃ wo : World, wo = wr := ⟨_, rfl⟩
      have HB1 := Lib.hid (cfg_box HQ.out)
      have HC0 : Hid (Cgo w bs F wo.heap.size nx [] s a b c e (wo.alloc (.cells arr 44))) := by
        have k2 := below_alloc wo (.cells arr 44)
        exact ⟨rsk_new HAR.out HB1.out.2.size, (HS0.out.1.on HB1.out.2).on k2, (Below.turn HB1.out.2 F).trans (Below.turn k2 F), (k2.block _ (lt_of_block HB1.out.1)).trans HB1.out.1, HS0.out.2⟩
      have HWO : Hid (w.heap.size < wo.heap.size) := lt_of_block HB1.out.1
      clear HMB HQ HS0
      go_wp2
      go_loopw [44] (fun vi wr => ∃ j : Nat, vi = .int .i64 j ∧ j ≤ nx ∧ ∃ L, Hid (L.map (·.2) = callsR a b c e ps (xs.take j) s ∧ Cgo w bs F wo.heap.size nx L (callsS a b c e ps (xs.take j) s) a b c e wr)) (fun vi _ => nx - (intOf vi).toNat)
      case atStart => exact ⟨0, rfl, Nat.zero_le _, [], rfl, HC0.out⟩
      case round =>
        obtain ⟨j, rfl, hj, L, HL⟩ := hrel
        by_cases hlt2 : j < nx
        · have hlt3 : (j : Int) < (nx : Int) := by omega
          have hjx : j < xs.length := by rw [HNX.out.1]; exact hlt2
          have HBW : Hid (Below W0.heap.size W0 wr) := HL.out.2.turn.shaped HB0.out.1 HB0.out.2.1
          obtain ⟨kk, hkk, hkn, hl8⟩ := mayC_parts (HMY.out j hlt2)
          have hkn' : (kk : Int) < (np : Int) := by omega
          obtain ⟨xg, xo2, e1, e2, e3, e4, e5, e6⟩ := HXX.out _ HBW.out j hjx
          obtain ⟨pg, po2, p1, p2, p3, p4, p5, p6, p7⟩ := HPP.out _ HBW.out kk (by rw [HNX.out.2]; exact hkn)
          have HLL : Hid (L.length = j) := by
            have := congrArg List.length HL.out.1
            rw [List.length_map, callsR_len, List.length_take, Nat.min_eq_left (Nat.le_of_lt hjx)] at this
            exact this
          have HXC : Hid (∀ u, Below W0.heap.size W0 u → u.cell? ⟨xg, xo2 + j * 2, none⟩ = some (.int .i64 (xs.getD j cl0).k) ∧ u.cell? ⟨xg, xo2 + j * 2 + 1, none⟩ = some (.slice (xs.getD j cl0).p (xs.getD j cl0).l.length (xs.getD j cl0).q) ∧ u.cell? ⟨pg, po2 + kk * 2, none⟩ = some (.int .i64 (ps.getD kk pg0).t) ∧ u.cell? ⟨pg, po2 + kk * 2 + 1, none⟩ = some (.slice (ps.getD kk pg0).p (ps.getD kk pg0).c.length (ps.getD kk pg0).q)) := fun u hb => by
            obtain ⟨g1, o1, q1, _, q3, q4, _⟩ := HXX.out _ hb j hjx
            obtain ⟨g2, o2, r1, _, r3, r4, _⟩ := HPP.out _ hb kk (by rw [HNX.out.2]; exact hkn)
            rw [e1] at q1
            rw [p1] at r1
            cases q1
            cases r1
            exact ⟨q3, q4, r3, r4⟩
          have HGL : Hid (xg < W0.heap.size ∧ pg < W0.heap.size) := by
            obtain ⟨g1, o1, q1, q2, _⟩ := HXX.out _ (Below.refl _ W0) j hjx
            obtain ⟨g2, o2, r1, r2, _⟩ := HPP.out _ (Below.refl _ W0) kk (by rw [HNX.out.2]; exact hkn)
            rw [e1] at q1
            rw [p1] at r1
            cases q1
            cases r1
            exact ⟨q2, r2⟩
          have HRN : Hid (Calls Tryz.prog 16 #[cfgV a b c e, .agg #[.int .i64 (ps.getD kk pg0).t, .slice (ps.getD kk pg0).p (ps.getD kk pg0).c.length (ps.getD kk pg0).q], .slice (xs.getD j cl0).p (xs.getD j cl0).l.length (xs.getD j cl0).q, .pointer (some ⟨bs, 0, none⟩)] wr.drew fun r w' => ∃ R er, r = .returned (.tuple #[resV R (oneR a b c e ps (xs.getD j cl0) (callsS a b c e ps (xs.take j) s)), .int .i64 er]) ∧ ResAt w' wr.heap.size R (oneR a b c e ps (xs.getD j cl0) (callsS a b c e ps (xs.take j) s)) ∧ Sx.Cel 77 w' bs F (callsS a b c e ps (xs.take (j + 1)) s) ∧ okS (callsS a b c e ps (xs.take (j + 1)) s) ∧ Turn F F wr w') := by
            have hd := (Same.drew wr).below wr.heap.size
            have hbd := HBW.out.trans (hd.mono HBW.out.size)
            rw [callsS_take a b c e ps hjx]
            have hk2 : (xs.getD j cl0).k.toNat = kk := by omega
            unfold oneS oneR
            rw [hk2]
            exact (run_any (HTT.out _ hbd) rfl rfl (p5.on hd) p7 (e5.on hd) e6 p6 (HL.out.2.cel.on hd) HL.out.2.ok).mono fun r w' ⟨R, q1, q2, q3, q4⟩ => ⟨R, _, q1, q2, q3, aft_ok HL.out.2.ok p7 e6, ((Same.drew wr).turn F).trans q4⟩
          have HNR := Lib.hid (callsR_take a b c e ps hjx s)
          generalize hmm : oneR a b c e ps (xs.getD j cl0) (callsS a b c e ps (xs.take j) s) = m at HRN HNR
          generalize hsae : callsS a b c e ps (xs.take (j + 1)) s = sa at HRN
          have HSA : Hid (callsS a b c e ps (xs.take (j + 1)) s = sa) := hsae
          clear hsae
          rw [hkk] at e3 HXC
          have hn1 : wo.heap.size ≠ w.heap.size := by have := HWO.out; omega
          have hn2 : wo.heap.size ≠ xg := by have := HGL.out.1; have := HB0.out.1.size; have := HWO.out; omega
          have hn3 : wo.heap.size ≠ pg := by have := HGL.out.2; have := HB0.out.1.size; have := HWO.out; omega
          have HHS : Hid (∀ u, u.heap[w.heap.size]? = some (cfgO a b c e) → Below W0.heap.size W0 u → (fun u => (u.cell? ⟨w.heap.size, 0, none⟩ = some (.int .i64 a) ∧ u.cell? ⟨w.heap.size, 1, none⟩ = some (.int .i64 b) ∧ u.cell? ⟨w.heap.size, 2, none⟩ = some (.int .i64 c) ∧ u.cell? ⟨w.heap.size, 3, none⟩ = some (.int .i64 e)) ∧ u.cell? ⟨xg, xo2 + j * 2, none⟩ = some (.int .i64 kk) ∧ u.cell? ⟨xg, xo2 + j * 2 + 1, none⟩ = some (.slice (xs.getD j cl0).p (xs.getD j cl0).l.length (xs.getD j cl0).q) ∧ u.cell? ⟨pg, po2 + kk * 2, none⟩ = some (.int .i64 (ps.getD kk pg0).t) ∧ u.cell? ⟨pg, po2 + kk * 2 + 1, none⟩ = some (.slice (ps.getD kk pg0).p (ps.getD kk pg0).c.length (ps.getD kk pg0).q)) u) := fun u h1 h2 => by
            obtain ⟨v0, v1, v2, v3, _⟩ := Md.cells4 h1
            exact ⟨⟨v0, v1, v2, v3⟩, HXC.out u h2⟩
          have hbp : xg < wr.heap.size ∧ pg < wr.heap.size := ⟨e2, p2⟩
          subst e1 p1
          clear e3 e4 e5 e6 p3 p4 p5 p6 p7 hmm HXC hl8 hkk e2 p2
          generalize (xs.getD j cl0).p = xp at HRN HHS
          generalize (xs.getD j cl0).q = xq at HRN HHS
          generalize (xs.getD j cl0).l.length = xn at HRN HHS
          generalize (ps.getD kk pg0).t = pt at HRN HHS
          generalize (ps.getD kk pg0).p = pp at HRN HHS
          generalize (ps.getD kk pg0).q = pq at HRN HHS
          generalize (ps.getD kk pg0).c.length = pn at HRN HHS
          have HB5 := Lib.hid HL.out.2.box
          have hgl : wo.heap.size < wr.heap.size := HL.out.2.rs.row.lt
          have HRS3 : Hid (∀ u3 R, ResAt u3 wr.heap.size R m → Sx.Cel 77 u3 bs F sa → okS sa → Turn F F wr u3 → Cgo w bs F wo.heap.size nx L sa a b c e u3 ∧ Below W0.heap.size W0 u3) := fun u3 R q1 q2 q3 q4 => ⟨⟨HL.out.2.rs.turn q4 HB0.out.2.2, q2, HL.out.2.turn.trans q4, q4.keeps HL.out.2.box (fun hx => absurd (HB0.out.2.2 _ hx) (Nat.lt_irrefl _)), q3⟩, (HL.out.2.turn.trans q4).shaped HB0.out.1 HB0.out.2.1⟩
          go_wp2
          refine wp_region_seq (fun u => (u.cell? ⟨w.heap.size, 0, none⟩ = some (.int .i64 a) ∧ u.cell? ⟨w.heap.size, 1, none⟩ = some (.int .i64 b) ∧ u.cell? ⟨w.heap.size, 2, none⟩ = some (.int .i64 c) ∧ u.cell? ⟨w.heap.size, 3, none⟩ = some (.int .i64 e)) ∧ u.cell? ⟨xg, xo2 + j * 2, none⟩ = some (.int .i64 kk) ∧ u.cell? ⟨xg, xo2 + j * 2 + 1, none⟩ = some (.slice xp xn xq) ∧ u.cell? ⟨pg, po2 + kk * 2, none⟩ = some (.int .i64 pt) ∧ u.cell? ⟨pg, po2 + kk * 2 + 1, none⟩ = some (.slice pp pn pq)) ((0, true) :: (1, true) :: (2, true) :: (3, true) :: (4, true) :: (5, true) :: (6, true) :: (7, true) :: (8, true) :: (9, true) :: (10, true) :: (11, true) :: (12, true) :: (13, true) :: (14, true) :: (15, true) :: (16, true) :: (17, false) :: (18, true) :: (19, true) :: (20, true) :: (21, true) :: (22, false) :: []) (by kernel_rfl) (by kernel_rfl) (fun _ _ _ _ _ h => h) (HHS.out _ HB5.out (HBW.out.trans ((Same.drew _).below _))) ?_
          repeat (first
            | (refine wpSeq_take (v := ?_) rfl (by rfl) (fun wq hSq => ?_) ?_; rotate_left; (focus ((try dsimp only at hSq); go_simp; try with_reducible rfl)); simp only [Act.put, List.setIfInBounds_toArray, List.set_cons_zero, List.set_cons_succ]))
          refine wpSeq_do rfl (by rfl) (fun K hK => ?_)
          go_simp
          refine HRN.out.mono ?_
          rintro r u3 ⟨R, er, rfl, q1, q2, q3, q4⟩
          have K3 := Lib.hid (HRS3.out u3 R q1 q2 q3 q4)
          have E3 := Lib.hid q1
          have L3 : Hid (wr.heap.size ≤ u3.heap.size) := q4.size
          clear q1 q2 q3 q4
          refine hK.out _ _ (HHS.out _ K3.out.1.box K3.out.2) ?_
          clear hK K
          try simp only [Act.put, List.setIfInBounds_toArray, List.set_cons_zero, List.set_cons_succ]
          repeat (first
            | (refine wpSeq_take (v := ?_) rfl (by rfl) (fun wq hSq => ?_) ?_; rotate_left; (focus ((try dsimp only at hSq); go_simp; try with_reducible rfl)); simp only [Act.put, List.setIfInBounds_toArray, List.set_cons_zero, List.set_cons_succ]))
          have hj7 : j * 7 + 6 < nx * 7 := by omega
          obtain ⟨z0, t0, f0⟩ := K3.out.1.rs.row.there (j := j * 7) (by omega)
          obtain ⟨z1, t1, f1⟩ := K3.out.1.rs.row.there (j := j * 7 + 1) (by omega)
          obtain ⟨z2, t2, f2⟩ := K3.out.1.rs.row.there (j := j * 7 + 2) (by omega)
          obtain ⟨z3, t3, f3⟩ := K3.out.1.rs.row.there (j := j * 7 + 3) (by omega)
          obtain ⟨z4, t4, f4⟩ := K3.out.1.rs.row.there (j := j * 7 + 4) (by omega)
          obtain ⟨z5, t5, f5⟩ := K3.out.1.rs.row.there (j := j * 7 + 5) (by omega)
          obtain ⟨z6, t6, f6⟩ := K3.out.1.rs.row.there (j := j * 7 + 6) (by omega)
          have g3 := K3.out.1.rs.row.lt
          have K5 : Hid (∀ v, v = (((((((u3.setCell ⟨wo.heap.size, j * 7, none⟩ (.int .i64 m.how)).setCell ⟨wo.heap.size, j * 7 + 1, none⟩ (.int .i64 m.cod)).setCell ⟨wo.heap.size, j * 7 + 2, none⟩ (.int .i64 m.err)).setCell ⟨wo.heap.size, j * 7 + 3, none⟩ (.slice R.po m.out.length R.co)).setCell ⟨wo.heap.size, j * 7 + 4, none⟩ (.slice R.pr m.reads.length R.cr)).setCell ⟨wo.heap.size, j * 7 + 5, none⟩ (.slice R.pw m.buf.length R.cw)).setCell ⟨wo.heap.size, j * 7 + 6, none⟩ (.int .i64 m.used)) → Cgo w bs F wo.heap.size nx (L ++ [(R, m)]) sa a b c e v ∧ Below W0.heap.size W0 v) := fun v hv => by
            subst hv
            obtain ⟨k1, k2⟩ := K3.out.1.rs.put HLL.out hlt2 E3.out hgl (Nat.le_trans (Nat.le_of_lt HWO.out) (Nat.le_of_lt hgl))
            have hcg : Cgo w bs F wo.heap.size nx (L ++ [(R, m)]) sa a b c e _ := ⟨k1, K3.out.1.cel.turn k2 (fun x hx y => by simp at y; have := HB0.out.2.2 x hx; have := HWO.out; omega), K3.out.1.turn.past2 k2 (Nat.le_of_lt HWO.out), k2.keeps K3.out.1.box (by simp; have := HWO.out; omega), K3.out.1.ok⟩
            exact ⟨hcg, hcg.turn.shaped HB0.out.1 HB0.out.2.1⟩
          have HNL : Hid ((L ++ [(R, m)]).map (·.2) = callsR a b c e ps (xs.take (j + 1)) s) := by
            rw [List.map_append, HL.out.1, HNR.out]
            rfl
          refine wpSeq_do rfl (by rfl) (fun K hK => ?_)
          go_simp
          have K6 := Lib.hid (K5.out _ rfl)
          refine hK.out _ _ (HHS.out _ K6.out.1.box K6.out.2) ?_
          clear hK K
          refine wpSeq_nil ?_
          clear HHS HRN HRS3 K5 t0 t1 t2 t3 t4 t5 t6 f0 f1 f2 f3 f4 f5 f6
          go_wp2_with fail
          exact ⟨⟨j + 1, by first | rfl | (congr 1), by omega, _, HNL.out, by rw [HSA.out]; exact K6.out.1⟩, by simp [intOf]; omega⟩
        · have hlt3 : ¬ (j : Int) < (nx : Int) := by omega
          have HFI : Hid (L.map (·.2) = callsR a b c e ps xs s ∧ Cgo w bs F wo.heap.size nx L (callsS a b c e ps xs s) a b c e wr) := by
            have h := HL.out
            rwa [show j = xs.length by rw [HNX.out.1]; omega, List.take_length] at h
          clear HL
          go_wp2
          go_ret2
          exact ⟨_, rfl, _, HFI.out.1, HFI.out.2.rs, HFI.out.2.cel, HFI.out.2.turn⟩
end Go.Proofs.YtmlklnimkgnbkaaGreatDoor
namespace Go.Proofs.YtmlklnimkgnbkaaGreatDoor
open Go.ChangeShapes Go.WideShapes Go.ChangeAt Go.RowKit Num

/-! calls in two parts; a result out of a row -/
theorem ClsAt.take {w : World} {ao : Option Addr} {xs : List Cl} (h : ClsAt w ao xs) (k : Nat) : ClsAt w ao (xs.take k) := fun i hi => by
  rw [List.length_take] at hi
  have e : (xs.take k).getD i cl0 = xs.getD i cl0 := by
    rw [List.getD_eq_getElem?_getD, List.getD_eq_getElem?_getD, List.getElem?_take, if_pos (by omega)]
  rw [e]
  exact h i (by omega)
theorem ClsAt.drop {w : World} {g o : Nat} {xs : List Cl} (h : ClsAt w (some ⟨g, o, none⟩) xs) (k : Nat) : ClsAt w (some ⟨g, o + k * 2, none⟩) (xs.drop k) := fun i hi => by
  rw [List.length_drop] at hi
  have e : (xs.drop k).getD i cl0 = xs.getD (k + i) cl0 := by
    rw [List.getD_eq_getElem?_getD, List.getD_eq_getElem?_getD, List.getElem?_drop]
  rw [e]
  obtain ⟨g2, o2, e2, hg, c0, c1, r⟩ := h (k + i) (by omega)
  cases e2
  refine ⟨g, o + k * 2, rfl, hg, ?_, ?_, r⟩
  · rw [show o + k * 2 + i * 2 = o + (k + i) * 2 by omega]
    exact c0
  · rw [show o + k * 2 + i * 2 + 1 = o + (k + i) * 2 + 1 by omega]
    exact c1
theorem callsE_of {a b c e : Int} {np ns : Nat} {xs : List Cl} (h1 : Md.cfgB a b c e = true) (h2 : (ns : Int) = a) (h3 : np ≤ 64) (h4 : xs.length ≤ 512) (h5 : xs.all (mayC np) = true) : callsE a b c e np ns xs = 0 := by
  unfold callsE
  rw [h1, decide_eq_true h2, if_pos (by rfl), decide_eq_false (by omega), decide_eq_false (by omega), if_neg (by decide), if_pos h5]
theorem callsE_take {a b c e : Int} {np ns : Nat} {xs : List Cl} (h : callsE a b c e np ns xs = 0) (k : Nat) {ms : Nat} (hm : ms = ns) : callsE a b c e np ms (xs.take k) = 0 := by
  obtain ⟨⟨h1, h2⟩, ⟨h3, h4⟩, h5⟩ := callsE_zero h
  subst hm
  exact callsE_of h1 h2 h3 (by rw [List.length_take]; omega) (List.all_eq_true.2 fun x hx => List.all_eq_true.1 h5 x (List.mem_of_mem_take hx))
theorem callsE_drop {a b c e : Int} {np ns : Nat} {xs : List Cl} (h : callsE a b c e np ns xs = 0) (k : Nat) {ms : Nat} (hm : ms = ns) : callsE a b c e np ms (xs.drop k) = 0 := by
  obtain ⟨⟨h1, h2⟩, ⟨h3, h4⟩, h5⟩ := callsE_zero h
  subst hm
  exact callsE_of h1 h2 h3 (by rw [List.length_drop]; omega) (List.all_eq_true.2 fun x hx => List.all_eq_true.1 h5 x (List.mem_of_mem_drop hx))
/-- the seven cells of a result in a row -/
theorem RsK.get {w : World} {B g n : Nat} {L : List (Rs × Mac)} (h : RsK w B g n L) {i : Nat} (hi : i < L.length) : ∃ R m, L[i]? = some (R, m) ∧ ResAt w B R m ∧ (w.cell? ⟨g, i * 7, none⟩ = some (.int .i64 m.how) ∧ w.cell? ⟨g, i * 7 + 1, none⟩ = some (.int .i64 m.cod) ∧ w.cell? ⟨g, i * 7 + 2, none⟩ = some (.int .i64 m.err) ∧ w.cell? ⟨g, i * 7 + 3, none⟩ = some (.slice R.po m.out.length R.co) ∧ w.cell? ⟨g, i * 7 + 4, none⟩ = some (.slice R.pr m.reads.length R.cr) ∧ w.cell? ⟨g, i * 7 + 5, none⟩ = some (.slice R.pw m.buf.length R.cw) ∧ w.cell? ⟨g, i * 7 + 6, none⟩ = some (.int .i64 m.used)) ∧ g < w.heap.size := by
  obtain ⟨⟨R, m⟩, hx⟩ : ∃ y, L[i]'hi = y := ⟨_, rfl⟩
  have hg : L.getD i (⟨none, 0, none, 0, none, 0⟩, zeroM) = (R, m) := by simp [hi, hx]
  have hc := h.row.got i hi
  rw [hg] at hc
  exact ⟨R, m, by rw [List.getElem?_eq_getElem hi, hx], by have := h.row.res _ (List.getElem_mem hi); rw [hx] at this; exact this, ⟨hc 0 (by omega), hc 1 (by omega), hc 2 (by omega), hc 3 (by omega), hc 4 (by omega), hc 5 (by omega), hc 6 (by omega)⟩, h.row.lt⟩
/-- two parts are the whole -/
theorem calls_join (a b c e : Int) (ps : List Pg) (xs : List Cl) (k : Nat) (s : List Nat) : callsR a b c e ps xs s = callsR a b c e ps (xs.take k) s ++ callsR a b c e ps (xs.drop k) (callsS a b c e ps (xs.take k) s) ∧ callsS a b c e ps xs s = callsS a b c e ps (xs.drop k) (callsS a b c e ps (xs.take k) s) := by
  constructor
  · rw [← callsR_app, List.take_append_drop]
  · rw [← callsS_app, List.take_append_drop]
theorem callsS_ok {a b c e : Int} {ps : List Pg} (hp : ∀ p ∈ ps, ∀ x ∈ p.c, x.x < 18446744073709551616) : ∀ (xs : List Cl) {s : List Nat}, (∀ x ∈ xs, ∀ y ∈ x.l, y < 18446744073709551616) → okS s → okS (callsS a b c e ps xs s)
  | [], _, _, h => h
  | x :: xs, s, hx, h => by
    show okS (callsS a b c e ps xs (oneS a b c e ps x s))
    refine callsS_ok hp xs (fun y hy => hx y (by simp [hy])) ?_
    refine aft_ok h (fun i hi => ?_) (hx x (by simp))
    cases hg : ps[x.k.toNat]? with
    | none =>
      rw [List.getD_eq_getElem?_getD, hg] at hi
      cases hi
    | some q =>
      rw [List.getD_eq_getElem?_getD, hg] at hi
      exact hp q (List.mem_of_getElem? hg) i hi
end Go.Proofs.YtmlklnimkgnbkaaGreatDoor
namespace Go.Proofs.YtmlklnimkgnbkaaGreatDoor
open Go.ChangeShapes Go.WideShapes Go.ChangeAt Go.RowKit Num

/-! what calls come to, told -/
theorem two_at {α β : Type} {L1 L2 : List (α × β)} (h : L1.map (·.2) = L2.map (·.2)) {j : Nat} {R Q : α} {m k : β} (h1 : L1[j]? = some (R, m)) (h2 : L2[j]? = some (Q, k)) : m = k := by
  have e1 : (L1.map (·.2))[j]? = some m := by rw [List.getElem?_map, h1]; rfl
  have e2 : (L2.map (·.2))[j]? = some k := by rw [List.getElem?_map, h2]; rfl
  rw [h, e2] at e1
  exact (Option.some.inj e1).symm
theorem callsR_told {a b c e : Int} {ps : List Pg} (hp : ∀ p ∈ ps, ∀ x ∈ p.c, x.x < 18446744073709551616) : ∀ (xs : List Cl) {s : List Nat}, (∀ x ∈ xs, ∀ y ∈ x.l, y < 18446744073709551616) → okS s → ∀ m ∈ callsR a b c e ps xs s, Told m
  | [], _, _, _ => fun m hm => by cases hm
  | x :: xs, s, hx, h => fun m hm => by
    have hpc : ∀ i ∈ (ps.getD x.k.toNat pg0).c, i.x < 18446744073709551616 := fun i hi => by
      cases hg : ps[x.k.toNat]? with
      | none =>
        rw [List.getD_eq_getElem?_getD, hg] at hi
        cases hi
      | some q =>
        rw [List.getD_eq_getElem?_getD, hg] at hi
        exact hp q (List.mem_of_getElem? hg) i hi
    replace hm : m ∈ oneR a b c e ps x s :: callsR a b c e ps xs (oneS a b c e ps x s) := hm
    rcases List.mem_cons.1 hm with rfl | hm
    · exact runR_told h hpc (hx x (by simp))
    · exact callsR_told hp xs (fun y hy => hx y (by simp [hy])) (aft_ok h hpc (hx x (by simp))) m hm
theorem PgsAt.lt {w : World} {ao : Option Addr} {ps : List Pg} (h : PgsAt w ao ps) : ∀ p ∈ ps, ∀ x ∈ p.c, x.x < 18446744073709551616 := fun p hp x hx => by
  obtain ⟨i, hi, rfl⟩ := List.mem_iff_getElem.1 hp
  obtain ⟨_, _, _, _, _, _, _, _, q⟩ := h i hi
  refine q x ?_
  simpa [hi] using hx
theorem ClsAt.lt {w : World} {ao : Option Addr} {cl : List Cl} (h : ClsAt w ao cl) : ∀ p ∈ cl, ∀ x ∈ p.l, x < 18446744073709551616 := fun p hp x hx => by
  obtain ⟨i, hi, rfl⟩ := List.mem_iff_getElem.1 hp
  obtain ⟨_, _, _, _, _, _, _, q⟩ := h i hi
  refine q x ?_
  simpa [hi] using hx
end Go.Proofs.YtmlklnimkgnbkaaGreatDoor
namespace Go.Proofs.YtmlklnimkgnbkaaGreatDoor
open Go.ChangeShapes Go.WideShapes Go.ChangeAt Go.RowKit Go.Deep
open Go.ChangeMaps (open_string shut_string)

/-! openings: a list of programs, a list of calls -/
theorem cellsI9 : Tryz.prog.cellsOf 3 = 1 := by kernel_rfl
theorem cellsIns9 : Tryz.prog.cellsOf 62 = 3 := by kernel_rfl
theorem cellsSI9 : Tryz.prog.cellsOf 47 = 1 := by kernel_rfl
theorem cellsSF9 : Tryz.prog.cellsOf 26 = 1 := by kernel_rfl
theorem cellsPg9 : Tryz.prog.cellsOf 49 = 2 := by kernel_rfl
theorem cellsCl9 : Tryz.prog.cellsOf 69 = 2 := by kernel_rfl
section
variable {H : Type} {enc : TypeId × Value → H}
set_option maxRecDepth 100000 in
theorem open_codeT {W : World} {fuel : Nat} {cs : List Value} {x : DataW H × List MemPlace} (hf : DataW.trod enc Tryz.prog W 0 (fun _ => true) true fuel 47 cs = some x) :
    ∃ (ao : Option Addr) (c : List Ins) (cap : Nat), cs = [.slice ao c.length cap] ∧ c.length ≤ maxLen ∧ (∀ i ∈ c, i.x < 18446744073709551616) ∧ CodeAt W ao c := by
  rcases open_slice Tryz.underlying47 hf with ⟨hcs, _⟩ | ⟨a, len, cap, m, n, D, Pl, hcs, _, hl, hm, hmm, _, hx⟩
  · exact ⟨none, [], 0, hcs, Nat.zero_le _, fun i hi => (by cases hi), fun i hi => absurd hi (Nat.not_lt_zero i)⟩
  · simp only [if_true] at hmm
    obtain ⟨b, off, spot⟩ := a
    have hs : 0 < len → spot = none := by
      intro h0
      obtain ⟨cs', h1, _⟩ := hx 0 (by omega)
      rw [cellsIns9] at h1
      obtain ⟨_, hlen, hcell⟩ := World.cells?_some h1
      match cs', hlen with
      | [c0, c1, c2], _ =>
        have f0 := hcell 0 (by omega)
        simpa [Addr.add] using World.cell?_spot f0
    have each : ∀ i, i < len → ∃ q : Ins, spot = none ∧ b < W.heap.size ∧ q.x < 18446744073709551616 ∧ W.cell? ⟨b, off + i * 3, none⟩ = some (.int .i64 q.op) ∧ W.cell? ⟨b, off + i * 3 + 1, none⟩ = some (.int .i64 q.n) ∧ W.cell? ⟨b, off + i * 3 + 2, none⟩ = some (.float .f64 q.x) := by
      intro i hi
      obtain ⟨cs', h1, h2⟩ := hx i (by omega)
      rw [cellsIns9] at h1
      obtain ⟨_, hlen, hcell⟩ := World.cells?_some h1
      obtain ⟨xs, k, _, _, _, hxl, hg⟩ := DataW.trod_struct Tryz.underlying62 h2
      match xs, hxl, cs', hlen with
      | [y0, y1, y2], _, [c0, c1, c2], _ =>
        have g0 := hg 0 _ rfl
        have g1 := hg 1 _ rfl
        have g2 := hg 2 _ rfl
        simp [cellsI9, cellsF] at g0 g1 g2
        obtain ⟨x0, e0, _, _⟩ := DataW.trod_int Tryz.underlying3 g0
        obtain ⟨x1, e1, _, _⟩ := DataW.trod_int Tryz.underlying3 g1
        obtain ⟨x2, e2, hx2⟩ := trod_f64 g2
        simp at e0 e1 e2
        subst e0 e1 e2
        have f0 := hcell 0 (by omega)
        have f1 := hcell 1 (by omega)
        have f2 := hcell 2 (by omega)
        rw [add_add] at f0 f1 f2
        have hspot := hs (by omega)
        subst hspot
        rw [Go.WideShapes.add_plain] at f0 f1 f2
        exact ⟨⟨x0, x1, x2⟩, rfl, World.block_lt_of_cell? W _ f0, hx2, f0, f1, f2⟩
    have : Inhabited Ins := ⟨⟨0, 0, 0⟩⟩
    obtain ⟨q, hq⟩ := choose_lt each
    have hcl : ((List.range len).map q).length = len := by simp
    have hci : ∀ i, i < len → ci ((List.range len).map q) i = q i := fun i hi => by
      unfold ci
      simp [List.getD_eq_getElem?_getD, hi]
    refine ⟨some ⟨b, off, spot⟩, (List.range len).map q, cap, by rw [hcl]; exact hcs, by rw [hcl]; omega, fun i hi => ?_, fun i hi => ?_⟩
    · obtain ⟨j, hj, rfl⟩ := List.mem_map.1 hi
      exact (hq j (List.mem_range.1 hj)).2.2.1
    · rw [hcl] at hi
      rw [hci i hi]
      obtain ⟨rfl, h2, _, r⟩ := hq i hi
      exact ⟨b, off, rfl, h2, r⟩
set_option maxRecDepth 100000 in
theorem open_flsT {W : World} {fuel : Nat} {cs : List Value} {x : DataW H × List MemPlace} (hf : DataW.trod enc Tryz.prog W 0 (fun _ => true) true fuel 26 cs = some x) :
    ∃ (ao : Option Addr) (l : List Nat) (cap : Nat), cs = [.slice ao l.length cap] ∧ (∀ y ∈ l, y < 18446744073709551616) ∧ FlAt W ao l := by
  rcases open_slice1 Tryz.underlying26 cellsF hf with ⟨hcs, _⟩ | ⟨a, len, cap, m, n, V, D, Pl, hcs, _, hl, hm, hmm, hd, hx⟩
  · exact ⟨none, [], 0, hcs, fun y hy => (by cases hy), fun i hi => absurd hi (Nat.not_lt_zero i)⟩
  · simp only [if_true] at hmm
    obtain ⟨b, off, spot⟩ := a
    have hs : 0 < len → spot = none := by
      intro h0
      obtain ⟨h1, _⟩ := hx 0 (by omega)
      simpa [Addr.add] using World.cell?_spot h1
    have each : ∀ i, i < len → ∃ q : Nat, spot = none ∧ b < W.heap.size ∧ q < 18446744073709551616 ∧ W.cell? ⟨b, off + i, none⟩ = some (.float .f64 q) := by
      intro i hi
      obtain ⟨h1, h2⟩ := hx i (by omega)
      obtain ⟨q, e, hq⟩ := trod_f64 h2
      simp at e
      rw [e] at h1
      have hs := hs (by omega)
      subst hs
      rw [Go.WideShapes.add_plain] at h1
      exact ⟨q, rfl, World.block_lt_of_cell? W _ h1, hq, h1⟩
    obtain ⟨q, hq⟩ := choose_lt each
    have hlen : ((List.range len).map q).length = len := by simp
    have hget : ∀ i, i < len → ((List.range len).map q).getD i 0 = q i := fun i hi => by simp [hi]
    refine ⟨some ⟨b, off, spot⟩, (List.range len).map q, cap, by rw [hlen]; exact hcs, fun y hy => ?_, fun i hi => ?_⟩
    · obtain ⟨j, hj, rfl⟩ := List.mem_map.1 hy
      exact (hq j (List.mem_range.1 hj)).2.2.1
    · rw [hlen] at hi
      obtain ⟨rfl, r1, _, r3⟩ := hq i hi
      exact ⟨b, off, rfl, r1, by rw [hget i hi]; exact r3⟩
set_option maxRecDepth 100000 in
theorem open_progs {W : World} {base : Nat} {v : Value} {d : DataW H} {ps : List MemPlace} (hval : Value.okWide Tryz.prog W .any base 24 v) (h : DataW.Trod enc Tryz.prog W 0 (fun _ => true) true 24 v d ps) :
    ∃ ao cap l, v = .slice ao l.length cap ∧ l.length ≤ maxLen ∧ PgsAt W ao l := by
  obtain ⟨a0, len, cap, rfl⟩ := okWide_slice Tryz.underlying24 hval
  obtain ⟨fuel, hf⟩ := h
  rcases open_slice Tryz.underlying24 hf with ⟨hcs, _⟩ | ⟨a, len', cap', m, n, D, Pl, hcs, _, hl, hm, hmm, _, hx⟩
  · simp [Value.cells] at hcs
    obtain ⟨rfl, rfl, rfl⟩ := hcs
    exact ⟨none, 0, [], rfl, Nat.zero_le _, fun i hi => absurd hi (Nat.not_lt_zero i)⟩
  · simp [Value.cells] at hcs
    obtain ⟨rfl, rfl, rfl⟩ := hcs
    simp only [if_true] at hmm
    obtain ⟨b, off, spot⟩ := a
    have hs : 0 < len → spot = none := by
      intro h0
      obtain ⟨cs', h1, _⟩ := hx 0 (by omega)
      rw [cellsPg9] at h1
      obtain ⟨_, hlen, hcell⟩ := World.cells?_some h1
      match cs', hlen with
      | [c0, c1], _ =>
        have f0 := hcell 0 (by omega)
        simpa [Addr.add] using World.cell?_spot f0
    have each : ∀ i, i < len → ∃ q : Pg, spot = none ∧ b < W.heap.size ∧ W.cell? ⟨b, off + i * 2, none⟩ = some (.int .i64 q.t) ∧ W.cell? ⟨b, off + i * 2 + 1, none⟩ = some (.slice q.p q.c.length q.q) ∧ CodeAt W q.p q.c ∧ q.c.length ≤ 9223372036854775807 ∧ ∀ x ∈ q.c, x.x < 18446744073709551616 := by
      intro i hi
      obtain ⟨cs', h1, h2⟩ := hx i (by omega)
      rw [cellsPg9] at h1
      obtain ⟨_, hlen, hcell⟩ := World.cells?_some h1
      obtain ⟨xs, k, _, _, _, hxl, hg⟩ := DataW.trod_struct Tryz.underlying49 h2
      match xs, hxl, cs', hlen with
      | [y0, y1], _, [c0, c1], _ =>
        have g0 := hg 0 _ rfl
        have g1 := hg 1 _ rfl
        simp [cellsI9, cellsSI9] at g0 g1
        obtain ⟨x0, e0, _, _⟩ := DataW.trod_int Tryz.underlying3 g0
        obtain ⟨ao, cc, cp, e1, hcl, hcx, hco⟩ := open_codeT g1
        simp at e0 e1
        subst e0 e1
        have f0 := hcell 0 (by omega)
        have f1 := hcell 1 (by omega)
        rw [add_add] at f0 f1
        have hspot := hs (by omega)
        subst hspot
        rw [Go.WideShapes.add_plain] at f0 f1
        exact ⟨⟨x0, ao, cc, cp⟩, rfl, World.block_lt_of_cell? W _ f0, f0, f1, hco, hcl, hcx⟩
    have : Inhabited Pg := ⟨pg0⟩
    obtain ⟨q, hq⟩ := choose_lt each
    have hcl : ((List.range len).map q).length = len := by simp
    have hget : ∀ i, i < len → ((List.range len).map q).getD i pg0 = q i := fun i hi => by simp [hi]
    refine ⟨some ⟨b, off, spot⟩, cap, (List.range len).map q, by rw [hcl], by rw [hcl]; omega, fun i hi => ?_⟩
    rw [hcl] at hi
    rw [hget i hi]
    obtain ⟨rfl, r⟩ := hq i hi
    exact ⟨b, off, rfl, r⟩
set_option maxRecDepth 100000 in
theorem open_calls {W : World} {base : Nat} {v : Value} {d : DataW H} {ps : List MemPlace} (hval : Value.okWide Tryz.prog W .any base 25 v) (h : DataW.Trod enc Tryz.prog W 0 (fun _ => true) true 25 v d ps) :
    ∃ ao cap l, v = .slice ao l.length cap ∧ (l.length ≤ cap ∧ cap ≤ maxLen) ∧ ClsAt W ao l := by
  obtain ⟨a0, len, cap, rfl⟩ := okWide_slice Tryz.underlying25 hval
  obtain ⟨fuel, hf⟩ := h
  rcases open_slice Tryz.underlying25 hf with ⟨hcs, _⟩ | ⟨a, len', cap', m, n, D, Pl, hcs, _, hl, hm, hmm, _, hx⟩
  · simp [Value.cells] at hcs
    obtain ⟨rfl, rfl, rfl⟩ := hcs
    exact ⟨none, 0, [], rfl, ⟨Nat.le_refl _, Nat.zero_le _⟩, fun i hi => absurd hi (Nat.not_lt_zero i)⟩
  · simp [Value.cells] at hcs
    obtain ⟨rfl, rfl, rfl⟩ := hcs
    simp only [if_true] at hmm
    obtain ⟨b, off, spot⟩ := a
    have hs : 0 < len → spot = none := by
      intro h0
      obtain ⟨cs', h1, _⟩ := hx 0 (by omega)
      rw [cellsCl9] at h1
      obtain ⟨_, hlen, hcell⟩ := World.cells?_some h1
      match cs', hlen with
      | [c0, c1], _ =>
        have f0 := hcell 0 (by omega)
        simpa [Addr.add] using World.cell?_spot f0
    have each : ∀ i, i < len → ∃ q : Cl, spot = none ∧ b < W.heap.size ∧ W.cell? ⟨b, off + i * 2, none⟩ = some (.int .i64 q.k) ∧ W.cell? ⟨b, off + i * 2 + 1, none⟩ = some (.slice q.p q.l.length q.q) ∧ FlAt W q.p q.l ∧ ∀ x ∈ q.l, x < 18446744073709551616 := by
      intro i hi
      obtain ⟨cs', h1, h2⟩ := hx i (by omega)
      rw [cellsCl9] at h1
      obtain ⟨_, hlen, hcell⟩ := World.cells?_some h1
      obtain ⟨xs, k, _, _, _, hxl, hg⟩ := DataW.trod_struct Tryz.underlying69 h2
      match xs, hxl, cs', hlen with
      | [y0, y1], _, [c0, c1], _ =>
        have g0 := hg 0 _ rfl
        have g1 := hg 1 _ rfl
        simp [cellsI9, cellsSF9] at g0 g1
        obtain ⟨x0, e0, _, _⟩ := DataW.trod_int Tryz.underlying3 g0
        obtain ⟨ao, ll, cp, e1, hll, hfl⟩ := open_flsT g1
        simp at e0 e1
        subst e0 e1
        have f0 := hcell 0 (by omega)
        have f1 := hcell 1 (by omega)
        rw [add_add] at f0 f1
        have hspot := hs (by omega)
        subst hspot
        rw [Go.WideShapes.add_plain] at f0 f1
        exact ⟨⟨x0, ao, ll, cp⟩, rfl, World.block_lt_of_cell? W _ f0, f0, f1, hfl, hll⟩
    have : Inhabited Cl := ⟨cl0⟩
    obtain ⟨q, hq⟩ := choose_lt each
    have hcl : ((List.range len).map q).length = len := by simp
    have hget : ∀ i, i < len → ((List.range len).map q).getD i cl0 = q i := fun i hi => by simp [hi]
    refine ⟨some ⟨b, off, spot⟩, cap, (List.range len).map q, by rw [hcl], ⟨by rw [hcl]; exact hl, hm⟩, fun i hi => ?_⟩
    rw [hcl] at hi
    rw [hget i hi]
    obtain ⟨rfl, r⟩ := hq i hi
    exact ⟨b, off, rfl, r⟩
end
end Go.Proofs.YtmlklnimkgnbkaaGreatDoor
namespace Go.Proofs.YtmlklnimkgnbkaaGreatDoor
open Go.ChangeShapes Go.WideShapes Go.ChangeAt Go.RowKit Num
attribute [local go_sem] run_store_float

/-! AloneJoined -/
set_option maxHeartbeats 16000000 in
set_option maxRecDepth 100000 in
theorem lawJoined_any {W : World} {a b c e : Int} {po : Option Addr} {ps : List Pg} {np cp : Nat} {xo : Option Addr} {xs : List Cl} {nx cx : Nat} {pst : Option Addr} {st : List Nat} {ns cst : Nat} (hT : Shaped5 W) (hnp : ps.length = np) (hP : PgsAt W po ps) (hnx : xs.length = nx) (hcx : nx ≤ cx) (hX : ClsAt W xo xs) (hns : st.length = ns) (hS : FlAt W pst st) (hst : ∀ x ∈ st, x < 18446744073709551616) : Calls Tryz.prog 4 #[cfgV a b c e, .slice po np cp, .slice xo nx cx, .slice pst ns cst] W fun r w' => r = .returned (.bool true) ∧ Below W.heap.size W w' := by
  have HLV := Lib.hid (live_any (hT.on (below_alloc W (cfgO a b c e))))
  cases hmay : Sx.mayN (ns : Int)
  · have HGN : Hid (∀ u, Calls Tryz.prog 7 #[.slice pst ns cst] u fun e w' => e = .returned (.tuple #[.pointer none, .bool true]) ∧ w' = u) := fun u => given_none hns hmay
    clear hT hP hX hS hst hmay hnp hnx hns hcx
    go_enter Tryz.func4, Tryz.ntmps4
    go_wp2_with (first
      | (go_at_call 7; refine (HGN.out _).mono ?_; rintro r w' ⟨rfl, hw⟩; subst w')
      | (go_at_call 6; refine HLV.out.mono ?_; rintro r u0 ⟨rfl, q⟩; obtain ⟨v0, v1, v2, v3, v4⟩ := Md.cells4 (cfg_box q).1; have B0 := Lib.hid q; clear q))
    go_ret
    exact ⟨rfl, (cfg_box B0.out).2⟩
  · have HGI : Hid (∀ u, Below W.heap.size W u → Calls Tryz.prog 7 #[.slice pst ns cst] u fun e w' => ∃ b F, e = .returned (.tuple #[.pointer (some ⟨b, 0, none⟩), .bool true]) ∧ Sx.Cel 77 w' b F (st.map fixB) ∧ Abv u.heap.size F ∧ Below u.heap.size u w') := fun u hb => given_some hns (hS.on hb) hmay
    have hok : okS (st.map fixB) := okS_map hst
    by_cases hE : callsE a b c e np (st.map fixB).length xs = 0
    · have HCG : Hid (∀ u b1 F, Below W.heap.size W u → Abv W.heap.size F → Sx.Cel 77 u b1 F (st.map fixB) → Calls Tryz.prog 9 #[cfgV a b c e, .slice po np cp, .slice xo nx cx, .pointer (some ⟨b1, 0, none⟩)] u fun r w' => ∃ g L, r = .returned (.tuple #[.slice (some ⟨g, 0, none⟩) nx nx, .int .i64 0]) ∧ L.map (·.2) = callsR a b c e ps xs (st.map fixB) ∧ RsK w' u.heap.size g nx L ∧ Sx.Cel 77 w' b1 F (callsS a b c e ps xs (st.map fixB)) ∧ Turn F F u w') := fun u b1 F hb hA hc => calls_good hT hb hA hnp hnx hP hX hc hok hE
      have h512 : nx ≤ 512 := by have := (callsE_zero hE).2.1.2; omega
      obtain ⟨kq, hkq⟩ : ∃ kq, nx / 2 = kq := ⟨_, rfl⟩
      have hkn : kq ≤ nx := by omega
      have hkn' : (kq : Int) ≤ (nx : Int) := by omega
      have hkc : (kq : Int) ≤ (cx : Int) := by omega
      have HQW : Hid (wrap64 ((nx : Int) / 2) = (kq : Int) ∧ (nx : Int) / 2 = (kq : Int)) := by
        have h := Go.IntWalk.wrap64_in ((nx : Int) / 2) (by omega)
        have h2 : (nx : Int) / 2 = (kq : Int) := by omega
        exact ⟨h.trans h2, h2⟩
      have HKQ := Lib.hid hkq
      clear hkq
      have hok1 : okS (callsS a b c e ps (xs.take kq) (st.map fixB)) := callsS_ok hP.lt _ (fun x hx => hX.lt x (List.mem_of_mem_take hx)) hok
      have HC1 : Hid (∀ u b1 F xo' cx', Below W.heap.size W u → Abv W.heap.size F → ClsAt W xo' (xs.take kq) → Sx.Cel 77 u b1 F (st.map fixB) → Calls Tryz.prog 9 #[cfgV a b c e, .slice po np cp, .slice xo' kq cx', .pointer (some ⟨b1, 0, none⟩)] u fun r w' => ∃ g L, r = .returned (.tuple #[.slice (some ⟨g, 0, none⟩) kq kq, .int .i64 0]) ∧ L.map (·.2) = callsR a b c e ps (xs.take kq) (st.map fixB) ∧ RsK w' u.heap.size g kq L ∧ Sx.Cel 77 w' b1 F (callsS a b c e ps (xs.take kq) (st.map fixB)) ∧ Turn F F u w') := fun u b1 F xo' cx' hb hA hx' hc => calls_good hT hb hA hnp (by rw [List.length_take]; omega) hP hx' hc hok (callsE_take hE kq rfl)
      obtain ⟨nk, hnk⟩ : ∃ nk, nx - kq = nk := ⟨_, rfl⟩
      have HC2 : Hid (∀ u b1 F xo' cx', Below W.heap.size W u → Abv W.heap.size F → ClsAt W xo' (xs.drop kq) → Sx.Cel 77 u b1 F (callsS a b c e ps (xs.take kq) (st.map fixB)) → Calls Tryz.prog 9 #[cfgV a b c e, .slice po np cp, .slice xo' nk cx', .pointer (some ⟨b1, 0, none⟩)] u fun r w' => ∃ g L, r = .returned (.tuple #[.slice (some ⟨g, 0, none⟩) nk nk, .int .i64 0]) ∧ L.map (·.2) = callsR a b c e ps (xs.drop kq) (callsS a b c e ps (xs.take kq) (st.map fixB)) ∧ RsK w' u.heap.size g nk L ∧ Sx.Cel 77 w' b1 F (callsS a b c e ps (xs.drop kq) (callsS a b c e ps (xs.take kq) (st.map fixB))) ∧ Turn F F u w') := fun u b1 F xo' cx' hb hA hx' hc => calls_good hT hb hA hnp (by rw [List.length_drop]; omega) hP hx' hc hok1 (callsE_drop hE kq (callsS_len ..))
      have HTO := Lib.hid (callsR_told (a := a) (b := b) (c := c) (e := e) hP.lt xs hX.lt hok)
      have HJN := Lib.hid (calls_join a b c e ps xs kq (st.map fixB)).1
      have HL1 := Lib.hid (show (callsR a b c e ps (xs.take kq) (st.map fixB)).length = kq by rw [callsR_len, List.length_take]; omega)
      have HL2 := Lib.hid (show (callsR a b c e ps (xs.drop kq) (callsS a b c e ps (xs.take kq) (st.map fixB))).length = nk by rw [callsR_len, List.length_drop]; omega)
      have hSl : (callsS a b c e ps (xs.drop kq) (callsS a b c e ps (xs.take kq) (st.map fixB))).length = ns := by rw [callsS_len, callsS_len, List.length_map]; exact hns
      rw [(calls_join a b c e ps xs kq (st.map fixB)).2] at HCG
      rw [(calls_join a b c e ps xs kq (st.map fixB)).1] at HCG HTO
      have hmn : 1 ≤ ns ∧ ns ≤ 256 := by unfold Sx.mayN at hmay; simp at hmay; omega
      generalize callsR a b c e ps (xs.drop kq) (callsS a b c e ps (xs.take kq) (st.map fixB)) = m2 at *
      generalize callsS a b c e ps (xs.drop kq) (callsS a b c e ps (xs.take kq) (st.map fixB)) = sN at *
      generalize callsR a b c e ps (xs.take kq) (st.map fixB) = m1 at *
      generalize callsS a b c e ps (xs.take kq) (st.map fixB) = s1 at *
      have HAL : Hid (∀ u b1 F, Sx.Cel 77 u b1 F sN → Calls Tryz.prog 12 #[.pointer (some ⟨b1, 0, none⟩)] u fun e w' => e = .returned (.slice (some ⟨u.heap.size, 0, none⟩) ns ns) ∧ RowAt 50 w' (some ⟨u.heap.size, 0, none⟩) ns (fls sN) ∧ Below u.heap.size u w') := fun u b1 F h => by rw [← hSl]; exact Sx.all_any h
      have HEX : Hid (∀ u p q c1 c2, FlAt u p sN → FlAt u q sN → Calls Tryz.prog 11 #[.slice p ns c1, .slice q ns c2] u fun e w' => e = .returned (.bool true) ∧ Same u w') := fun u p q c1 c2 h1 h2 => exact_at hSl (by omega) h1 h2
      have HS4 : Hid (∀ u : World, u.heap[W.heap.size]? = some (cfgO a b c e) → ((fun u => u.cell? ⟨W.heap.size, 0, none⟩ = some (.int .i64 a) ∧ u.cell? ⟨W.heap.size, 1, none⟩ = some (.int .i64 b) ∧ u.cell? ⟨W.heap.size, 2, none⟩ = some (.int .i64 c) ∧ u.cell? ⟨W.heap.size, 3, none⟩ = some (.int .i64 e))) u) := fun u h => by
        obtain ⟨v0, v1, v2, v3, _⟩ := Md.cells4 h
        exact ⟨v0, v1, v2, v3⟩
      have hqs : (((kq : Int) + (nk : Int)) != (nx : Int)) = false := by simp; omega
      have hnki : (nx : Int) - (kq : Int) = (nk : Int) := by omega
      have hways : (xo = none ∧ nx = 0) ∨ (∃ g o sl, xo = some ⟨g, o, sl⟩ ∧ nx = 0 ∧ cx = 0) ∨ ∃ g o sl, xo = some ⟨g, o, sl⟩ ∧ ¬ cx = kq ∧ ClsAt W (some ((⟨g, o, sl⟩ : Addr).add (kq * 2))) (xs.drop kq) := by
        cases xo with
        | none =>
          refine .inl ⟨rfl, ?_⟩
          cases xs with
          | nil => exact hnx.symm
          | cons y ys => obtain ⟨g, o, h1, _⟩ := hX 0 (by simp); cases h1
        | some ad =>
          obtain ⟨g, o, sl⟩ := ad
          by_cases hck : cx = kq
          · exact .inr (.inl ⟨g, o, sl, rfl, by have := HKQ.out; omega, by have := HKQ.out; omega⟩)
          refine .inr (.inr ⟨g, o, sl, rfl, hck, ?_⟩)
          cases xs with
          | nil => exact fun i hi => absurd hi (by simp)
          | cons y ys =>
            obtain ⟨g2, o2, h1, _⟩ := hX 0 (by simp)
            cases h1
            rw [Go.WideShapes.add_plain]
            exact hX.drop kq
      have HXT := Lib.hid (hX.take kq)
      have HXN : Hid (nx = 0 → ∀ p, ClsAt W p (xs.drop kq)) := fun h p i hi => absurd hi (by rw [List.length_drop]; omega)
      clear hT hP hX hS hst hmay hnp hnx hns hok hE hSl hok1 hcx
      rcases hways with ⟨rfl, hz⟩ | ⟨xg, xo2, xsl, rfl, hz, hz2⟩ | ⟨xg, xo2, xsl, rfl, hck, hXD⟩
      · subst hz
        obtain rfl : kq = 0 := by omega
        obtain rfl : nk = 0 := by omega
        clear hnk hnki hkn hkn' hkc hqs HKQ
        obtain ⟨hq, hq2⟩ := HQW.out
        go_enter Tryz.func4, Tryz.ntmps4
        go_upto_region 12 with (first
          | (go_at_call 9; refine (HCG.out _ _ _ (cfg_box B2.out).2 (A1.out.mono (cfg_box B0.out).2.size) D2.out).mono ?_; rintro r u3 ⟨g1, L1, rfl, q1, q2, q3, q4⟩; have q5 := q4.shaped B2.out (A1.out.mono B0.out.size); obtain ⟨v0, v1, v2, v3, v4⟩ := Md.cells4 (cfg_box q5).1; have K3 := Lib.hid (And.intro q1 q2); have C3 := Lib.hid q3; have T3 := Lib.hid q4; have B3 := Lib.hid q5; clear q1 q2 q3 q4 q5)
          | (go_at_call 14; refine (Sx.clone_any C1.out).mono ?_; rintro r u2 ⟨b2, F2, rfl, q1, q2, q3⟩; have q4 := B1.out.trans (q3.mono B1.out.size); obtain ⟨v0, v1, v2, v3, v4⟩ := Md.cells4 (cfg_box q4).1; have C2 := Lib.hid q1; have A2 := Lib.hid q2; have D2 := Lib.hid (C1.out.on q3); have G1 : Hid (∀ x ∈ F, x < u1.heap.size) := C1.out.blw; have B2 := Lib.hid q4; clear q1 q2 q3 q4)
          | (go_at_call 7; refine (HGI.out _ (cfg_box B0.out).2).mono ?_; rintro r u1 ⟨b1, F, rfl, q1, q2, q3⟩; have q4 := B0.out.trans (q3.mono B0.out.size); obtain ⟨v0, v1, v2, v3, v4⟩ := Md.cells4 (cfg_box q4).1; have C1 := Lib.hid q1; have A1 := Lib.hid q2; have B1 := Lib.hid q4; clear q1 q2 q3 q4)
          | (go_at_call 6; refine HLV.out.mono ?_; rintro r u0 ⟨rfl, q⟩; obtain ⟨v0, v1, v2, v3, v4⟩ := Md.cells4 (cfg_box q).1; have B0 := Lib.hid q; clear q))
        clear hq hq2 HQW
        have XC3 := Lib.hid (cfg_box B3.out)
        have D3 := Lib.hid (C2.out.turn T3.out (fun x hx y => by have := A2.out x hx; have := G1.out x y; omega))
        have A2W : Hid (Abv W.heap.size F2) := A2.out.mono (Nat.le_trans (cfg_box B1.out).2.size (Nat.le_refl _))
        have H2L : Hid (∀ x ∈ F2, x < u2.heap.size) := C2.out.blw
        have HSP : Hid (Sep F F2) := fun x hx y => by have := A2.out x y; have := G1.out x hx; omega
        have HNW : Hid (W.heap.size ∉ F2) := fun hx => by have h1 := A2.out _ hx; have h2 := (lt_of_block (cfg_box B1.out).1); omega
        have L23 : Hid (u2.heap.size ≤ u3.heap.size) := T3.out.size
        clear C2 T3 A1 A2 B0 B1 B2 D2 HCG HGI HLV G1
        refine wp_region_seq (fun u => u.cell? ⟨W.heap.size, 0, none⟩ = some (.int .i64 a) ∧ u.cell? ⟨W.heap.size, 1, none⟩ = some (.int .i64 b) ∧ u.cell? ⟨W.heap.size, 2, none⟩ = some (.int .i64 c) ∧ u.cell? ⟨W.heap.size, 3, none⟩ = some (.int .i64 e)) ((0, true) :: (1, true) :: (2, true) :: (3, true) :: (4, true) :: (5, true) :: (6, false) :: (7, true) :: (8, true) :: (9, true) :: (10, true) :: (11, true) :: []) (by kernel_rfl) (by kernel_rfl) (fun _ _ _ _ _ h => h) (HS4.out _ XC3.out.1) ?_
        repeat (first
          | (refine wpSeq_take (v := ?_) rfl (by rfl) (fun wq hSq => ?_) ?_; rotate_left; (focus ((try dsimp only at hSq); go_simp; try with_reducible rfl)); simp only [Act.put, List.setIfInBounds_toArray, List.set_cons_zero, List.set_cons_succ]))
        refine wpSeq_do rfl (by rfl) (fun K hK => ?_)
        go_simp
        refine (HC1.out _ _ _ _ _ (XC3.out.2.trans ((Same.drew u3).below _)) A2W.out HXT.out (D3.out.same (Same.drew u3))).mono ?_
        rintro r u4 ⟨g2, L2, rfl, q1, q2, q3, q4⟩
        have q5 := ((Same.drew u3).turn F2).trans q4
        have XC4 := Lib.hid (And.intro (q5.keeps XC3.out.1 HNW.out) (q5.shaped XC3.out.2 A2W.out))
        have K4 := Lib.hid (And.intro K3.out.1 (K3.out.2.turn q5 H2L.out))
        have J4 := Lib.hid (And.intro q1 q2)
        have C4 := Lib.hid (C3.out.turn q5 HSP.out)
        have D4 := Lib.hid q3
        have L34 : Hid (u3.heap.size ≤ u4.heap.size) := q5.size
        clear q1 q2 q3 q4 q5
        refine hK.out _ _ (HS4.out _ XC4.out.1) ?_
        clear hK K
        try simp only [Act.put, List.setIfInBounds_toArray, List.set_cons_zero, List.set_cons_succ]
        repeat (first
          | (refine wpSeq_take (v := ?_) rfl (by rfl) (fun wq hSq => ?_) ?_; rotate_left; (focus ((try dsimp only at hSq); go_simp; try with_reducible rfl)); simp only [Act.put, List.setIfInBounds_toArray, List.set_cons_zero, List.set_cons_succ]))
        refine wpSeq_nil ?_
        clear HC1 K3 C3 D3
        go_upto_region 13 with fail
        refine wp_region_seq (fun u => u.cell? ⟨W.heap.size, 0, none⟩ = some (.int .i64 a) ∧ u.cell? ⟨W.heap.size, 1, none⟩ = some (.int .i64 b) ∧ u.cell? ⟨W.heap.size, 2, none⟩ = some (.int .i64 c) ∧ u.cell? ⟨W.heap.size, 3, none⟩ = some (.int .i64 e)) ((0, true) :: (1, true) :: (2, true) :: (3, true) :: (4, true) :: (5, true) :: (6, false) :: (7, true) :: (8, true) :: (9, true) :: (10, true) :: (11, true) :: []) (by kernel_rfl) (by kernel_rfl) (fun _ _ _ _ _ h => h) (HS4.out _ XC4.out.1) ?_
        repeat (first
          | (refine wpSeq_take (v := ?_) rfl (by rfl) (fun wq hSq => ?_) ?_; rotate_left; (focus ((try dsimp only at hSq); go_simp; try with_reducible rfl)); simp only [Act.put, List.setIfInBounds_toArray, List.set_cons_zero, List.set_cons_succ]))
        refine wpSeq_do rfl (by rfl) (fun K hK => ?_)
        go_simp
        refine (HC2.out _ _ _ _ _ (XC4.out.2.trans ((Same.drew u4).below _)) A2W.out (HXN.out (by first | trivial | rfl) _) (D4.out.same (Same.drew u4))).mono ?_
        rintro r u5 ⟨g3, L3, rfl, q1, q2, q3, q4⟩
        have q5 := ((Same.drew u4).turn F2).trans q4
        have XC5 := Lib.hid (And.intro (q5.keeps XC4.out.1 HNW.out) (q5.shaped XC4.out.2 A2W.out))
        have K5 := Lib.hid (And.intro K4.out.1 (K4.out.2.turn q5 H2L.out))
        have J5 := Lib.hid (And.intro J4.out.1 (J4.out.2.turn q5 (fun x hx => by have := H2L.out x hx; have := L23.out; show x < u3.heap.size; omega)))
        have I5 := Lib.hid (And.intro q1 q2)
        have C5 := Lib.hid (C4.out.turn q5 HSP.out)
        have D5 := Lib.hid q3
        clear q1 q2 q3 q4 q5
        refine hK.out _ _ (HS4.out _ XC5.out.1) ?_
        clear hK K
        try simp only [Act.put, List.setIfInBounds_toArray, List.set_cons_zero, List.set_cons_succ]
        repeat (first
          | (refine wpSeq_take (v := ?_) rfl (by rfl) (fun wq hSq => ?_) ?_; rotate_left; (focus ((try dsimp only at hSq); go_simp; try with_reducible rfl)); simp only [Act.put, List.setIfInBounds_toArray, List.set_cons_zero, List.set_cons_succ]))
        refine wpSeq_nil ?_
        clear HC2 K4 C4 D4 HS4
        go_wp2_with (first
          | (go_at_call 11; refine (HEX.out _ _ _ _ _ R7.out.1.fl R7.out.2.fl).mono ?_; rintro r wE ⟨rfl, q⟩; have K8 := Lib.hid (And.intro K7.out.1 (K7.out.2.on (q.below _))); have J8 := Lib.hid (And.intro J7.out.1 (J7.out.2.on (q.below _))); have I8 := Lib.hid (And.intro I7.out.1 (I7.out.2.on (q.below _))); have B8 := Lib.hid (B7.out.trans (q.below _)); clear q)
          | (go_at_call 12; refine (HAL.out _ _ _ D6.out).mono ?_; rintro r u7 ⟨rfl, q1, q2⟩; have R7 := Lib.hid (And.intro (R6.out.on q2) q1); have K7 := Lib.hid (And.intro K6.out.1 (K6.out.2.on q2)); have J7 := Lib.hid (And.intro J6.out.1 (J6.out.2.on q2)); have I7 := Lib.hid (And.intro I6.out.1 (I6.out.2.on q2)); have B7 := Lib.hid (B6.out.trans (q2.mono B6.out.size)); clear q1 q2)
          | (go_at_call 12; refine (HAL.out _ _ _ C5.out).mono ?_; rintro r u6 ⟨rfl, q1, q2⟩; have R6 := Lib.hid q1; have D6 := Lib.hid (D5.out.on q2); have K6 := Lib.hid (And.intro K5.out.1 (K5.out.2.on q2)); have J6 := Lib.hid (And.intro J5.out.1 (J5.out.2.on q2)); have I6 := Lib.hid (And.intro I5.out.1 (I5.out.2.on q2)); have B6 := Lib.hid (XC5.out.2.trans (q2.mono XC5.out.2.size)); clear q1 q2))
        clear HAL HEX
        go_loopw [20, 21, 109] (fun _ _ vi wr => ∃ j : Nat, vi = .int .i64 j ∧ j ≤ 0 ∧ Hid (Below wE.heap.size wE wr)) (fun _ _ vi _ => 0 - (intOf vi).toNat)
        case atStart => exact ⟨0, rfl, Nat.zero_le _, Below.refl _ _⟩
        case round =>
          obtain ⟨j, rfl, hj, HQ⟩ := hrel
          by_cases hlt : j < 0
          · exact absurd hlt (Nat.not_lt_zero _)
          · have hlt' : ¬ (j : Int) < 0 := by omega
            have BF := Lib.hid (B8.out.trans (HQ.out.mono B8.out.size))
            clear HQ
            go_wp2
            go_ret
            exact ⟨rfl, BF.out⟩
      · subst hz hz2
        obtain rfl : kq = 0 := by omega
        obtain rfl : nk = 0 := by omega
        clear hnk hnki hkn hkn' hkc hqs HKQ
        obtain ⟨hq, hq2⟩ := HQW.out
        go_enter Tryz.func4, Tryz.ntmps4
        go_upto_region 12 with (first
          | (go_at_call 9; refine (HCG.out _ _ _ (cfg_box B2.out).2 (A1.out.mono (cfg_box B0.out).2.size) D2.out).mono ?_; rintro r u3 ⟨g1, L1, rfl, q1, q2, q3, q4⟩; have q5 := q4.shaped B2.out (A1.out.mono B0.out.size); obtain ⟨v0, v1, v2, v3, v4⟩ := Md.cells4 (cfg_box q5).1; have K3 := Lib.hid (And.intro q1 q2); have C3 := Lib.hid q3; have T3 := Lib.hid q4; have B3 := Lib.hid q5; clear q1 q2 q3 q4 q5)
          | (go_at_call 14; refine (Sx.clone_any C1.out).mono ?_; rintro r u2 ⟨b2, F2, rfl, q1, q2, q3⟩; have q4 := B1.out.trans (q3.mono B1.out.size); obtain ⟨v0, v1, v2, v3, v4⟩ := Md.cells4 (cfg_box q4).1; have C2 := Lib.hid q1; have A2 := Lib.hid q2; have D2 := Lib.hid (C1.out.on q3); have G1 : Hid (∀ x ∈ F, x < u1.heap.size) := C1.out.blw; have B2 := Lib.hid q4; clear q1 q2 q3 q4)
          | (go_at_call 7; refine (HGI.out _ (cfg_box B0.out).2).mono ?_; rintro r u1 ⟨b1, F, rfl, q1, q2, q3⟩; have q4 := B0.out.trans (q3.mono B0.out.size); obtain ⟨v0, v1, v2, v3, v4⟩ := Md.cells4 (cfg_box q4).1; have C1 := Lib.hid q1; have A1 := Lib.hid q2; have B1 := Lib.hid q4; clear q1 q2 q3 q4)
          | (go_at_call 6; refine HLV.out.mono ?_; rintro r u0 ⟨rfl, q⟩; obtain ⟨v0, v1, v2, v3, v4⟩ := Md.cells4 (cfg_box q).1; have B0 := Lib.hid q; clear q))
        clear hq hq2 HQW
        have XC3 := Lib.hid (cfg_box B3.out)
        have D3 := Lib.hid (C2.out.turn T3.out (fun x hx y => by have := A2.out x hx; have := G1.out x y; omega))
        have A2W : Hid (Abv W.heap.size F2) := A2.out.mono (Nat.le_trans (cfg_box B1.out).2.size (Nat.le_refl _))
        have H2L : Hid (∀ x ∈ F2, x < u2.heap.size) := C2.out.blw
        have HSP : Hid (Sep F F2) := fun x hx y => by have := A2.out x y; have := G1.out x hx; omega
        have HNW : Hid (W.heap.size ∉ F2) := fun hx => by have h1 := A2.out _ hx; have h2 := (lt_of_block (cfg_box B1.out).1); omega
        have L23 : Hid (u2.heap.size ≤ u3.heap.size) := T3.out.size
        clear C2 T3 A1 A2 B0 B1 B2 D2 HCG HGI HLV G1
        refine wp_region_seq (fun u => u.cell? ⟨W.heap.size, 0, none⟩ = some (.int .i64 a) ∧ u.cell? ⟨W.heap.size, 1, none⟩ = some (.int .i64 b) ∧ u.cell? ⟨W.heap.size, 2, none⟩ = some (.int .i64 c) ∧ u.cell? ⟨W.heap.size, 3, none⟩ = some (.int .i64 e)) ((0, true) :: (1, true) :: (2, true) :: (3, true) :: (4, true) :: (5, true) :: (6, false) :: (7, true) :: (8, true) :: (9, true) :: (10, true) :: (11, true) :: []) (by kernel_rfl) (by kernel_rfl) (fun _ _ _ _ _ h => h) (HS4.out _ XC3.out.1) ?_
        repeat (first
          | (refine wpSeq_take (v := ?_) rfl (by rfl) (fun wq hSq => ?_) ?_; rotate_left; (focus ((try dsimp only at hSq); go_simp; try with_reducible rfl)); simp only [Act.put, List.setIfInBounds_toArray, List.set_cons_zero, List.set_cons_succ]))
        refine wpSeq_do rfl (by rfl) (fun K hK => ?_)
        go_simp
        refine (HC1.out _ _ _ _ _ (XC3.out.2.trans ((Same.drew u3).below _)) A2W.out HXT.out (D3.out.same (Same.drew u3))).mono ?_
        rintro r u4 ⟨g2, L2, rfl, q1, q2, q3, q4⟩
        have q5 := ((Same.drew u3).turn F2).trans q4
        have XC4 := Lib.hid (And.intro (q5.keeps XC3.out.1 HNW.out) (q5.shaped XC3.out.2 A2W.out))
        have K4 := Lib.hid (And.intro K3.out.1 (K3.out.2.turn q5 H2L.out))
        have J4 := Lib.hid (And.intro q1 q2)
        have C4 := Lib.hid (C3.out.turn q5 HSP.out)
        have D4 := Lib.hid q3
        have L34 : Hid (u3.heap.size ≤ u4.heap.size) := q5.size
        clear q1 q2 q3 q4 q5
        refine hK.out _ _ (HS4.out _ XC4.out.1) ?_
        clear hK K
        try simp only [Act.put, List.setIfInBounds_toArray, List.set_cons_zero, List.set_cons_succ]
        repeat (first
          | (refine wpSeq_take (v := ?_) rfl (by rfl) (fun wq hSq => ?_) ?_; rotate_left; (focus ((try dsimp only at hSq); go_simp; try with_reducible rfl)); simp only [Act.put, List.setIfInBounds_toArray, List.set_cons_zero, List.set_cons_succ]))
        refine wpSeq_nil ?_
        clear HC1 K3 C3 D3
        go_upto_region 13 with fail
        refine wp_region_seq (fun u => u.cell? ⟨W.heap.size, 0, none⟩ = some (.int .i64 a) ∧ u.cell? ⟨W.heap.size, 1, none⟩ = some (.int .i64 b) ∧ u.cell? ⟨W.heap.size, 2, none⟩ = some (.int .i64 c) ∧ u.cell? ⟨W.heap.size, 3, none⟩ = some (.int .i64 e)) ((0, true) :: (1, true) :: (2, true) :: (3, true) :: (4, true) :: (5, true) :: (6, false) :: (7, true) :: (8, true) :: (9, true) :: (10, true) :: (11, true) :: []) (by kernel_rfl) (by kernel_rfl) (fun _ _ _ _ _ h => h) (HS4.out _ XC4.out.1) ?_
        repeat (first
          | (refine wpSeq_take (v := ?_) rfl (by rfl) (fun wq hSq => ?_) ?_; rotate_left; (focus ((try dsimp only at hSq); go_simp; try with_reducible rfl)); simp only [Act.put, List.setIfInBounds_toArray, List.set_cons_zero, List.set_cons_succ]))
        refine wpSeq_do rfl (by rfl) (fun K hK => ?_)
        go_simp
        refine (HC2.out _ _ _ _ _ (XC4.out.2.trans ((Same.drew u4).below _)) A2W.out (HXN.out (by first | trivial | rfl) _) (D4.out.same (Same.drew u4))).mono ?_
        rintro r u5 ⟨g3, L3, rfl, q1, q2, q3, q4⟩
        have q5 := ((Same.drew u4).turn F2).trans q4
        have XC5 := Lib.hid (And.intro (q5.keeps XC4.out.1 HNW.out) (q5.shaped XC4.out.2 A2W.out))
        have K5 := Lib.hid (And.intro K4.out.1 (K4.out.2.turn q5 H2L.out))
        have J5 := Lib.hid (And.intro J4.out.1 (J4.out.2.turn q5 (fun x hx => by have := H2L.out x hx; have := L23.out; show x < u3.heap.size; omega)))
        have I5 := Lib.hid (And.intro q1 q2)
        have C5 := Lib.hid (C4.out.turn q5 HSP.out)
        have D5 := Lib.hid q3
        clear q1 q2 q3 q4 q5
        refine hK.out _ _ (HS4.out _ XC5.out.1) ?_
        clear hK K
        try simp only [Act.put, List.setIfInBounds_toArray, List.set_cons_zero, List.set_cons_succ]
        repeat (first
          | (refine wpSeq_take (v := ?_) rfl (by rfl) (fun wq hSq => ?_) ?_; rotate_left; (focus ((try dsimp only at hSq); go_simp; try with_reducible rfl)); simp only [Act.put, List.setIfInBounds_toArray, List.set_cons_zero, List.set_cons_succ]))
        refine wpSeq_nil ?_
        clear HC2 K4 C4 D4 HS4
        go_wp2_with (first
          | (go_at_call 11; refine (HEX.out _ _ _ _ _ R7.out.1.fl R7.out.2.fl).mono ?_; rintro r wE ⟨rfl, q⟩; have K8 := Lib.hid (And.intro K7.out.1 (K7.out.2.on (q.below _))); have J8 := Lib.hid (And.intro J7.out.1 (J7.out.2.on (q.below _))); have I8 := Lib.hid (And.intro I7.out.1 (I7.out.2.on (q.below _))); have B8 := Lib.hid (B7.out.trans (q.below _)); clear q)
          | (go_at_call 12; refine (HAL.out _ _ _ D6.out).mono ?_; rintro r u7 ⟨rfl, q1, q2⟩; have R7 := Lib.hid (And.intro (R6.out.on q2) q1); have K7 := Lib.hid (And.intro K6.out.1 (K6.out.2.on q2)); have J7 := Lib.hid (And.intro J6.out.1 (J6.out.2.on q2)); have I7 := Lib.hid (And.intro I6.out.1 (I6.out.2.on q2)); have B7 := Lib.hid (B6.out.trans (q2.mono B6.out.size)); clear q1 q2)
          | (go_at_call 12; refine (HAL.out _ _ _ C5.out).mono ?_; rintro r u6 ⟨rfl, q1, q2⟩; have R6 := Lib.hid q1; have D6 := Lib.hid (D5.out.on q2); have K6 := Lib.hid (And.intro K5.out.1 (K5.out.2.on q2)); have J6 := Lib.hid (And.intro J5.out.1 (J5.out.2.on q2)); have I6 := Lib.hid (And.intro I5.out.1 (I5.out.2.on q2)); have B6 := Lib.hid (XC5.out.2.trans (q2.mono XC5.out.2.size)); clear q1 q2))
        clear HAL HEX
        go_loopw [20, 21, 109] (fun _ _ vi wr => ∃ j : Nat, vi = .int .i64 j ∧ j ≤ 0 ∧ Hid (Below wE.heap.size wE wr)) (fun _ _ vi _ => 0 - (intOf vi).toNat)
        case atStart => exact ⟨0, rfl, Nat.zero_le _, Below.refl _ _⟩
        case round =>
          obtain ⟨j, rfl, hj, HQ⟩ := hrel
          by_cases hlt : j < 0
          · exact absurd hlt (Nat.not_lt_zero _)
          · have hlt' : ¬ (j : Int) < 0 := by omega
            have BF := Lib.hid (B8.out.trans (HQ.out.mono B8.out.size))
            clear HQ
            go_wp2
            go_ret
            exact ⟨rfl, BF.out⟩
      · have HXD := Lib.hid hXD
        have HNK := Lib.hid hnk
        clear hXD hnk HKQ
        obtain ⟨hq, hq2⟩ := HQW.out
        go_enter Tryz.func4, Tryz.ntmps4
        go_upto_region 12 with (first
          | (go_at_call 9; refine (HCG.out _ _ _ (cfg_box B2.out).2 (A1.out.mono (cfg_box B0.out).2.size) D2.out).mono ?_; rintro r u3 ⟨g1, L1, rfl, q1, q2, q3, q4⟩; have q5 := q4.shaped B2.out (A1.out.mono B0.out.size); obtain ⟨v0, v1, v2, v3, v4⟩ := Md.cells4 (cfg_box q5).1; have K3 := Lib.hid (And.intro q1 q2); have C3 := Lib.hid q3; have T3 := Lib.hid q4; have B3 := Lib.hid q5; clear q1 q2 q3 q4 q5)
          | (go_at_call 14; refine (Sx.clone_any C1.out).mono ?_; rintro r u2 ⟨b2, F2, rfl, q1, q2, q3⟩; have q4 := B1.out.trans (q3.mono B1.out.size); obtain ⟨v0, v1, v2, v3, v4⟩ := Md.cells4 (cfg_box q4).1; have C2 := Lib.hid q1; have A2 := Lib.hid q2; have D2 := Lib.hid (C1.out.on q3); have G1 : Hid (∀ x ∈ F, x < u1.heap.size) := C1.out.blw; have B2 := Lib.hid q4; clear q1 q2 q3 q4)
          | (go_at_call 7; refine (HGI.out _ (cfg_box B0.out).2).mono ?_; rintro r u1 ⟨b1, F, rfl, q1, q2, q3⟩; have q4 := B0.out.trans (q3.mono B0.out.size); obtain ⟨v0, v1, v2, v3, v4⟩ := Md.cells4 (cfg_box q4).1; have C1 := Lib.hid q1; have A1 := Lib.hid q2; have B1 := Lib.hid q4; clear q1 q2 q3 q4)
          | (go_at_call 6; refine HLV.out.mono ?_; rintro r u0 ⟨rfl, q⟩; obtain ⟨v0, v1, v2, v3, v4⟩ := Md.cells4 (cfg_box q).1; have B0 := Lib.hid q; clear q))
        clear hq hq2 HQW
        have XC3 := Lib.hid (cfg_box B3.out)
        have D3 := Lib.hid (C2.out.turn T3.out (fun x hx y => by have := A2.out x hx; have := G1.out x y; omega))
        have A2W : Hid (Abv W.heap.size F2) := A2.out.mono (Nat.le_trans (cfg_box B1.out).2.size (Nat.le_refl _))
        have H2L : Hid (∀ x ∈ F2, x < u2.heap.size) := C2.out.blw
        have HSP : Hid (Sep F F2) := fun x hx y => by have := A2.out x y; have := G1.out x hx; omega
        have HNW : Hid (W.heap.size ∉ F2) := fun hx => by have h1 := A2.out _ hx; have h2 := (lt_of_block (cfg_box B1.out).1); omega
        have L23 : Hid (u2.heap.size ≤ u3.heap.size) := T3.out.size
        clear C2 T3 A1 A2 B0 B1 B2 D2 HCG HGI HLV G1
        refine wp_region_seq (fun u => u.cell? ⟨W.heap.size, 0, none⟩ = some (.int .i64 a) ∧ u.cell? ⟨W.heap.size, 1, none⟩ = some (.int .i64 b) ∧ u.cell? ⟨W.heap.size, 2, none⟩ = some (.int .i64 c) ∧ u.cell? ⟨W.heap.size, 3, none⟩ = some (.int .i64 e)) ((0, true) :: (1, true) :: (2, true) :: (3, true) :: (4, true) :: (5, true) :: (6, false) :: (7, true) :: (8, true) :: (9, true) :: (10, true) :: (11, true) :: []) (by kernel_rfl) (by kernel_rfl) (fun _ _ _ _ _ h => h) (HS4.out _ XC3.out.1) ?_
        repeat (first
          | (refine wpSeq_take (v := ?_) rfl (by rfl) (fun wq hSq => ?_) ?_; rotate_left; (focus ((try dsimp only at hSq); go_simp; try with_reducible rfl)); simp only [Act.put, List.setIfInBounds_toArray, List.set_cons_zero, List.set_cons_succ]))
        refine wpSeq_do rfl (by rfl) (fun K hK => ?_)
        go_simp
        refine (HC1.out _ _ _ _ _ (XC3.out.2.trans ((Same.drew u3).below _)) A2W.out HXT.out (D3.out.same (Same.drew u3))).mono ?_
        rintro r u4 ⟨g2, L2, rfl, q1, q2, q3, q4⟩
        have q5 := ((Same.drew u3).turn F2).trans q4
        have XC4 := Lib.hid (And.intro (q5.keeps XC3.out.1 HNW.out) (q5.shaped XC3.out.2 A2W.out))
        have K4 := Lib.hid (And.intro K3.out.1 (K3.out.2.turn q5 H2L.out))
        have J4 := Lib.hid (And.intro q1 q2)
        have C4 := Lib.hid (C3.out.turn q5 HSP.out)
        have D4 := Lib.hid q3
        have L34 : Hid (u3.heap.size ≤ u4.heap.size) := q5.size
        clear q1 q2 q3 q4 q5
        refine hK.out _ _ (HS4.out _ XC4.out.1) ?_
        clear hK K
        try simp only [Act.put, List.setIfInBounds_toArray, List.set_cons_zero, List.set_cons_succ]
        repeat (first
          | (refine wpSeq_take (v := ?_) rfl (by rfl) (fun wq hSq => ?_) ?_; rotate_left; (focus ((try dsimp only at hSq); go_simp; try with_reducible rfl)); simp only [Act.put, List.setIfInBounds_toArray, List.set_cons_zero, List.set_cons_succ]))
        refine wpSeq_nil ?_
        clear HC1 K3 C3 D3
        have hnk := HNK.out
        go_upto_region 13 with fail
        refine wp_region_seq (fun u => u.cell? ⟨W.heap.size, 0, none⟩ = some (.int .i64 a) ∧ u.cell? ⟨W.heap.size, 1, none⟩ = some (.int .i64 b) ∧ u.cell? ⟨W.heap.size, 2, none⟩ = some (.int .i64 c) ∧ u.cell? ⟨W.heap.size, 3, none⟩ = some (.int .i64 e)) ((0, true) :: (1, true) :: (2, true) :: (3, true) :: (4, true) :: (5, true) :: (6, false) :: (7, true) :: (8, true) :: (9, true) :: (10, true) :: (11, true) :: []) (by kernel_rfl) (by kernel_rfl) (fun _ _ _ _ _ h => h) (HS4.out _ XC4.out.1) ?_
        repeat (first
          | (refine wpSeq_take (v := ?_) rfl (by rfl) (fun wq hSq => ?_) ?_; rotate_left; (focus ((try dsimp only at hSq); go_simp; try with_reducible rfl)); simp only [Act.put, List.setIfInBounds_toArray, List.set_cons_zero, List.set_cons_succ]))
        refine wpSeq_do rfl (by rfl) (fun K hK => ?_)
        go_simp
        refine (HC2.out _ _ _ _ _ (XC4.out.2.trans ((Same.drew u4).below _)) A2W.out HXD.out (D4.out.same (Same.drew u4))).mono ?_
        rintro r u5 ⟨g3, L3, rfl, q1, q2, q3, q4⟩
        have q5 := ((Same.drew u4).turn F2).trans q4
        have XC5 := Lib.hid (And.intro (q5.keeps XC4.out.1 HNW.out) (q5.shaped XC4.out.2 A2W.out))
        have K5 := Lib.hid (And.intro K4.out.1 (K4.out.2.turn q5 H2L.out))
        have J5 := Lib.hid (And.intro J4.out.1 (J4.out.2.turn q5 (fun x hx => by have := H2L.out x hx; have := L23.out; show x < u3.heap.size; omega)))
        have I5 := Lib.hid (And.intro q1 q2)
        have C5 := Lib.hid (C4.out.turn q5 HSP.out)
        have D5 := Lib.hid q3
        clear q1 q2 q3 q4 q5
        refine hK.out _ _ (HS4.out _ XC5.out.1) ?_
        clear hK K
        try simp only [Act.put, List.setIfInBounds_toArray, List.set_cons_zero, List.set_cons_succ]
        repeat (first
          | (refine wpSeq_take (v := ?_) rfl (by rfl) (fun wq hSq => ?_) ?_; rotate_left; (focus ((try dsimp only at hSq); go_simp; try with_reducible rfl)); simp only [Act.put, List.setIfInBounds_toArray, List.set_cons_zero, List.set_cons_succ]))
        refine wpSeq_nil ?_
        clear HC2 K4 C4 D4 HS4 hnk
        go_wp2_with (first
          | (go_at_call 11; refine (HEX.out _ _ _ _ _ R7.out.1.fl R7.out.2.fl).mono ?_; rintro r wE ⟨rfl, q⟩; have K8 := Lib.hid (And.intro K7.out.1 (K7.out.2.on (q.below _))); have J8 := Lib.hid (And.intro J7.out.1 (J7.out.2.on (q.below _))); have I8 := Lib.hid (And.intro I7.out.1 (I7.out.2.on (q.below _))); have B8 := Lib.hid (B7.out.trans (q.below _)); clear q)
          | (go_at_call 12; refine (HAL.out _ _ _ D6.out).mono ?_; rintro r u7 ⟨rfl, q1, q2⟩; have R7 := Lib.hid (And.intro (R6.out.on q2) q1); have K7 := Lib.hid (And.intro K6.out.1 (K6.out.2.on q2)); have J7 := Lib.hid (And.intro J6.out.1 (J6.out.2.on q2)); have I7 := Lib.hid (And.intro I6.out.1 (I6.out.2.on q2)); have B7 := Lib.hid (B6.out.trans (q2.mono B6.out.size)); clear q1 q2)
          | (go_at_call 12; refine (HAL.out _ _ _ C5.out).mono ?_; rintro r u6 ⟨rfl, q1, q2⟩; have R6 := Lib.hid q1; have D6 := Lib.hid (D5.out.on q2); have K6 := Lib.hid (And.intro K5.out.1 (K5.out.2.on q2)); have J6 := Lib.hid (And.intro J5.out.1 (J5.out.2.on q2)); have I6 := Lib.hid (And.intro I5.out.1 (I5.out.2.on q2)); have B6 := Lib.hid (XC5.out.2.trans (q2.mono XC5.out.2.size)); clear q1 q2))
        clear HAL HEX
        go_loopw [20, 21, 109] (fun _ _ vi wr => ∃ j : Nat, vi = .int .i64 j ∧ j ≤ nx ∧ Hid (Below wE.heap.size wE wr)) (fun _ _ vi _ => nx - (intOf vi).toNat)
        case atStart => exact ⟨0, rfl, Nat.zero_le _, Below.refl _ _⟩
        case round =>
          obtain ⟨j, rfl, hj, HQ⟩ := hrel
          by_cases hlt : j < nx
          · have hlt' : (j : Int) < (nx : Int) := by omega
            have hl1 : j < L1.length := by have := congrArg List.length K8.out.1; rw [List.length_map, List.length_append, HL1.out, HL2.out] at this; have := HNK.out; omega
            obtain ⟨R, m, a1, a2, a3, ag⟩ := (K8.out.2.on HQ.out).get hl1
            have HTM : Hid (Told m) := by
              refine HTO.out m ?_
              rw [← K8.out.1]
              exact List.mem_map.2 ⟨(R, m), List.mem_of_getElem? a1, rfl⟩
            obtain ⟨x0, x1, x2, x3, x4, x5, x6⟩ := a3
            by_cases hjk : j < kq
            · have hjk' : (j : Int) < (kq : Int) := by omega
              have hge : ¬ (kq : Int) ≤ (j : Int) := by omega
              have hl2 : j < L2.length := by have := congrArg List.length J8.out.1; rw [List.length_map, HL1.out] at this; omega
              obtain ⟨Q, k, d1, d2, d3, dg⟩ := (J8.out.2.on HQ.out).get hl2
              obtain rfl : m = k := by
                have e1 : (L1.map (·.2))[j]? = some m := by rw [List.getElem?_map, a1]; rfl
                have e2 : (L2.map (·.2))[j]? = some k := by rw [List.getElem?_map, d1]; rfl
                rw [K8.out.1, List.getElem?_append_left (by rw [HL1.out]; exact hjk)] at e1
                rw [J8.out.1, e1] at e2
                exact Option.some.inj e2
              have HRS : Hid (∀ u, WantAt u R m → WantAt u Q m → Calls Tryz.prog 13 #[resV R m, resV Q m] u fun e w' => e = .returned (.bool true) ∧ Below u.heap.size u w') := fun u h1 h2 => result_any HTM.out h1 h2
              have HWT : Hid (∀ u, Below (wr.alloc (.cells (resC R m) 44)).heap.size (wr.alloc (.cells (resC R m) 44)) u → (WantAt u R m ∧ WantAt u Q m) ∧ (fun u => (u.cell? ⟨wr.heap.size, 0, none⟩ = some (.int .i64 m.how) ∧ u.cell? ⟨wr.heap.size, 1, none⟩ = some (.int .i64 m.cod) ∧ u.cell? ⟨wr.heap.size, 2, none⟩ = some (.int .i64 m.err) ∧ u.cell? ⟨wr.heap.size, 3, none⟩ = some (.slice R.po m.out.length R.co) ∧ u.cell? ⟨wr.heap.size, 4, none⟩ = some (.slice R.pr m.reads.length R.cr) ∧ u.cell? ⟨wr.heap.size, 5, none⟩ = some (.slice R.pw m.buf.length R.cw) ∧ u.cell? ⟨wr.heap.size, 6, none⟩ = some (.int .i64 m.used)) ∧ (u.cell? ⟨g2, j * 7, none⟩ = some (.int .i64 m.how) ∧ u.cell? ⟨g2, j * 7 + 1, none⟩ = some (.int .i64 m.cod) ∧ u.cell? ⟨g2, j * 7 + 2, none⟩ = some (.int .i64 m.err) ∧ u.cell? ⟨g2, j * 7 + 3, none⟩ = some (.slice Q.po m.out.length Q.co) ∧ u.cell? ⟨g2, j * 7 + 4, none⟩ = some (.slice Q.pr m.reads.length Q.cr) ∧ u.cell? ⟨g2, j * 7 + 5, none⟩ = some (.slice Q.pw m.buf.length Q.cw) ∧ u.cell? ⟨g2, j * 7 + 6, none⟩ = some (.int .i64 m.used))) u ∧ Below wE.heap.size wE u) := fun u hb => by
                have hb2 := (below_alloc wr (.cells (resC R m) 44)).trans (hb.mono (Nat.le_of_lt (by simp)))
                have hbx : u.heap[wr.heap.size]? = some (.cells (resC R m) 44) := (hb.block _ (by simp)).trans (heap_alloc_new _ _)
                obtain ⟨⟨y0, y1, y2, y3, y4, y5, y6, _⟩, _⟩ := cells7_of hbx
                obtain ⟨Q', k', f1, f2, f3, _⟩ := ((J8.out.2.on HQ.out).on hb2).get hl2
                rw [d1] at f1
                cases f1
                exact ⟨⟨a2.want.on hb2, d2.want.on hb2⟩, ⟨⟨y0, y1, y2, y3, y4, y5, y6⟩, f3⟩, HQ.out.trans (hb2.mono HQ.out.size)⟩
              clear hl1 hl2 a1 a2 d1 d2 d3 HTM K8 J8 I8 HL1 HL2 HTO
              go_upto_region 20 with fail
              generalize wr.alloc (.cells (resC R m) 44) = vb at *
              generalize wr.heap.size = bx at *
              refine wp_region_seq (fun u => (u.cell? ⟨bx, 0, none⟩ = some (.int .i64 m.how) ∧ u.cell? ⟨bx, 1, none⟩ = some (.int .i64 m.cod) ∧ u.cell? ⟨bx, 2, none⟩ = some (.int .i64 m.err) ∧ u.cell? ⟨bx, 3, none⟩ = some (.slice R.po m.out.length R.co) ∧ u.cell? ⟨bx, 4, none⟩ = some (.slice R.pr m.reads.length R.cr) ∧ u.cell? ⟨bx, 5, none⟩ = some (.slice R.pw m.buf.length R.cw) ∧ u.cell? ⟨bx, 6, none⟩ = some (.int .i64 m.used)) ∧ (u.cell? ⟨g2, j * 7, none⟩ = some (.int .i64 m.how) ∧ u.cell? ⟨g2, j * 7 + 1, none⟩ = some (.int .i64 m.cod) ∧ u.cell? ⟨g2, j * 7 + 2, none⟩ = some (.int .i64 m.err) ∧ u.cell? ⟨g2, j * 7 + 3, none⟩ = some (.slice Q.po m.out.length Q.co) ∧ u.cell? ⟨g2, j * 7 + 4, none⟩ = some (.slice Q.pr m.reads.length Q.cr) ∧ u.cell? ⟨g2, j * 7 + 5, none⟩ = some (.slice Q.pw m.buf.length Q.cw) ∧ u.cell? ⟨g2, j * 7 + 6, none⟩ = some (.int .i64 m.used))) ((0, true) :: (1, true) :: (2, true) :: (3, true) :: (4, true) :: (5, true) :: (6, true) :: (7, true) :: (8, true) :: (9, false) :: (10, true) :: (11, true) :: (12, true) :: (13, true) :: (14, true) :: (15, true) :: (16, true) :: (17, true) :: (18, true) :: (19, true) :: (20, true) :: (21, true) :: (22, true) :: (23, true) :: (24, false) :: (25, true) :: (26, true) :: (27, true) :: []) (by kernel_rfl) (by kernel_rfl) (fun _ _ _ _ _ h => h) (HWT.out _ ((Same.drew _).below _)).2.1 ?_
              repeat (first
                | (refine wpSeq_skip rfl (by rfl) ?_; simp only [Act.put, List.setIfInBounds_toArray, List.set_cons_zero, List.set_cons_succ])
                | (refine wpSeq_take (v := ?_) rfl (by rfl) (fun wq hSq => ?_) ?_; rotate_left; (focus ((try dsimp only at hSq); go_simp; try with_reducible rfl)); simp only [Act.put, List.setIfInBounds_toArray, List.set_cons_zero, List.set_cons_succ]))
              refine wpSeq_do rfl (by rfl) (fun K hK => ?_)
              go_simp
              refine (HRS.out _ (HWT.out _ ((Same.drew _).below _)).1.1 (HWT.out _ ((Same.drew _).below _)).1.2).mono ?_
              rintro r w1 ⟨rfl, q⟩
              have S1 := Lib.hid (HWT.out w1 (((Same.drew _).below _).trans q))
              clear q
              refine hK.out _ _ S1.out.2.1 ?_
              clear hK K
              try simp only [Act.put, List.setIfInBounds_toArray, List.set_cons_zero, List.set_cons_succ]
              repeat (first
                | (refine wpSeq_skip rfl (by rfl) ?_; simp only [Act.put, List.setIfInBounds_toArray, List.set_cons_zero, List.set_cons_succ])
                | (refine wpSeq_skip' rfl (by rfl) S1.out.2.1 ?_; simp only [Act.put, List.setIfInBounds_toArray, List.set_cons_zero, List.set_cons_succ])
                | (refine wpSeq_take (v := ?_) rfl (by rfl) (fun wq hSq => ?_) ?_; rotate_left; (focus ((try dsimp only at hSq); go_simp; try with_reducible rfl)); simp only [Act.put, List.setIfInBounds_toArray, List.set_cons_zero, List.set_cons_succ]))
              refine wpSeq_nil ?_
              clear HWT HRS
              go_wp2_with fail
              exact ⟨⟨j + 1, by first | rfl | (congr 1), by omega, S1.out.2.2⟩, by simp [intOf]; omega⟩
            · have hjk' : ¬ (j : Int) < (kq : Int) := by omega
              have hge : (kq : Int) ≤ (j : Int) := by omega
              obtain ⟨i, hi⟩ : ∃ i, j - kq = i := ⟨_, rfl⟩
              have hsub : (j : Int) - (kq : Int) = (i : Int) := by omega
              have hi5 : i ≤ 512 := by omega
              have hw5 : IntKind.i64.wrap (i : Int) = (i : Int) := Go.IntWalk.i64_in (i : Int) ⟨by omega, by omega⟩
              have hik : i < nk := by have := HNK.out; omega
              have hik' : (i : Int) < (nk : Int) := by omega
              have hcut : j = m1.length + i := by rw [HL1.out]; omega
              have hl2 : i < L3.length := by have := congrArg List.length I8.out.1; rw [List.length_map, HL2.out] at this; omega
              obtain ⟨Q, k, d1, d2, d3, dg⟩ := (I8.out.2.on HQ.out).get hl2
              obtain rfl : m = k := by
                have e1 : (L1.map (·.2))[j]? = some m := by rw [List.getElem?_map, a1]; rfl
                have e2 : (L3.map (·.2))[i]? = some k := by rw [List.getElem?_map, d1]; rfl
                rw [K8.out.1, hcut, List.getElem?_append_right (Nat.le_add_right _ _), Nat.add_sub_cancel_left] at e1
                rw [I8.out.1, e1] at e2
                exact Option.some.inj e2
              have HRS : Hid (∀ u, WantAt u R m → WantAt u Q m → Calls Tryz.prog 13 #[resV R m, resV Q m] u fun e w' => e = .returned (.bool true) ∧ Below u.heap.size u w') := fun u h1 h2 => result_any HTM.out h1 h2
              have HWT : Hid (∀ u, Below (wr.alloc (.cells (resC R m) 44)).heap.size (wr.alloc (.cells (resC R m) 44)) u → (WantAt u R m ∧ WantAt u Q m) ∧ (fun u => (u.cell? ⟨wr.heap.size, 0, none⟩ = some (.int .i64 m.how) ∧ u.cell? ⟨wr.heap.size, 1, none⟩ = some (.int .i64 m.cod) ∧ u.cell? ⟨wr.heap.size, 2, none⟩ = some (.int .i64 m.err) ∧ u.cell? ⟨wr.heap.size, 3, none⟩ = some (.slice R.po m.out.length R.co) ∧ u.cell? ⟨wr.heap.size, 4, none⟩ = some (.slice R.pr m.reads.length R.cr) ∧ u.cell? ⟨wr.heap.size, 5, none⟩ = some (.slice R.pw m.buf.length R.cw) ∧ u.cell? ⟨wr.heap.size, 6, none⟩ = some (.int .i64 m.used)) ∧ (u.cell? ⟨g3, i * 7, none⟩ = some (.int .i64 m.how) ∧ u.cell? ⟨g3, i * 7 + 1, none⟩ = some (.int .i64 m.cod) ∧ u.cell? ⟨g3, i * 7 + 2, none⟩ = some (.int .i64 m.err) ∧ u.cell? ⟨g3, i * 7 + 3, none⟩ = some (.slice Q.po m.out.length Q.co) ∧ u.cell? ⟨g3, i * 7 + 4, none⟩ = some (.slice Q.pr m.reads.length Q.cr) ∧ u.cell? ⟨g3, i * 7 + 5, none⟩ = some (.slice Q.pw m.buf.length Q.cw) ∧ u.cell? ⟨g3, i * 7 + 6, none⟩ = some (.int .i64 m.used))) u ∧ Below wE.heap.size wE u) := fun u hb => by
                have hb2 := (below_alloc wr (.cells (resC R m) 44)).trans (hb.mono (Nat.le_of_lt (by simp)))
                have hbx : u.heap[wr.heap.size]? = some (.cells (resC R m) 44) := (hb.block _ (by simp)).trans (heap_alloc_new _ _)
                obtain ⟨⟨y0, y1, y2, y3, y4, y5, y6, _⟩, _⟩ := cells7_of hbx
                obtain ⟨Q', k', f1, f2, f3, _⟩ := ((I8.out.2.on HQ.out).on hb2).get hl2
                rw [d1] at f1
                cases f1
                exact ⟨⟨a2.want.on hb2, d2.want.on hb2⟩, ⟨⟨y0, y1, y2, y3, y4, y5, y6⟩, f3⟩, HQ.out.trans (hb2.mono HQ.out.size)⟩
              clear hcut hl1 hl2 a1 a2 d1 d2 d3 HTM K8 J8 I8 HL1 HL2 HTO
              go_upto_region 20 with fail
              generalize wr.alloc (.cells (resC R m) 44) = vb at *
              generalize wr.heap.size = bx at *
              refine wp_region_seq (fun u => (u.cell? ⟨bx, 0, none⟩ = some (.int .i64 m.how) ∧ u.cell? ⟨bx, 1, none⟩ = some (.int .i64 m.cod) ∧ u.cell? ⟨bx, 2, none⟩ = some (.int .i64 m.err) ∧ u.cell? ⟨bx, 3, none⟩ = some (.slice R.po m.out.length R.co) ∧ u.cell? ⟨bx, 4, none⟩ = some (.slice R.pr m.reads.length R.cr) ∧ u.cell? ⟨bx, 5, none⟩ = some (.slice R.pw m.buf.length R.cw) ∧ u.cell? ⟨bx, 6, none⟩ = some (.int .i64 m.used)) ∧ (u.cell? ⟨g3, i * 7, none⟩ = some (.int .i64 m.how) ∧ u.cell? ⟨g3, i * 7 + 1, none⟩ = some (.int .i64 m.cod) ∧ u.cell? ⟨g3, i * 7 + 2, none⟩ = some (.int .i64 m.err) ∧ u.cell? ⟨g3, i * 7 + 3, none⟩ = some (.slice Q.po m.out.length Q.co) ∧ u.cell? ⟨g3, i * 7 + 4, none⟩ = some (.slice Q.pr m.reads.length Q.cr) ∧ u.cell? ⟨g3, i * 7 + 5, none⟩ = some (.slice Q.pw m.buf.length Q.cw) ∧ u.cell? ⟨g3, i * 7 + 6, none⟩ = some (.int .i64 m.used))) ((0, true) :: (1, true) :: (2, true) :: (3, true) :: (4, true) :: (5, true) :: (6, true) :: (7, true) :: (8, true) :: (9, false) :: (10, true) :: (11, true) :: (12, true) :: (13, true) :: (14, true) :: (15, true) :: (16, true) :: (17, true) :: (18, true) :: (19, true) :: (20, true) :: (21, true) :: (22, true) :: (23, true) :: (24, false) :: (25, true) :: (26, true) :: (27, true) :: []) (by kernel_rfl) (by kernel_rfl) (fun _ _ _ _ _ h => h) (HWT.out _ ((Same.drew _).below _)).2.1 ?_
              repeat (first
                | (refine wpSeq_skip rfl (by rfl) ?_; simp only [Act.put, List.setIfInBounds_toArray, List.set_cons_zero, List.set_cons_succ])
                | (refine wpSeq_skip' rfl (by rfl) (HWT.out _ ((Same.drew _).below _)).2.1 ?_; simp only [Act.put, List.setIfInBounds_toArray, List.set_cons_zero, List.set_cons_succ])
                | (refine wpSeq_take (v := ?_) rfl (by rfl) (fun wq hSq => ?_) ?_; rotate_left; (focus ((try dsimp only at hSq); go_simp; try with_reducible rfl)); simp only [Act.put, List.setIfInBounds_toArray, List.set_cons_zero, List.set_cons_succ]))
              refine wpSeq_do rfl (by rfl) (fun K hK => ?_)
              go_simp
              refine (HRS.out _ (HWT.out _ ((Same.drew _).below _)).1.1 (HWT.out _ ((Same.drew _).below _)).1.2).mono ?_
              rintro r w1 ⟨rfl, q⟩
              have S1 := Lib.hid (HWT.out w1 (((Same.drew _).below _).trans q))
              clear q
              refine hK.out _ _ S1.out.2.1 ?_
              clear hK K
              try simp only [Act.put, List.setIfInBounds_toArray, List.set_cons_zero, List.set_cons_succ]
              repeat (first
                | (refine wpSeq_skip rfl (by rfl) ?_; simp only [Act.put, List.setIfInBounds_toArray, List.set_cons_zero, List.set_cons_succ])
                | (refine wpSeq_skip' rfl (by rfl) S1.out.2.1 ?_; simp only [Act.put, List.setIfInBounds_toArray, List.set_cons_zero, List.set_cons_succ])
                | (refine wpSeq_take (v := ?_) rfl (by rfl) (fun wq hSq => ?_) ?_; rotate_left; (focus ((try dsimp only at hSq); go_simp; try with_reducible rfl)); simp only [Act.put, List.setIfInBounds_toArray, List.set_cons_zero, List.set_cons_succ]))
              refine wpSeq_nil ?_
              clear HWT HRS
              go_wp2_with fail
              exact ⟨⟨j + 1, by first | rfl | (congr 1), by omega, S1.out.2.2⟩, by simp [intOf]; omega⟩
          · have hlt' : ¬ (j : Int) < (nx : Int) := by omega
            have BF := Lib.hid (B8.out.trans (HQ.out.mono B8.out.size))
            clear HQ
            go_wp2
            go_ret
            exact ⟨rfl, BF.out⟩
    · have HCB : Hid (∀ u b1 F, Below W.heap.size W u → Sx.Cel 77 u b1 F (st.map fixB) → Calls Tryz.prog 9 #[cfgV a b c e, .slice po np cp, .slice xo nx cx, .pointer (some ⟨b1, 0, none⟩)] u fun r w' => r = .returned (.tuple #[.slice none 0 0, .int .i64 (callsE a b c e np (st.map fixB).length xs)]) ∧ Below u.heap.size u w') := fun u b1 F hb hc => calls_bad hnx (hX.on hb) hc hE
      have her : (callsE a b c e np (st.map fixB).length xs != 0) = true := by simpa using hE
      generalize callsE a b c e np (st.map fixB).length xs = er at HCB her
      clear hT hP hX hS hst hmay hnp hnx hns hok hE hcx
      go_enter Tryz.func4, Tryz.ntmps4
      go_wp2_with (first
        | (go_at_call 9; refine (HCB.out _ _ _ (cfg_box B2.out).2 D2.out).mono ?_; rintro r u3 ⟨rfl, q⟩; have B3 := Lib.hid (B2.out.trans (q.mono B2.out.size)); clear q)
        | (go_at_call 14; refine (Sx.clone_any C1.out).mono ?_; rintro r u2 ⟨b2, F2, rfl, q1, q2, q3⟩; have q4 := B1.out.trans (q3.mono B1.out.size); obtain ⟨v0, v1, v2, v3, v4⟩ := Md.cells4 (cfg_box q4).1; have C2 := Lib.hid q1; have A2 := Lib.hid q2; have D2 := Lib.hid (C1.out.on q3); have G1 : Hid (∀ x ∈ F, x < u1.heap.size) := C1.out.blw; have B2 := Lib.hid q4; clear q1 q2 q3 q4)
        | (go_at_call 7; refine (HGI.out _ (cfg_box B0.out).2).mono ?_; rintro r u1 ⟨b1, F, rfl, q1, q2, q3⟩; have q4 := B0.out.trans (q3.mono B0.out.size); obtain ⟨v0, v1, v2, v3, v4⟩ := Md.cells4 (cfg_box q4).1; have C1 := Lib.hid q1; have A1 := Lib.hid q2; have B1 := Lib.hid q4; clear q1 q2 q3 q4)
        | (go_at_call 6; refine HLV.out.mono ?_; rintro r u0 ⟨rfl, q⟩; obtain ⟨v0, v1, v2, v3, v4⟩ := Md.cells4 (cfg_box q).1; have B0 := Lib.hid q; clear q))
      go_ret
      exact ⟨rfl, (cfg_box B3.out).2⟩
end Go.Proofs.YtmlklnimkgnbkaaGreatDoor
