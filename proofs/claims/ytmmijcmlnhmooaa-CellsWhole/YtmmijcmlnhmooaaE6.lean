import Derived.Test.YtmmijcmlnhmooaaE5
namespace Go.Proofs.Ytmmijcmlnhmooaa
open Go.ChangeShapes Go.WideShapes Go.ChangeAt Go.RowKit Num
attribute [local go_sem] run_store_float run_store_func run_store_nilFunc

theorem box2 {w : World} {x : Nat} {v0 v1 : Value} {T : TypeId} (h : w.heap[x]? = some (.cells #[v0, v1] T (0, 0))) : (w.cell? ⟨x, 0, none⟩ = some v0 ∧ w.cell? ⟨x, 1, none⟩ = some v1 ∧ x < w.heap.size) :=
  ⟨by rw [cell_of_row w x 0 _ _ _ h]; rfl, by rw [cell_of_row w x 1 _ _ _ h]; rfl, lt_of_block h⟩
theorem box3 {w : World} {x : Nat} {v0 v1 v2 : Value} {T : TypeId} (h : w.heap[x]? = some (.cells #[v0, v1, v2] T (0, 0))) : (w.cell? ⟨x, 0, none⟩ = some v0 ∧ w.cell? ⟨x, 1, none⟩ = some v1 ∧ w.cell? ⟨x, 2, none⟩ = some v2 ∧ x < w.heap.size) ∧ w.frozen? ⟨x, 0, none⟩ = false ∧ w.frozen? ⟨x, 1, none⟩ = false ∧ w.frozen? ⟨x, 2, none⟩ = false :=
  ⟨⟨by rw [cell_of_row w x 0 _ _ _ h]; rfl, by rw [cell_of_row w x 1 _ _ _ h]; rfl, by rw [cell_of_row w x 2 _ _ _ h]; rfl, lt_of_block h⟩, frozen_of_row w x 0 _ _ h, frozen_of_row w x 1 _ _ h, frozen_of_row w x 2 _ _ h⟩
def tripV (v x y : Int) : Value := .agg #[.int .u64 v, .int .u64 x, .int .u64 y]
def tripC (v x y : Int) : Array Value := #[.int .u64 v, .int .u64 x, .int .u64 y]
theorem trip_back2 {fn : Func} {p u : Tmp} (h : fn.results = #[.cell p 24, .tmp u]) {Q : Ending → World → Prop} {a : Act} {w : World} (g : Nat) (v x y : Int) (e : Int) (hp : a.tmps.getD p undef = .pointer (some ⟨g, 0, none⟩)) (hu : a.tmps.getD u undef = .int .i64 e)
    (hg : w.heap[g]? = some (.cells (tripC v x y) 24 (0, 0))) (hd : a.defers = []) (hR : Q (.returned (.tuple #[tripV v x y, .int .i64 e])) w) : bodyPost Try.prog fn Q .ret a w := by
  refine bodyPost_ret (v := .tuple #[tripV v x y, .int .i64 e]) ?_ hd hR
  rw [results_cell_tmp h, hp, hu]
  have hl := run_loadVar_row (P := Try.prog) w g 24 24 (tripC v x y) (0, 0) _ hg Try.underlying24 rfl (by kernel_rfl)
  simp [asAddr, hl, Result.andThen]
  rfl
theorem trip_set {w : World} {x : Nat} {v0 v1 v2 u0 u1 u2 : Value} {T : TypeId} (h : w.heap[x]? = some (.cells #[v0, v1, v2] T (0, 0))) : (((w.setCell ⟨x, 0, none⟩ u0).setCell ⟨x, 1, none⟩ u1).setCell ⟨x, 2, none⟩ u2).heap[x]? = some (.cells #[u0, u1, u2] T (0, 0)) := by
  have k0 := heap_setCell_same w x 0 _ _ u0 h
  have k1 := heap_setCell_same _ x 1 _ _ u1 k0
  exact (heap_setCell_same _ x 2 _ _ u2 k1).trans rfl
/-- in the midst of a Peek: the answer's own block, the spot's, the list's with the first k words -/
structure Pk (w wr : World) (p c : Int) : Prop where
  below : Below w.heap.size w wr
  ans : wr.heap[w.heap.size + 1]? = some (.cells #[.int .u64 0, .int .u64 0, .int .u64 0] 24 (0, 0))
  spot : wr.heap[w.heap.size + 1 + 1]? = some (.cells #[.int .i64 p, .int .i64 c] 81 (0, 0))
theorem Pk.on {w wr u : World} {p c : Int} (h : Pk w wr p c) (k : Below wr.heap.size wr u) : Pk w u p c :=
  ⟨below_step h.below k, (k.block _ (lt_of_block h.ans)).trans h.ans, (k.block _ (lt_of_block h.spot)).trans h.spot⟩
theorem pk_new {w w1 : World} {A : Obj} {p c : Int} (k : Below (((w.alloc A).alloc (.cells #[.int .u64 0, .int .u64 0, .int .u64 0] 24)).alloc (.cells #[.int .i64 p, .int .i64 c] 81)).heap.size (((w.alloc A).alloc (.cells #[.int .u64 0, .int .u64 0, .int .u64 0] 24)).alloc (.cells #[.int .i64 p, .int .i64 c] 81)) w1) : Pk w w1 p c :=
  ⟨below_step (bl_alloc (bl_alloc (bl_alloc (Below.refl _ _) _) _) _) k, (k.block _ (by simp)).trans ((Below.heap_alloc _ _ _ (by simp)).trans (alloc_at (by simp))), (k.block _ (by simp)).trans (alloc_at (by simp))⟩
/-- the first k of a cell's words -/
def PkL (ws : List Int) (p c : Int) (k : Nat) : List Int := [if 0 < k then wordC ws p c 0 else 0, if 1 < k then wordC ws p c 1 else 0, if 2 < k then wordC ws p c 2 else 0]
theorem PkL_set (ws : List Int) (p c : Int) {k : Nat} (hk : k < 3) : (PkL ws p c k).set k (wordC ws p c k) = PkL ws p c (k + 1) := by
  have : k = 0 ∨ k = 1 ∨ k = 2 := by omega
  rcases this with rfl | rfl | rfl <;> simp [PkL]
theorem pk_store {w u : World} {ws : List Int} {p c : Int} {gl k : Nat} (h : Pk w u p c ∧ u.heap[gl]? = some (.cells (u64s (PkL ws p c k)).toArray 82 (0, 0))) (hg : w.heap.size + 1 + 1 < gl) (hk : k < 3) :
    ((∃ y, u.cell? ⟨gl, k, none⟩ = some (.int .u64 y)) ∧ u.frozen? ⟨gl, k, none⟩ = false ∧ gl < u.heap.size) ∧ Hid (Pk w (u.setCell ⟨gl, k, none⟩ (.int .u64 (wordAt ws (placeI p c k)))) p c ∧ (u.setCell ⟨gl, k, none⟩ (.int .u64 (wordAt ws (placeI p c k)))).heap[gl]? = some (.cells (u64s (PkL ws p c (k + 1))).toArray 82 (0, 0))) := by
  refine ⟨⟨⟨(PkL ws p c k).getD k 0, ?_⟩, frozen_of_row _ _ _ _ _ h.2, lt_of_block h.2⟩, ⟨⟨bl_setCell h.1.below (by omega) _ _, ?_, ?_⟩, ?_⟩⟩
  · rw [cell_of_row _ _ _ _ _ _ h.2]
    have hl : k < (PkL ws p c k).length := by simpa [PkL] using hk
    simp [u64s, hl]
  · exact (heap_setCell_other _ _ _ _ (by show w.heap.size + 1 ≠ gl; omega)).trans h.1.ans
  · exact (heap_setCell_other _ _ _ _ (by show w.heap.size + 1 + 1 ≠ gl; omega)).trans h.1.spot
  · rw [heap_setCell_same _ _ _ _ _ _ h.2, ← PkL_set ws p c hk, ← u64s_set, List.setIfInBounds_toArray]
    rfl
section
variable {w : World} {b g : Nat} {ws : List Int} {o : Bool} {n : Int}
set_option maxRecDepth 100000 in
set_option maxHeartbeats 4000000 in
theorem cpeek_no (a1 a2 a3 a4 p a6 c : Int) (hc : mayC c = false) (w : World) : Calls Try.prog 9 #[.pointer (some ⟨b, 0, none⟩), planV a1 a2 a3 a4 p a6, .int .i64 c] w fun e w' => e = .returned (.tuple #[tripV 0 0 0, .int .i64 60]) ∧ Below w.heap.size w w' := by
  have H1 := Lib.hid (smay_any p c)
  simp only [hc] at H1
  unfold planV
  clear hc
  go_enter Try.func9, Try.ntmps9
  go_wp2_with (go_at_call 36; refine (H1.out _).mono ?_; rintro e w1 ⟨rfl, hw⟩; have HP := Lib.hid (pk_new hw); obtain ⟨⟨q0, q1, q2, q3⟩, q4, q5, q6⟩ := box3 HP.out.ans; clear hw)
  refine trip_back2 rfl (w.heap.size + 1) 0 0 0 60 rfl rfl (trip_set HP.out.ans) rfl ⟨rfl, ?_⟩
  refine bl_setCell (bl_setCell (bl_setCell HP.out.below (by omega) _ _) (by omega) _ _) (by omega) _ _
set_option maxRecDepth 100000 in
set_option maxHeartbeats 4000000 in
theorem cpeek_may (h : MemAt 90 w b g ws o n) (a1 a2 a3 a4 p a6 c : Int) (hc : mayC c = true) : Calls Try.prog 9 #[.pointer (some ⟨b, 0, none⟩), planV a1 a2 a3 a4 p a6, .int .i64 c] w fun e w' => (e = .returned (.tuple #[tripV (wordC ws p c 0) (wordC ws p c 1) (wordC ws p c 2), .int .i64 0]) ∧ (∀ j : Nat, j < 3 → hasB ws (placeI p c j) = true) ∨ e = .returned (.tuple #[tripV 0 0 0, .int .i64 30]) ∧ ∃ j : Nat, j < 3 ∧ hasB ws (placeI p c j) = false) ∧ Below w.heap.size w w' := by
  have H1 := Lib.hid (smay_any p c)
  simp only [hc] at H1
  unfold planV
  have HPL := Lib.hid (fun (j : Int) (hj : 0 ≤ j ∧ j < 3) => splace_any p c j hc hj)
  have HPK := Lib.hid (fun (u : World) (k : Below w.heap.size w u) (j : Int) => peek_any (h.on k) j)
  clear h hc
  go_enter Try.func9, Try.ntmps9
  go_wp2_with (go_at_call 36; refine (H1.out _).mono ?_; rintro e w1 ⟨rfl, hw⟩; have HP := Lib.hid (pk_new hw); clear hw)
  obtain ⟨gl, hgl⟩ : ∃ gl, w1.heap.size = gl := ⟨_, rfl⟩
  have HG : Hid (w.heap.size + 1 + 1 < gl) := by show _ < _; rw [← hgl]; exact lt_of_block HP.out.spot
  have HL0 : Hid (Pk w (w1.alloc (.cells #[.int .u64 0, .int .u64 0, .int .u64 0] 82)) p c ∧ (w1.alloc (.cells #[.int .u64 0, .int .u64 0, .int .u64 0] 82)).heap[gl]? = some (.cells (u64s (PkL ws p c 0)).toArray 82 (0, 0))) := ⟨HP.out.on (bl_alloc (Below.refl _ _) _), alloc_at hgl⟩
  rw [hgl]
  clear HP hgl
  go_loopw [21] (fun vi wr => ∃ k : Nat, vi = .int .i64 k ∧ k ≤ 3 ∧ Hid ((Pk w wr p c ∧ wr.heap[gl]? = some (.cells (u64s (PkL ws p c k)).toArray 82 (0, 0))) ∧ ∀ j : Nat, j < k → hasB ws (placeI p c j) = true)) (fun vi _ => 3 - (intOf vi).toNat)
  case atStart => exact ⟨0, rfl, by omega, HL0.out, fun j hj => absurd hj (Nat.not_lt_zero j)⟩
  case round =>
    clear HL0
    obtain ⟨k, rfl, hk, HR⟩ := hrel
    by_cases hlt : k < 3
    · have hlt' : (k : Int) < 3 := by omega
      obtain ⟨q0, q1, q2⟩ := box2 HR.out.1.1.spot
      have hsz := HR.out.1.1.below.size
      have HPLK := Lib.hid (HPL.out k ⟨by omega, by omega⟩)
      have HAR : Hid (∀ u, Below wr.heap.size wr u → (Pk w u p c ∧ u.heap[gl]? = some (.cells (u64s (PkL ws p c k)).toArray 82 (0, 0)))) := fun u hu => ⟨HR.out.1.1.on hu, (hu.block gl (lt_of_block HR.out.1.2)).trans HR.out.1.2⟩
      cases hh : hasB ws (placeI p c k)
      · have HEX : Hid (∃ j : Nat, j < 3 ∧ hasB ws (placeI p c j) = false) := ⟨k, hlt, hh⟩
        have HPKK := Lib.hid (fun (u : World) (z : Below w.heap.size w u) => HPK.out u z (placeI p c k))
        simp only [errP, hh] at HPKK
        generalize placeI p c k = ii at HPLK HPKK hh
        clear hh hk HR
        go_wp2_with (first
          | (go_at_call 38; refine (HPLK.out _).mono ?_; rintro e w2 ⟨rfl, hw⟩; have HP2 := Lib.hid (HAR.out _ hw); obtain ⟨⟨q0, q1, q2, q3⟩, q4, q5, q6⟩ := box3 HP2.out.1.ans; clear hw)
          | (go_at_call 37; refine (HPKK.out _ HP2.out.1.below).mono ?_; rintro e w3 ⟨rfl, hw⟩; subst w3))
        refine trip_back2 rfl (w.heap.size + 1) 0 0 0 30 rfl rfl (trip_set HP2.out.1.ans) rfl ⟨.inr ⟨rfl, HEX.out⟩, ?_⟩
        exact bl_setCell (bl_setCell (bl_setCell HP2.out.1.below (by omega) _ _) (by omega) _ _) (by omega) _ _
      · have HALL : Hid (∀ j : Nat, j < k + 1 → hasB ws (placeI p c j) = true) := fun j hj => by
          by_cases e : j = k
          · subst e; exact hh
          · exact HR.out.2 j (by omega)
        have HPKK := Lib.hid (fun (u : World) (z : Below w.heap.size w u) => HPK.out u z (placeI p c k))
        simp only [errP, hh] at HPKK
        have HST : Hid (∀ u : World, (Pk w u p c ∧ u.heap[gl]? = some (.cells (u64s (PkL ws p c k)).toArray 82 (0, 0))) → ((∃ y, u.cell? ⟨gl, k, none⟩ = some (.int .u64 y)) ∧ u.frozen? ⟨gl, k, none⟩ = false ∧ gl < u.heap.size) ∧ Hid (Pk w (u.setCell ⟨gl, k, none⟩ (.int .u64 (wordAt ws (placeI p c k)))) p c ∧ (u.setCell ⟨gl, k, none⟩ (.int .u64 (wordAt ws (placeI p c k)))).heap[gl]? = some (.cells (u64s (PkL ws p c (k + 1))).toArray 82 (0, 0)))) := fun u hu => pk_store hu HG.out hlt
        generalize placeI p c k = ii at HPLK HPKK hh HST
        generalize wordAt ws ii = yy at HPKK HST
        clear hh hk HR
        go_wp2_with (first
          | (go_at_call 38; refine (HPLK.out _).mono ?_; rintro e w2 ⟨rfl, hw⟩; have HP2 := Lib.hid (HAR.out _ hw); obtain ⟨⟨⟨y0, q0⟩, q1, q2⟩, HX⟩ := HST.out _ HP2.out; clear hw)
          | (go_at_call 37; refine (HPKK.out _ HP2.out.1.below).mono ?_; rintro e w3 ⟨rfl, hw⟩; subst w3))
        exact ⟨⟨k + 1, by first | rfl | (congr 1), by omega, HX.out, HALL.out⟩, by simp [intOf]; omega⟩
    · have hlt' : ¬ (k : Int) < 3 := by omega
      obtain rfl : k = 3 := by omega
      have HALL := Lib.hid HR.out.2
      have HP2 := Lib.hid HR.out.1
      obtain ⟨⟨q0, q1, q2, q3⟩, q4, q5, q6⟩ := box3 HP2.out.1.ans
      obtain ⟨⟨r0, r1, r2, r3⟩, _⟩ := box3 (v0 := .int .u64 (wordC ws p c 0)) (v1 := .int .u64 (wordC ws p c 1)) (v2 := .int .u64 (wordC ws p c 2)) HP2.out.2
      clear HR HPL HPK hlt hk
      go_wp2
      refine trip_back2 rfl (w.heap.size + 1) (wordC ws p c 0) (wordC ws p c 1) (wordC ws p c 2) 0 rfl rfl (trip_set HP2.out.1.ans) rfl ⟨.inl ⟨rfl, HALL.out⟩, ?_⟩
      exact bl_setCell (bl_setCell (bl_setCell HP2.out.1.below (by omega) _ _) (by omega) _ _) (by omega) _ _
def okP (ws : List Int) (p c : Int) : Bool := hasB ws (placeI p c 0) && hasB ws (placeI p c 1) && hasB ws (placeI p c 2)
def peekE (ws : List Int) (p c : Int) : Int := if mayC c then (if okP ws p c then 0 else 30) else 60
def peekW (ws : List Int) (p c j : Int) : Int := if peekE ws p c = 0 then wordC ws p c j else 0
theorem cpeek_any (h : MemAt 90 w b g ws o n) (a1 a2 a3 a4 p a6 c : Int) : Calls Try.prog 9 #[.pointer (some ⟨b, 0, none⟩), planV a1 a2 a3 a4 p a6, .int .i64 c] w fun e w' => e = .returned (.tuple #[tripV (peekW ws p c 0) (peekW ws p c 1) (peekW ws p c 2), .int .i64 (peekE ws p c)]) ∧ Below w.heap.size w w' := by
  cases hc : mayC c
  · have e1 : peekE ws p c = 60 := by simp [peekE, hc]
    have e2 : ∀ j, peekW ws p c j = 0 := fun j => by simp [peekW, e1]
    rw [e2, e2, e2, e1]
    exact cpeek_no a1 a2 a3 a4 p a6 c hc w
  · refine (cpeek_may h a1 a2 a3 a4 p a6 c hc).mono fun e w' ⟨he, hb⟩ => ⟨?_, hb⟩
    rcases he with ⟨he, ha⟩ | ⟨he, j, hj, hn⟩
    · have e1 : peekE ws p c = 0 := by
        have h0 := ha 0 (by omega)
        have h1 := ha 1 (by omega)
        have h2 := ha 2 (by omega)
        simp at h0 h1 h2
        simp [peekE, hc, okP, h0, h1, h2]
      have e2 : ∀ j, peekW ws p c j = wordC ws p c j := fun j => by simp [peekW, e1]
      rw [e2, e2, e2, e1]
      exact he
    · have e0 : okP ws p c = false := by
        have : j = 0 ∨ j = 1 ∨ j = 2 := by omega
        rcases this with rfl | rfl | rfl <;> simp at hn <;> simp [okP, hn]
      have e1 : peekE ws p c = 30 := by simp [peekE, hc, e0]
      have e2 : ∀ j, peekW ws p c j = 0 := fun j => by simp [peekW, e1]
      rw [e2, e2, e2, e1]
      exact he
/-- what Now answers -/
def nowV (ws : List Int) (o : Bool) (p c : Int) : Nat := if errC ws o p c 1 = 0 then fixB (wordC ws p c 1).toNat else 0
set_option maxRecDepth 100000 in
set_option maxHeartbeats 1000000 in
theorem cnow_any (h : MemAt 90 w b g ws o n) (a1 a2 a3 a4 p a6 c : Int) : Calls Try.prog 39 #[.pointer (some ⟨b, 0, none⟩), planV a1 a2 a3 a4 p a6, .int .i64 c] w fun e w' => e = .returned (.tuple #[.float .f64 (nowV ws o p c), .int .i64 (errC ws o p c 1)]) ∧ MemAt 90 w' b g ws (aftO (errC ws o p c 1) o) (aftN (errC ws o p c 1) n) ∧ Chg b g w w' := by
  unfold planV
  by_cases hok : errC ws o p c 1 = 0
  · have HL := Lib.hid (fun (u : World) (k : Below w.heap.size w u) => cload_ok (h.on k) (p := p) (c := c) (j := 1) (by omega) hok)
    rw [nowV, if_pos hok, hok]
    generalize wordC ws p c 1 = x at HL ⊢
    clear h hok
    go_enter Try.func39, Try.ntmps39
    go_wp2_with (first
      | (go_at_call 61; refine (HL.out _ (by repeat (first | exact Below.refl _ _ | refine bl_drew ?_ | refine bl_drewN _ ?_ | refine bl_alloc ?_ _ | refine bl_setCell ?_ (by simp) _ _ | refine bl_setRow ?_ (by simp) _))).mono ?_; rintro e w1 ⟨rfl, hm, hc⟩; have HX := Lib.hid (And.intro hm (chg_from (a := w) (by repeat (first | exact Below.refl _ _ | refine bl_drew ?_ | refine bl_drewN _ ?_ | refine bl_alloc ?_ _ | refine bl_setCell ?_ (by simp) _ _ | refine bl_setRow ?_ (by simp) _)) hc)); clear hm hc)
      | (go_at_call 53; refine (of_int _ _).mono ?_; rintro e w2 ⟨rfl, hw⟩; subst w2))
    go_ret2
    exact ⟨rfl, HX.out⟩
  · have HL := Lib.hid (fun (u : World) (k : Below w.heap.size w u) => cload_no (h.on k) (p := p) (c := c) (j := 1) (by omega) hok)
    rw [nowV, aftO, aftN, if_neg hok, if_neg hok, if_neg hok]
    generalize errC ws o p c 1 = x at HL hok ⊢
    clear h
    go_enter Try.func39, Try.ntmps39
    go_wp2_with (go_at_call 61; refine (HL.out _ (by repeat (first | exact Below.refl _ _ | refine bl_drew ?_ | refine bl_drewN _ ?_ | refine bl_alloc ?_ _ | refine bl_setCell ?_ (by simp) _ _ | refine bl_setRow ?_ (by simp) _))).mono ?_; rintro e w1 ⟨rfl, hm, hc⟩; have HX := Lib.hid (And.intro hm (chg_from (a := w) (by repeat (first | exact Below.refl _ _ | refine bl_drew ?_ | refine bl_drewN _ ?_ | refine bl_alloc ?_ _ | refine bl_setCell ?_ (by simp) _ _ | refine bl_setRow ?_ (by simp) _)) hc)); clear hm hc)
    go_ret2
    exact ⟨rfl, HX.out⟩
end
/-- what a triple says of a stamp -/
def atV (v x y s : Int) : Nat := if s < v then fixB y.toNat else fixB x.toNat
set_option maxRecDepth 100000 in
theorem cat_any (v x y s : Int) (w : World) : Calls Try.prog 22 #[tripV v x y, .int .u64 s] w fun e w' => e = .returned (.float .f64 (atV v x y s)) ∧ Below w.heap.size w w' := by
  unfold tripV atV
  by_cases h : s < v
  · rw [if_pos h]
    go_enter Try.func22, Try.ntmps22
    go_wp2_with (go_at_call 53; refine (of_int _ _).mono ?_; rintro e w2 ⟨rfl, hw⟩; subst w2)
    go_ret
    exact ⟨rfl, (by repeat (first | exact Below.refl _ _ | refine bl_drew ?_ | refine bl_drewN _ ?_ | refine bl_alloc ?_ _ | refine bl_setCell ?_ (by simp) _ _ | refine bl_setRow ?_ (by simp) _))⟩
  · rw [if_neg h]
    go_enter Try.func22, Try.ntmps22
    go_wp2_with (go_at_call 53; refine (of_int _ _).mono ?_; rintro e w2 ⟨rfl, hw⟩; subst w2)
    go_ret
    exact ⟨rfl, (by repeat (first | exact Below.refl _ _ | refine bl_drew ?_ | refine bl_drewN _ ?_ | refine bl_alloc ?_ _ | refine bl_setCell ?_ (by simp) _ _ | refine bl_setRow ?_ (by simp) _))⟩
set_option maxRecDepth 100000 in
theorem refAt_any (v x y s : Int) (w : World) : Calls Try.prog 20 #[tripV v x y, .int .u64 s] w fun e w' => e = .returned (.float .f64 (atV v x y s)) ∧ Below w.heap.size w w' := by
  unfold tripV atV
  by_cases h : s < v
  · rw [if_pos h]
    go_enter Try.func20, Try.ntmps20
    go_wp2_with (go_at_call 51; refine (refOf_int _ _).mono ?_; rintro e w2 ⟨rfl, hw⟩; subst w2)
    go_ret
    exact ⟨rfl, (by repeat (first | exact Below.refl _ _ | refine bl_drew ?_ | refine bl_drewN _ ?_ | refine bl_alloc ?_ _ | refine bl_setCell ?_ (by simp) _ _ | refine bl_setRow ?_ (by simp) _))⟩
  · rw [if_neg h]
    go_enter Try.func20, Try.ntmps20
    go_wp2_with (go_at_call 51; refine (refOf_int _ _).mono ?_; rintro e w2 ⟨rfl, hw⟩; subst w2)
    go_ret
    exact ⟨rfl, (by repeat (first | exact Below.refl _ _ | refine bl_drew ?_ | refine bl_drewN _ ?_ | refine bl_alloc ?_ _ | refine bl_setCell ?_ (by simp) _ _ | refine bl_setRow ?_ (by simp) _))⟩
end Go.Proofs.Ytmmijcmlnhmooaa
