/- stage 19 (asm): a move with both -/
import Derived.Test.YtmoafflimfhaiaaDoorN12
namespace Go.Proofs.YtmoafflimfhaiaaDoor.As
open Go.ChangeShapes Go.WideShapes Go.ChangeAt Go.RowKit Num Go.Maps
attribute [local go_sem] run_store_float frombits_run bits_run

/-- a move -/
structure Mv where
  kind : Int
  op : Int
  n : Int
  x : Nat
def Bs.go (s : Bs) (m : Mv) : Bs :=
  if m.kind = 1 then s.add ⟨m.op, m.n, 0⟩ none
  else if m.kind = 2 then s.add ⟨1, 0, m.x⟩ none
  else if m.kind = 3 then s.add ⟨m.op, 0, 0⟩ (some m.n)
  else if m.kind = 4 then s.lab
  else if m.kind = 5 then s.mark m.n
  else s
section
variable {w w' wr u w2 w3 : World} {b r k : Nat} {s s' : Bs} {F : List Nat}
theorem Both.mono {k' : Nat} (h : Both w b r F s k) (q : k ≤ k') : Both w b r F s k' := ⟨h.two, h.wf, Nat.le_trans h.code q, Nat.le_trans h.marks q⟩
/-- one of the two, then the other -/
theorem two_turn {F1 F2 F1' F2' : List Nat} (h2 : Blw w F2) (hs : Sep F1 F2) (tP : Turn F1 F1' w w2) (hP : Bld w2 b F1' s') (tR : Turn F2 F2' w2 w3) (hR : RAt w3 r F2' s') : (∃ G1 G2, Bld w3 b G1 s' ∧ RAt w3 r G2 s' ∧ Sep G1 G2 ∧ F1' ++ F2' = G1 ++ G2) ∧ Turn (F1 ++ F2) (F1' ++ F2') w w3 := by
  have s1 : Sep F1' F2 := ((hs.symm).turn h2 tP).symm
  have s2 : Sep F1' F2' := s1.turn hP.blw tR
  refine ⟨⟨F1', F2', hP.turn tR s1, hR, s2, rfl⟩, ?_⟩
  have t1 : Turn (F1 ++ F2) (F1' ++ F2) w w2 := Turn.widen tP (fun k hk => List.mem_append_left _ hk) (fun k hk => by
    rcases List.mem_append.1 hk with q | q
    · exact (tP.own k q).imp (fun z => List.mem_append_left _ z) id
    · exact .inl (List.mem_append_right _ q))
  have t2 : Turn (F1' ++ F2) (F1' ++ F2') w2 w3 := Turn.widen tR (fun k hk => List.mem_append_right _ hk) (fun k hk => by
    rcases List.mem_append.1 hk with q | q
    · exact .inl (List.mem_append_left _ q)
    · exact (tR.own k q).imp (fun z => List.mem_append_right _ z) id)
  exact t1.trans t2
theorem go_sizes (m : Mv) (hw : Wf m.n) (h : Both w b r F s k) : (∀ l, hasM (s.go m).marks l = true → Wf l) ∧ (s.go m).code.length ≤ k + 1 ∧ (s.go m).marks.length ≤ k + 1 := by
  have a := h.wf
  have c := h.code
  have d := h.marks
  unfold Bs.go
  split
  · exact ⟨a, by simp [Bs.add]; omega, Nat.le_succ_of_le d⟩
  split
  · exact ⟨a, by simp [Bs.add]; omega, Nat.le_succ_of_le d⟩
  split
  · exact ⟨a, by simp [Bs.add]; omega, Nat.le_succ_of_le d⟩
  split
  · unfold Bs.lab
    split
    · exact ⟨a, by omega, by omega⟩
    · exact ⟨a, Nat.le_succ_of_le c, Nat.le_succ_of_le d⟩
  split
  · refine ⟨fun l hl => ?_, Nat.le_succ_of_le c, by simp [Bs.mark]; omega⟩
    have hl' : hasM ((m.n, s.code.length) :: s.marks) l = true := hl
    rw [hasM_cons, Bool.or_eq_true, decide_eq_true_eq] at hl'
    rcases hl' with rfl | q
    · exact hw
    · exact a l q
  · exact ⟨a, by omega, by omega⟩
def mvV (m : Mv) : Array Value := #[.int .i64 m.kind, .int .i64 m.op, .int .i64 m.n, .float .f64 m.x]
theorem cells4 {w : World} {x : Nat} {v0 v1 v2 v3 : Value} {T : TypeId} (h : w.heap[x]? = some (.cells #[v0, v1, v2, v3] T (0, 0))) : w.cell? ⟨x, 0, none⟩ = some v0 ∧ w.cell? ⟨x, 1, none⟩ = some v1 ∧ w.cell? ⟨x, 2, none⟩ = some v2 ∧ w.cell? ⟨x, 3, none⟩ = some v3 ∧ x < w.heap.size :=
  ⟨(cell_of_row _ _ 0 _ _ _ h).trans rfl, (cell_of_row _ _ 1 _ _ _ h).trans rfl, (cell_of_row _ _ 2 _ _ _ h).trans rfl, (cell_of_row _ _ 3 _ _ _ h).trans rfl, lt_of_block h⟩
/-- what a move of this kind does to the two: the walk is told it kind by kind -/
def Did (w w' : World) (b r : Nat) (F : List Nat) (s : Bs) (m : Mv) (k : Nat) : Prop := ∃ F', Both w' b r F' (s.go m) (k + 1) ∧ Turn F F' w w'
theorem did_two {m : Mv} (hw : Wf m.n) (h : Both w b r F s k) {F1 F2 F1' F2' : List Nat} {u : World} (k0 : Below w.heap.size w u) (h2 : Blw w F2) (hs : Sep F1 F2) (hF : F = F1 ++ F2) (e : s.go m = s') (tP : Turn F1 F1' u w2) (hP : Bld w2 b F1' s') (tR : Turn F2 F2' w2 w3) (hR : RAt w3 r F2' s') : Did w w3 b r F s m k := by
  have x2 : Blw u F2 := fun i hi => Nat.lt_of_lt_of_le (h2 i hi) k0.size
  obtain ⟨a, t⟩ := two_turn x2 hs tP hP tR hR
  obtain ⟨g1, g2, g3⟩ := go_sizes m hw h
  subst hF
  refine ⟨F1' ++ F2', ⟨by rw [e]; exact a, g1, g2, g3⟩, (below_turn k0).trans t⟩
theorem did_none {m : Mv} (hw : Wf m.n) (h : Both w b r F s k) (e : s.go m = s) (q : Below w.heap.size w w') : Did w w' b r F s m k := by
  obtain ⟨g1, g2, g3⟩ := go_sizes m hw h
  refine ⟨F, ⟨?_, g1, g2, g3⟩, below_turn q⟩
  rw [e]
  exact (h.on q).two
end
/-! does, kind by kind -/
section
variable {w : World} {b r k : Nat} {s : Bs} {F : List Nat}
set_option maxRecDepth 100000 in
theorem does_1 (h : Both w b r F s k) (hk : k < lim) (op n : Int) (x : Nat) (hw : Wf n) : Calls Tryd.prog 9 #[.pointer (some ⟨b, 0, none⟩), .pointer (some ⟨r, 0, none⟩), .agg #[.int .i64 1, .int .i64 op, .int .i64 n, .float .f64 x]] w fun e w' => e = .returned (.bool true) ∧ Did w w' b r F s ⟨1, op, n, x⟩ k := by
  have HB := Lib.hid h
  have HW := Lib.hid hw
  obtain ⟨⟨F1, F2, h1, h2, hs, hF⟩, hwf, hc, hm⟩ := h
  have k0 := bl1 w (.cells #[.int .i64 1, .int .i64 op, .int .i64 n, .float .f64 x] 30)
  have HK0 := Lib.hid k0
  have hbx := heap_alloc_new w (.cells #[.int .i64 1, .int .i64 op, .int .i64 n, .float .f64 x] 30)
  have HX : Hid (∀ F1' w2, Turn F1 F1' (w.alloc (.cells #[.int .i64 1, .int .i64 op, .int .i64 n, .float .f64 x] 30)) w2 → w2.heap[w.heap.size]? = some (.cells #[.int .i64 1, .int .i64 op, .int .i64 n, .float .f64 x] 30 (0, 0)) ∧ RAt w2 r F2 s) := fun F1' w2 t => ⟨(t.block _ (lt_of_block hbx) fun q => absurd (h1.blw _ q) (Nat.lt_irrefl _)).trans hbx, (h2.on k0).turn t hs.symm⟩
  have HP := Lib.hid (add_any (h1.on k0) op n (by omega))
  have HR := Lib.hid (fun (u : World) (hu : RAt u r F2 s) => rAdd_any hu op n (by omega))
  have HD : Hid (∀ F1' w2 F2' w3, Turn F1 F1' (w.alloc (.cells #[.int .i64 1, .int .i64 op, .int .i64 n, .float .f64 x] 30)) w2 → Bld w2 b F1' (s.add ⟨op, n, 0⟩ none) → Turn F2 F2' w2 w3 → RAt w3 r F2' (s.add ⟨op, n, 0⟩ none) → Did w w3 b r F s ⟨1, op, n, x⟩ k) := fun F1' w2 F2' w3 t1 p1 t2 p2 => did_two HW.out HB.out HK0.out h2.blw hs hF rfl t1 p1 t2 p2
  clear h1 h2 hs hF hwf hc hm hk hw k0 hbx
  go_enter Tryd.func9, Tryd.ntmps9
  go_wp2_with (first
    | (go_at_call 20; refine (HR.out _ HY.out.2).mono ?_; rintro e w3 ⟨F2', rfl, q2, t2⟩; have HZ := Lib.hid (HD.out _ _ _ _ HQ.out.1 HQ.out.2 t2 q2); clear q2 t2 HR)
    | (go_at_call 16; refine HP.out.mono ?_; rintro e w2 ⟨F1', rfl, q1, t1⟩; have HQ := Lib.hid (And.intro t1 q1); have HY := Lib.hid (HX.out _ _ t1); obtain ⟨y0, y1, y2, y3, yl⟩ := cells4 HY.out.1; clear q1 t1 HP HX))
  go_ret
  exact ⟨rfl, HZ.out⟩
set_option maxRecDepth 100000 in
theorem does_2 (h : Both w b r F s k) (hk : k < lim) (op n : Int) (x : Nat) (hw : Wf n) : Calls Tryd.prog 9 #[.pointer (some ⟨b, 0, none⟩), .pointer (some ⟨r, 0, none⟩), .agg #[.int .i64 2, .int .i64 op, .int .i64 n, .float .f64 x]] w fun e w' => e = .returned (.bool true) ∧ Did w w' b r F s ⟨2, op, n, x⟩ k := by
  have HB := Lib.hid h
  have HW := Lib.hid hw
  obtain ⟨⟨F1, F2, h1, h2, hs, hF⟩, hwf, hc, hm⟩ := h
  have k0 := bl1 w (.cells #[.int .i64 2, .int .i64 op, .int .i64 n, .float .f64 x] 30)
  have HK0 := Lib.hid k0
  have hbx := heap_alloc_new w (.cells #[.int .i64 2, .int .i64 op, .int .i64 n, .float .f64 x] 30)
  have HX : Hid (∀ F1' w2, Turn F1 F1' (w.alloc (.cells #[.int .i64 2, .int .i64 op, .int .i64 n, .float .f64 x] 30)) w2 → w2.heap[w.heap.size]? = some (.cells #[.int .i64 2, .int .i64 op, .int .i64 n, .float .f64 x] 30 (0, 0)) ∧ RAt w2 r F2 s) := fun F1' w2 t => ⟨(t.block _ (lt_of_block hbx) fun q => absurd (h1.blw _ q) (Nat.lt_irrefl _)).trans hbx, (h2.on k0).turn t hs.symm⟩
  have HP := Lib.hid (push_any (h1.on k0) x (by omega))
  have HR := Lib.hid (fun (u : World) (hu : RAt u r F2 s) => rPush_any hu x (by omega))
  have HD : Hid (∀ F1' w2 F2' w3, Turn F1 F1' (w.alloc (.cells #[.int .i64 2, .int .i64 op, .int .i64 n, .float .f64 x] 30)) w2 → Bld w2 b F1' (s.add ⟨1, 0, x⟩ none) → Turn F2 F2' w2 w3 → RAt w3 r F2' (s.add ⟨1, 0, x⟩ none) → Did w w3 b r F s ⟨2, op, n, x⟩ k) := fun F1' w2 F2' w3 t1 p1 t2 p2 => did_two HW.out HB.out HK0.out h2.blw hs hF rfl t1 p1 t2 p2
  clear h1 h2 hs hF hwf hc hm hk hw k0 hbx
  go_enter Tryd.func9, Tryd.ntmps9
  go_wp2_with (first
    | (go_at_call 21; refine (HR.out _ HY.out.2).mono ?_; rintro e w3 ⟨F2', rfl, q2, t2⟩; have HZ := Lib.hid (HD.out _ _ _ _ HQ.out.1 HQ.out.2 t2 q2); clear q2 t2 HR)
    | (go_at_call 14; refine HP.out.mono ?_; rintro e w2 ⟨F1', rfl, q1, t1⟩; have HQ := Lib.hid (And.intro t1 q1); have HY := Lib.hid (HX.out _ _ t1); obtain ⟨y0, y1, y2, y3, yl⟩ := cells4 HY.out.1; clear q1 t1 HP HX))
  go_ret
  exact ⟨rfl, HZ.out⟩
set_option maxRecDepth 100000 in
theorem does_3 (h : Both w b r F s k) (hk : k < lim) (op n : Int) (x : Nat) (hw : Wf n) : Calls Tryd.prog 9 #[.pointer (some ⟨b, 0, none⟩), .pointer (some ⟨r, 0, none⟩), .agg #[.int .i64 3, .int .i64 op, .int .i64 n, .float .f64 x]] w fun e w' => e = .returned (.bool true) ∧ Did w w' b r F s ⟨3, op, n, x⟩ k := by
  have HB := Lib.hid h
  have HW := Lib.hid hw
  obtain ⟨⟨F1, F2, h1, h2, hs, hF⟩, hwf, hc, hm⟩ := h
  have k0 := bl1 w (.cells #[.int .i64 3, .int .i64 op, .int .i64 n, .float .f64 x] 30)
  have HK0 := Lib.hid k0
  have hbx := heap_alloc_new w (.cells #[.int .i64 3, .int .i64 op, .int .i64 n, .float .f64 x] 30)
  have HX : Hid (∀ F1' w2, Turn F1 F1' (w.alloc (.cells #[.int .i64 3, .int .i64 op, .int .i64 n, .float .f64 x] 30)) w2 → w2.heap[w.heap.size]? = some (.cells #[.int .i64 3, .int .i64 op, .int .i64 n, .float .f64 x] 30 (0, 0)) ∧ RAt w2 r F2 s) := fun F1' w2 t => ⟨(t.block _ (lt_of_block hbx) fun q => absurd (h1.blw _ q) (Nat.lt_irrefl _)).trans hbx, (h2.on k0).turn t hs.symm⟩
  have HP := Lib.hid (to_any (h1.on k0) op n hw (by omega))
  have HR := Lib.hid (fun (u : World) (hu : RAt u r F2 s) => rJump_any hu op n hw (by omega))
  have HD : Hid (∀ F1' w2 F2' w3, Turn F1 F1' (w.alloc (.cells #[.int .i64 3, .int .i64 op, .int .i64 n, .float .f64 x] 30)) w2 → Bld w2 b F1' (s.add ⟨op, 0, 0⟩ (some n)) → Turn F2 F2' w2 w3 → RAt w3 r F2' (s.add ⟨op, 0, 0⟩ (some n)) → Did w w3 b r F s ⟨3, op, n, x⟩ k) := fun F1' w2 F2' w3 t1 p1 t2 p2 => did_two HW.out HB.out HK0.out h2.blw hs hF rfl t1 p1 t2 p2
  clear h1 h2 hs hF hwf hc hm hk hw k0 hbx
  go_enter Tryd.func9, Tryd.ntmps9
  go_wp2_with (first
    | (go_at_call 22; refine (HR.out _ HY.out.2).mono ?_; rintro e w3 ⟨F2', rfl, q2, t2⟩; have HZ := Lib.hid (HD.out _ _ _ _ HQ.out.1 HQ.out.2 t2 q2); clear q2 t2 HR)
    | (go_at_call 15; refine HP.out.mono ?_; rintro e w2 ⟨F1', rfl, q1, t1⟩; have HQ := Lib.hid (And.intro t1 q1); have HY := Lib.hid (HX.out _ _ t1); obtain ⟨y0, y1, y2, y3, yl⟩ := cells4 HY.out.1; clear q1 t1 HP HX))
  go_ret
  exact ⟨rfl, HZ.out⟩
set_option maxRecDepth 100000 in
theorem does_4 (h : Both w b r F s k) (op n : Int) (x : Nat) (hw : Wf n) : Calls Tryd.prog 9 #[.pointer (some ⟨b, 0, none⟩), .pointer (some ⟨r, 0, none⟩), .agg #[.int .i64 4, .int .i64 op, .int .i64 n, .float .f64 x]] w fun e w' => e = .returned (.bool true) ∧ Did w w' b r F s ⟨4, op, n, x⟩ k := by
  have HB := Lib.hid h
  have HW := Lib.hid hw
  obtain ⟨⟨F1, F2, h1, h2, hs, hF⟩, hwf, hc, hm⟩ := h
  have k0 := bl1 w (.cells #[.int .i64 4, .int .i64 op, .int .i64 n, .float .f64 x] 30)
  have HK0 := Lib.hid k0
  have hbx := heap_alloc_new w (.cells #[.int .i64 4, .int .i64 op, .int .i64 n, .float .f64 x] 30)
  have HX : Hid (∀ F1' w2, Turn F1 F1' (w.alloc (.cells #[.int .i64 4, .int .i64 op, .int .i64 n, .float .f64 x] 30)) w2 → w2.heap[w.heap.size]? = some (.cells #[.int .i64 4, .int .i64 op, .int .i64 n, .float .f64 x] 30 (0, 0)) ∧ RAt w2 r F2 s) := fun F1' w2 t => ⟨(t.block _ (lt_of_block hbx) fun q => absurd (h1.blw _ q) (Nat.lt_irrefl _)).trans hbx, (h2.on k0).turn t hs.symm⟩
  have HP := Lib.hid (label_any (h1.on k0))
  have HR := Lib.hid (fun (u : World) (hu : RAt u r F2 s) => rlabel_any hu)
  have HD : Hid (∀ F1' w2 F2' w3, Turn F1 F1' (w.alloc (.cells #[.int .i64 4, .int .i64 op, .int .i64 n, .float .f64 x] 30)) w2 → Bld w2 b F1' (s.lab) → Turn F2 F2' w2 w3 → RAt w3 r F2' (s.lab) → Did w w3 b r F s ⟨4, op, n, x⟩ k) := fun F1' w2 F2' w3 t1 p1 t2 p2 => did_two HW.out HB.out HK0.out h2.blw hs hF rfl t1 p1 t2 p2
  clear h1 h2 hs hF hwf hc hm hw k0 hbx
  go_enter Tryd.func9, Tryd.ntmps9
  go_wp2_with (first
    | (go_at_call 23; refine (HR.out _ HY.out.2).mono ?_; rintro e w3 ⟨F2', rfl, q2, t2⟩; have HZ := Lib.hid (HD.out _ _ _ _ HQ.out.1 HQ.out.2 t2 q2); clear q2 t2 HR)
    | (go_at_call 12; refine HP.out.mono ?_; rintro e w2 ⟨F1', rfl, q1, t1⟩; have HQ := Lib.hid (And.intro t1 q1); have HY := Lib.hid (HX.out _ _ t1); obtain ⟨y0, y1, y2, y3, yl⟩ := cells4 HY.out.1; clear q1 t1 HP HX))
  go_ret
  exact ⟨by simp, HZ.out⟩
set_option maxRecDepth 100000 in
theorem does_5 (h : Both w b r F s k) (hk : k < lim) (op n : Int) (x : Nat) (hw : Wf n) : Calls Tryd.prog 9 #[.pointer (some ⟨b, 0, none⟩), .pointer (some ⟨r, 0, none⟩), .agg #[.int .i64 5, .int .i64 op, .int .i64 n, .float .f64 x]] w fun e w' => e = .returned (.bool true) ∧ Did w w' b r F s ⟨5, op, n, x⟩ k := by
  have HB := Lib.hid h
  have HW := Lib.hid hw
  obtain ⟨⟨F1, F2, h1, h2, hs, hF⟩, hwf, hc, hm⟩ := h
  have k0 := bl1 w (.cells #[.int .i64 5, .int .i64 op, .int .i64 n, .float .f64 x] 30)
  have HK0 := Lib.hid k0
  have hbx := heap_alloc_new w (.cells #[.int .i64 5, .int .i64 op, .int .i64 n, .float .f64 x] 30)
  have HX : Hid (∀ F1' w2, Turn F1 F1' (w.alloc (.cells #[.int .i64 5, .int .i64 op, .int .i64 n, .float .f64 x] 30)) w2 → w2.heap[w.heap.size]? = some (.cells #[.int .i64 5, .int .i64 op, .int .i64 n, .float .f64 x] 30 (0, 0)) ∧ RAt w2 r F2 s) := fun F1' w2 t => ⟨(t.block _ (lt_of_block hbx) fun q => absurd (h1.blw _ q) (Nat.lt_irrefl _)).trans hbx, (h2.on k0).turn t hs.symm⟩
  have HP := Lib.hid (mark_any (h1.on k0) hw (by unfold maxLen; unfold lim at hk; omega))
  have HR := Lib.hid (fun (u : World) (hu : RAt u r F2 s) => rMark_any hu n (by omega))
  have HD : Hid (∀ F1' w2 F2' w3, Turn F1 F1' (w.alloc (.cells #[.int .i64 5, .int .i64 op, .int .i64 n, .float .f64 x] 30)) w2 → Bld w2 b F1' (s.mark n) → Turn F2 F2' w2 w3 → RAt w3 r F2' (s.mark n) → Did w w3 b r F s ⟨5, op, n, x⟩ k) := fun F1' w2 F2' w3 t1 p1 t2 p2 => did_two HW.out HB.out HK0.out h2.blw hs hF rfl t1 p1 t2 p2
  clear h1 h2 hs hF hwf hc hm hk hw k0 hbx
  go_enter Tryd.func9, Tryd.ntmps9
  go_wp2_with (first
    | (go_at_call 24; refine (HR.out _ HY.out.2).mono ?_; rintro e w3 ⟨F2', rfl, q2, t2⟩; have HZ := Lib.hid (HD.out _ _ _ _ HQ.out.1 HQ.out.2 t2 q2); clear q2 t2 HR)
    | (go_at_call 13; refine HP.out.mono ?_; rintro e w2 ⟨F1', rfl, q1, t1⟩; have HQ := Lib.hid (And.intro t1 q1); have HY := Lib.hid (HX.out _ _ t1); obtain ⟨y0, y1, y2, y3, yl⟩ := cells4 HY.out.1; clear q1 t1 HP HX))
  go_ret
  exact ⟨rfl, HZ.out⟩
set_option maxRecDepth 100000 in
theorem does_6 (h : Both w b r F s k) (hk : k < lim) (hT : Shaped5 w) (op n : Int) (x : Nat) (hw : Wf n) : Calls Tryd.prog 9 #[.pointer (some ⟨b, 0, none⟩), .pointer (some ⟨r, 0, none⟩), .agg #[.int .i64 6, .int .i64 op, .int .i64 n, .float .f64 x]] w fun e w' => e = .returned (.bool true) ∧ Did w w' b r F s ⟨6, op, n, x⟩ k := by
  have k0 := bl1 w (.cells #[.int .i64 6, .int .i64 op, .int .i64 n, .float .f64 x] 30)
  have HS := Lib.hid (same_any (h.on k0) hk (hT.on k0))
  have HD : Hid (∀ u, Below w.heap.size w u → Did w u b r F s ⟨6, op, n, x⟩ k) := fun u q => did_none hw h rfl q
  have HK := Lib.hid k0
  clear h hk hT hw k0
  go_enter Tryd.func9, Tryd.ntmps9
  go_wp2_with (go_at_call 10; refine HS.out.mono ?_; rintro e w2 ⟨rfl, q⟩; have HZ := Lib.hid (HD.out _ (HK.out.trans (q.mono HK.out.size))); clear q HS)
  go_ret
  exact ⟨rfl, HZ.out⟩
set_option maxRecDepth 100000 in
theorem does_any (h : Both w b r F s k) (hk : k < lim) (hT : Shaped5 w) (m : Mv) (hw : Wf m.n) : Calls Tryd.prog 9 #[.pointer (some ⟨b, 0, none⟩), .pointer (some ⟨r, 0, none⟩), .agg (mvV m)] w fun e w' => e = .returned (.bool true) ∧ Did w w' b r F s m k := by
  obtain ⟨kd, op, n, x⟩ := m
  show Calls Tryd.prog 9 #[.pointer (some ⟨b, 0, none⟩), .pointer (some ⟨r, 0, none⟩), .agg #[.int .i64 kd, .int .i64 op, .int .i64 n, .float .f64 x]] w _
  by_cases h1 : kd = 1
  · subst h1; exact does_1 h hk op n x hw
  by_cases h2 : kd = 2
  · subst h2; exact does_2 h hk op n x hw
  by_cases h3 : kd = 3
  · subst h3; exact does_3 h hk op n x hw
  by_cases h4 : kd = 4
  · subst h4; exact does_4 h op n x hw
  by_cases h5 : kd = 5
  · subst h5; exact does_5 h hk op n x hw
  by_cases h6 : kd = 6
  · subst h6; exact does_6 h hk hT op n x hw
  have HD : Hid (∀ u, Below w.heap.size w u → Did w u b r F s ⟨kd, op, n, x⟩ k) := fun u q => did_none hw h (by unfold Bs.go; simp only [h1, h2, h3, h4, h5, if_false]) q
  have g1 : (kd == 1) = false := by simpa using h1
  have g2 : (kd == 2) = false := by simpa using h2
  have g3 : (kd == 3) = false := by simpa using h3
  have g4 : (kd == 4) = false := by simpa using h4
  have g5 : (kd == 5) = false := by simpa using h5
  have g6 : (kd == 6) = false := by simpa using h6
  clear h hk hT hw h1 h2 h3 h4 h5 h6
  go_enter Tryd.func9, Tryd.ntmps9
  go_wp2
  go_ret
  exact ⟨rfl, HD.out _ (bl1 _ _)⟩
end
end Go.Proofs.YtmoafflimfhaiaaDoor.As
