import Derived.Test.YtaliehikdidiaaaGreatDoorK6
import Derived.Deep.RegionLaw
namespace Go.Proofs.YtaliehikdidiaaaGreatDoor
open Go.ChangeShapes Go.WideShapes Go.ChangeAt Go.RowKit Num
attribute [local go_sem] run_store_float

theorem one_any {op : Int} (hop : 1 ≤ op ∧ op ≤ 8) {y : Nat} (hy : okN y) (w : World) : Calls Tryz.prog 164 #[.int .i64 op, .float .f64 y] w fun e w' => e = .returned (.tuple #[.float .f64 (oneV op y), .int .i64 0]) ∧ Below w.heap.size w w' := by
  obtain ⟨k, rfl⟩ : ∃ k : Nat, op = k := ⟨op.toNat, by omega⟩
  unfold oneV
  rw [Int.toNat_natCast]
  match k, hop with
  | 1, _ => simpa only [List.getD_cons_succ, List.getD_cons_zero, Int.cast_ofNat_Int, Grw] using one_1 y w hy.2
  | 2, _ => simpa only [List.getD_cons_succ, List.getD_cons_zero, Int.cast_ofNat_Int, Grw] using one_2 y w hy.2
  | 3, _ => simpa only [List.getD_cons_succ, List.getD_cons_zero, Int.cast_ofNat_Int, Grw] using one_3 y w hy.2
  | 4, _ => simpa only [List.getD_cons_succ, List.getD_cons_zero, Int.cast_ofNat_Int, Grw] using one_4 y w hy.2
  | 5, _ => simpa only [List.getD_cons_succ, List.getD_cons_zero, Int.cast_ofNat_Int, Grw] using one_5 y w hy.2
  | 6, _ => simpa only [List.getD_cons_succ, List.getD_cons_zero, Int.cast_ofNat_Int, Grw] using one_6 y w hy.2
  | 7, _ => simpa only [List.getD_cons_succ, List.getD_cons_zero, Int.cast_ofNat_Int, Grw] using one_7 y w hy.2
  | 8, _ => simpa only [List.getD_cons_succ, List.getD_cons_zero, Int.cast_ofNat_Int, Grw] using one_8 y w hy.2
  | 0, h => exact absurd h.1 (by decide)
  | n + 9, h => exact absurd h.2 (by omega)
theorem two_any {op : Int} (hop : 1 ≤ op ∧ op ≤ 12) {y z : Nat} (hy : okN y) (hz : okN z) (w : World) : Calls Tryz.prog 165 #[.int .i64 op, .float .f64 y, .float .f64 z] w fun e w' => e = .returned (.tuple #[.float .f64 (twoV op y z), .int .i64 0]) ∧ Below w.heap.size w w' := by
  obtain ⟨k, rfl⟩ : ∃ k : Nat, op = k := ⟨op.toNat, by omega⟩
  unfold twoV
  rw [Int.toNat_natCast]
  match k, hop with
  | 1, _ => simpa only [List.getD_cons_succ, List.getD_cons_zero, Int.cast_ofNat_Int, Grw] using two_1 y z w hy.2 hz.2
  | 2, _ => simpa only [List.getD_cons_succ, List.getD_cons_zero, Int.cast_ofNat_Int, Grw] using two_2 y z w hy.2 hz.2
  | 3, _ => simpa only [List.getD_cons_succ, List.getD_cons_zero, Int.cast_ofNat_Int, Grw] using two_3 y z w hy.2 hz.2
  | 4, _ => simpa only [List.getD_cons_succ, List.getD_cons_zero, Int.cast_ofNat_Int, Grw] using two_4 y z w hy.2 hz.2
  | 5, _ => simpa only [List.getD_cons_succ, List.getD_cons_zero, Int.cast_ofNat_Int, Grw] using two_5 y z w hy.2 hz.2
  | 6, _ => simpa only [List.getD_cons_succ, List.getD_cons_zero, Int.cast_ofNat_Int, Grw] using two_6 y z w hy.2 hz.2
  | 7, _ => simpa only [List.getD_cons_succ, List.getD_cons_zero, Int.cast_ofNat_Int, Grw] using two_7 y z w hy.2 hz.2
  | 8, _ => simpa only [List.getD_cons_succ, List.getD_cons_zero, Int.cast_ofNat_Int, Grw] using two_8 y z w hy.2 hz.2
  | 9, _ => simpa only [List.getD_cons_succ, List.getD_cons_zero, Int.cast_ofNat_Int, Grw] using two_9 y z w hy.2 hz.2
  | 10, _ => simpa only [List.getD_cons_succ, List.getD_cons_zero, Int.cast_ofNat_Int, Grw] using two_10 y z w hy.2 hz.2
  | 11, _ => simpa only [List.getD_cons_succ, List.getD_cons_zero, Int.cast_ofNat_Int, Grw] using two_11 y z w hy.2 hz.2
  | 12, _ => simpa only [List.getD_cons_succ, List.getD_cons_zero, Int.cast_ofNat_Int, Grw] using two_12 y z w hy.2 hz.2
  | 0, h => exact absurd h.1 (by decide)
  | n + 13, h => exact absurd h.2 (by omega)
section
variable {W w : World} {b : Nat} {F0 K : List Nat} {m : Mac}
set_option maxHeartbeats 600000 in
set_option maxRecDepth 100000 in
theorem reckon_1 (h : Gm W F0 b K w m) (n : Int) (x : Nat) (hs : m.st.length < 64) : Calls Tryz.prog 144 #[.pointer (some ⟨b, 0, none⟩), .agg #[.int .i64 1, .int .i64 n, .float .f64 x]] w fun r w' => r = .returned (.tuple #[]) ∧ Gm W F0 b K w' { m with st := fixB x :: m.st } := by
  obtain ⟨F, h1, hX⟩ := h.enter (insO ⟨1, n, x⟩)
  have HG := Lib.hid h1
  have HX := Lib.hid hX
  have HS := Lib.hid hs
  clear h h1 hX hs
  go_enter Tryz.func144, Tryz.ntmps144
  go_wp2_with (first | (go_at_call 146; refine (lay_any HG.out _ HS.out).mono ?_; rintro e u_G1 ⟨rfl, q⟩; have G1 := Lib.hid q; clear q) | (go_at_call 83; refine (fix_any _ _).mono ?_; rintro e u ⟨rfl, hu⟩; subst u))
  go_end0
  exact ⟨rfl, (HX.out _ _ G1.out).2.2.2⟩
set_option maxHeartbeats 600000 in
set_option maxRecDepth 100000 in
theorem reckon_2 (h : Gm W F0 b K w m) (n : Int) (x : Nat) {y : Nat} {s : List Nat} (hs : m.st = y :: s) : Calls Tryz.prog 144 #[.pointer (some ⟨b, 0, none⟩), .agg #[.int .i64 2, .int .i64 n, .float .f64 x]] w fun r w' => r = .returned (.tuple #[]) ∧ Gm W F0 b K w' { m with st := s } := by
  obtain ⟨F, h1, hX⟩ := h.enter (insO ⟨2, n, x⟩)
  have HG := Lib.hid h1
  have HX := Lib.hid hX
  have HS := Lib.hid hs
  clear h h1 hX hs
  go_enter Tryz.func144, Tryz.ntmps144
  go_wp2_with (go_at_call 157; refine (take_any HG.out HS.out).mono ?_; rintro e u_G1 ⟨rfl, q⟩; have G1 := Lib.hid q; clear q)
  go_end0
  exact ⟨rfl, (HX.out _ _ G1.out).2.2.2⟩
set_option maxHeartbeats 600000 in
set_option maxRecDepth 100000 in
theorem reckon_3 (h : Gm W F0 b K w m) (n : Int) (x : Nat) (h0 : 0 < m.st.length) (hs : m.st.length < 64) : Calls Tryz.prog 144 #[.pointer (some ⟨b, 0, none⟩), .agg #[.int .i64 3, .int .i64 n, .float .f64 x]] w fun r w' => r = .returned (.tuple #[]) ∧ Gm W F0 b K w' { m with st := m.st.getD 0 0 :: m.st } := by
  obtain ⟨F, h1, hX⟩ := h.enter (insO ⟨3, n, x⟩)
  have HG := Lib.hid h1
  have HX := Lib.hid hX
  have HS := Lib.hid (And.intro h0 hs)
  clear h h1 hX hs h0
  go_enter Tryz.func144, Tryz.ntmps144
  go_wp2_with (first | (go_at_call 146; refine (lay_any (HG.out.drewN _) _ HS.out.2).mono ?_; rintro e u_G1 ⟨rfl, q⟩; have G1 := Lib.hid q; clear q) | (go_at_call 159; refine (pick_any HG.out 0 HS.out.1).mono ?_; rintro e u ⟨rfl, q, hq⟩; subst u))
  go_end0
  exact ⟨rfl, (HX.out _ _ G1.out).2.2.2⟩
set_option maxHeartbeats 600000 in
set_option maxRecDepth 100000 in
theorem reckon_4 (h : Gm W F0 b K w m) (n : Int) (x : Nat) {y z : Nat} {s : List Nat} (hs : m.st = y :: z :: s) (hl : s.length + 2 ≤ 64) : Calls Tryz.prog 144 #[.pointer (some ⟨b, 0, none⟩), .agg #[.int .i64 4, .int .i64 n, .float .f64 x]] w fun r w' => r = .returned (.tuple #[]) ∧ Gm W F0 b K w' { m with st := z :: y :: s } := by
  obtain ⟨F, h1, hX⟩ := h.enter (insO ⟨4, n, x⟩)
  have HG := Lib.hid h1
  have HX := Lib.hid hX
  have HS := Lib.hid hs
  have HL := Lib.hid hl
  clear h h1 hX hs hl
  go_enter Tryz.func144, Tryz.ntmps144
  go_wp2_with (first
    | (go_at_call 146; refine (lay_any G3.out _ (by have := HL.out; simp; omega)).mono ?_; rintro e u_G4 ⟨rfl, q⟩; have G4 := Lib.hid q; clear q)
    | (go_at_call 146; refine (lay_any G2.out _ (by have := HL.out; simp; omega)).mono ?_; rintro e u_G3 ⟨rfl, q⟩; have G3 := Lib.hid q; clear q)
    | (go_at_call 157; refine (take_any G1.out rfl).mono ?_; rintro e u_G2 ⟨rfl, q⟩; have G2 := Lib.hid q; clear q)
    | (go_at_call 157; refine (take_any HG.out HS.out).mono ?_; rintro e u_G1 ⟨rfl, q⟩; have G1 := Lib.hid q; clear q))
  go_end0
  exact ⟨rfl, (HX.out _ _ G4.out).2.2.2⟩
set_option maxHeartbeats 600000 in
set_option maxRecDepth 100000 in
theorem reckon_5 (h : Gm W F0 b K w m) (n : Int) (x : Nat) {k : Nat} (hn : n = (k : Int)) (h0 : k < m.st.length) (hs : m.st.length < 64) : Calls Tryz.prog 144 #[.pointer (some ⟨b, 0, none⟩), .agg #[.int .i64 5, .int .i64 n, .float .f64 x]] w fun r w' => r = .returned (.tuple #[]) ∧ Gm W F0 b K w' { m with st := m.st.getD k 0 :: m.st } := by
  obtain ⟨F, h1, hX⟩ := h.enter (insO ⟨5, n, x⟩)
  have HG := Lib.hid h1
  have HX := Lib.hid hX
  subst hn
  have HS := Lib.hid (And.intro h0 hs)
  clear h h1 hX hs h0
  go_enter Tryz.func144, Tryz.ntmps144
  go_wp2_with (first | (go_at_call 146; refine (lay_any (HG.out.drewN _) _ HS.out.2).mono ?_; rintro e u_G1 ⟨rfl, q⟩; have G1 := Lib.hid q; clear q) | (go_at_call 159; refine (pick_any HG.out k HS.out.1).mono ?_; rintro e u ⟨rfl, q, hq⟩; subst u))
  go_end0
  exact ⟨rfl, (HX.out _ _ G1.out).2.2.2⟩
theorem args_at (h : Gm W F0 b K w m) {k : Nat} (hk : k < 8) : w.cell? ⟨b, 4 + k, none⟩ = some (.float .f64 (m.args k)) := by
  obtain ⟨p, hm, _, _⟩ := h
  match k, hk with
  | 0, _ => exact (hm.cell 4).trans rfl
  | 1, _ => exact (hm.cell 5).trans rfl
  | 2, _ => exact (hm.cell 6).trans rfl
  | 3, _ => exact (hm.cell 7).trans rfl
  | 4, _ => exact (hm.cell 8).trans rfl
  | 5, _ => exact (hm.cell 9).trans rfl
  | 6, _ => exact (hm.cell 10).trans rfl
  | 7, _ => exact (hm.cell 11).trans rfl
theorem loc_at (h : Gm W F0 b K w m) {k : Nat} (hk : k < 8) : w.cell? ⟨b, 12 + k, none⟩ = some (.float .f64 (m.loc k)) := by
  obtain ⟨p, hm, _, _⟩ := h
  match k, hk with
  | 0, _ => exact (hm.cell 12).trans rfl
  | 1, _ => exact (hm.cell 13).trans rfl
  | 2, _ => exact (hm.cell 14).trans rfl
  | 3, _ => exact (hm.cell 15).trans rfl
  | 4, _ => exact (hm.cell 16).trans rfl
  | 5, _ => exact (hm.cell 17).trans rfl
  | 6, _ => exact (hm.cell 18).trans rfl
  | 7, _ => exact (hm.cell 19).trans rfl
theorem loc_set (h : Gm W F0 b K w m) {k : Nat} (hk : k < 8) (y : Nat) : Gm W F0 b K (w.setCell ⟨b, 12 + k, none⟩ (.float .f64 y)) { m with loc := updF m.loc k y } := by
  refine h.set (12 + k) _ _ (fun p hp => ⟨p.wt, ?_, hp⟩) ⟨rfl, rfl, rfl, rfl, rfl, rfl, rfl⟩
  match k, hk with
  | 0, _ => rfl
  | 1, _ => rfl
  | 2, _ => rfl
  | 3, _ => rfl
  | 4, _ => rfl
  | 5, _ => rfl
  | 6, _ => rfl
  | 7, _ => rfl
set_option maxHeartbeats 600000 in
set_option maxRecDepth 100000 in
theorem reckon_6 (h : Gm W F0 b K w m) (n : Int) (x : Nat) {k : Nat} (hn : n = (k : Int)) (h0 : k < 8) (hs : m.st.length < 64) : Calls Tryz.prog 144 #[.pointer (some ⟨b, 0, none⟩), .agg #[.int .i64 6, .int .i64 n, .float .f64 x]] w fun r w' => r = .returned (.tuple #[]) ∧ Gm W F0 b K w' { m with st := m.args k :: m.st } := by
  obtain ⟨F, h1, hX⟩ := h.enter (insO ⟨6, n, x⟩)
  have HG := Lib.hid h1
  have HX := Lib.hid hX
  subst hn
  have HS := Lib.hid hs
  have hb := h.ltB
  have hk8 : (k : Int) < 8 := by omega
  have hc : w.cell? ⟨b, 4 + k, none⟩ = some (.float .f64 (m.args k)) := args_at h h0
  clear h h1 hX hs h0
  go_enter Tryz.func144, Tryz.ntmps144
  go_wp2
  refine region_tail 8 (by kernel_rfl) ?_
  simp only [List.take_succ_cons, List.take_zero, List.drop_succ_cons, List.drop_zero]
  repeat still_step
  refine wpStill_nil ?_
  go_wp2_with (go_at_call 146; refine (lay_any (HG.out.drewN 1) _ HS.out).mono ?_; rintro e u_G1 ⟨rfl, q⟩; have G1 := Lib.hid q; clear q)
  go_end0
  exact ⟨rfl, (HX.out _ _ G1.out).2.2.2⟩
set_option maxHeartbeats 600000 in
set_option maxRecDepth 100000 in
theorem reckon_7 (h : Gm W F0 b K w m) (n : Int) (x : Nat) {k : Nat} (hn : n = (k : Int)) (h0 : k < 8) (hs : m.st.length < 64) : Calls Tryz.prog 144 #[.pointer (some ⟨b, 0, none⟩), .agg #[.int .i64 7, .int .i64 n, .float .f64 x]] w fun r w' => r = .returned (.tuple #[]) ∧ Gm W F0 b K w' { m with st := m.loc k :: m.st } := by
  obtain ⟨F, h1, hX⟩ := h.enter (insO ⟨7, n, x⟩)
  have HG := Lib.hid h1
  have HX := Lib.hid hX
  subst hn
  have HS := Lib.hid hs
  have hb := h.ltB
  have hk8 : (k : Int) < 8 := by omega
  have hc : w.cell? ⟨b, 12 + k, none⟩ = some (.float .f64 (m.loc k)) := loc_at h h0
  clear h h1 hX hs h0
  go_enter Tryz.func144, Tryz.ntmps144
  go_wp2
  refine region_tail 8 (by kernel_rfl) ?_
  simp only [List.take_succ_cons, List.take_zero, List.drop_succ_cons, List.drop_zero]
  repeat still_step
  refine wpStill_nil ?_
  go_wp2_with (go_at_call 146; refine (lay_any (HG.out.drewN 1) _ HS.out).mono ?_; rintro e u_G1 ⟨rfl, q⟩; have G1 := Lib.hid q; clear q)
  go_end0
  exact ⟨rfl, (HX.out _ _ G1.out).2.2.2⟩
end
end Go.Proofs.YtaliehikdidiaaaGreatDoor
namespace Go.Proofs.YtaliehikdidiaaaGreatDoor
open Go.ChangeShapes Go.WideShapes Go.ChangeAt Go.RowKit Num
attribute [local go_sem] run_store_float

section
variable {W w : World} {b : Nat} {F0 K : List Nat} {m : Mac}
set_option maxHeartbeats 600000 in
set_option maxRecDepth 100000 in
theorem move_11 (h : Gm W F0 b K w m) (n : Int) (x : Nat)  : Calls Tryz.prog 143 #[.pointer (some ⟨b, 0, none⟩), .agg #[.int .i64 11, .int .i64 n, .float .f64 x]] w fun r w' => r = .returned (.tuple #[]) ∧ Gm W F0 b K w' { m with place := n } := by
  have hb := h.ltB
  have h22 : w.cell? ⟨b, 22, none⟩ = some (.int .i64 m.place) := by obtain ⟨p, hm, _, _⟩ := h; exact (hm.cell 22).trans rfl
  have f22 := h.free 22
  have HD := Lib.hid (h.set 22 (.int .i64 n) { m with place := n } (fun p hp => ⟨p.wt, rfl, hp⟩) ⟨rfl, rfl, rfl, rfl, rfl, rfl, rfl⟩)
  clear h
  go_enter Tryz.func143, Tryz.ntmps143
  go_wp2
  go_end0
  exact ⟨rfl, HD.out.alloc _⟩
theorem place_at (h : Gm W F0 b K w m) : w.cell? ⟨b, 22, none⟩ = some (.int .i64 m.place) := by
  obtain ⟨p, hm, _, _⟩ := h
  exact (hm.cell 22).trans rfl
theorem place_set (h : Gm W F0 b K w m) (n : Int) : Gm W F0 b K (w.setCell ⟨b, 22, none⟩ (.int .i64 n)) { m with place := n } :=
  h.set 22 (.int .i64 n) { m with place := n } (fun p hp => ⟨p.wt, rfl, hp⟩) ⟨rfl, rfl, rfl, rfl, rfl, rfl, rfl⟩
set_option maxHeartbeats 600000 in
set_option maxRecDepth 100000 in
theorem move_12y (h : Gm W F0 b K w m) (n : Int) (x : Nat) {y : Nat} {s : List Nat} (hs : m.st = y :: s) (ht : trueB y = true) : Calls Tryz.prog 143 #[.pointer (some ⟨b, 0, none⟩), .agg #[.int .i64 12, .int .i64 n, .float .f64 x]] w fun r w' => r = .returned (.tuple #[]) ∧ Gm W F0 b K w' { m with place := n, st := s } := by
  obtain ⟨F, h1, hX⟩ := h.enter (insO ⟨12, n, x⟩)
  have HG := Lib.hid h1
  have HX := Lib.hid hX
  have HS := Lib.hid hs
  have HT : Hid (∀ w, _) := fun w => true_any y w
  rw [ht] at HT
  clear h h1 hX hs ht
  go_enter Tryz.func143, Tryz.ntmps143
  go_wp2_with (first
    | (go_at_call 162; refine (HT.out _).mono ?_; rintro e u ⟨rfl, hu⟩; subst u)
    | (go_at_call 157; refine (take_any HG.out HS.out).mono ?_; rintro e u1 ⟨rfl, q⟩; obtain ⟨r1, r2, r3, r4⟩ := HX.out _ _ q; obtain ⟨c0, c1, c2, c3⟩ := insO_cells r1; have d0 := place_at q; have d1 := q.free 22; have d2 := q.ltB; have G1 := Lib.hid q; clear q r1 r2 r3 r4))
  go_end0
  exact ⟨rfl, (HX.out _ _ (place_set G1.out n)).2.2.2⟩
set_option maxHeartbeats 600000 in
set_option maxRecDepth 100000 in
theorem move_12n (h : Gm W F0 b K w m) (n : Int) (x : Nat) {y : Nat} {s : List Nat} (hs : m.st = y :: s) (ht : trueB y = false) : Calls Tryz.prog 143 #[.pointer (some ⟨b, 0, none⟩), .agg #[.int .i64 12, .int .i64 n, .float .f64 x]] w fun r w' => r = .returned (.tuple #[]) ∧ Gm W F0 b K w' { m with st := s } := by
  obtain ⟨F, h1, hX⟩ := h.enter (insO ⟨12, n, x⟩)
  have HG := Lib.hid h1
  have HX := Lib.hid hX
  have HS := Lib.hid hs
  have HT : Hid (∀ w, _) := fun w => true_any y w
  rw [ht] at HT
  clear h h1 hX hs ht
  go_enter Tryz.func143, Tryz.ntmps143
  go_wp2_with (first
    | (go_at_call 162; refine (HT.out _).mono ?_; rintro e u ⟨rfl, hu⟩; subst u)
    | (go_at_call 157; refine (take_any HG.out HS.out).mono ?_; rintro e u1 ⟨rfl, q⟩; obtain ⟨r1, r2, r3, r4⟩ := HX.out _ _ q; obtain ⟨c0, c1, c2, c3⟩ := insO_cells r1; have d0 := place_at q; have d1 := q.free 22; have d2 := q.ltB; have G1 := Lib.hid q; clear q r1 r2 r3 r4))
  go_end0
  exact ⟨rfl, (HX.out _ _ G1.out).2.2.2⟩
set_option maxHeartbeats 600000 in
set_option maxRecDepth 100000 in
theorem move_13y (h : Gm W F0 b K w m) (n : Int) (x : Nat) {y : Nat} {s : List Nat} (hs : m.st = y :: s) (ht : trueB y = true) : Calls Tryz.prog 143 #[.pointer (some ⟨b, 0, none⟩), .agg #[.int .i64 13, .int .i64 n, .float .f64 x]] w fun r w' => r = .returned (.tuple #[]) ∧ Gm W F0 b K w' { m with st := s } := by
  obtain ⟨F, h1, hX⟩ := h.enter (insO ⟨13, n, x⟩)
  have HG := Lib.hid h1
  have HX := Lib.hid hX
  have HS := Lib.hid hs
  have HT : Hid (∀ w, _) := fun w => true_any y w
  rw [ht] at HT
  clear h h1 hX hs ht
  go_enter Tryz.func143, Tryz.ntmps143
  go_wp2_with (first
    | (go_at_call 162; refine (HT.out _).mono ?_; rintro e u ⟨rfl, hu⟩; subst u)
    | (go_at_call 157; refine (take_any HG.out HS.out).mono ?_; rintro e u1 ⟨rfl, q⟩; obtain ⟨r1, r2, r3, r4⟩ := HX.out _ _ q; obtain ⟨c0, c1, c2, c3⟩ := insO_cells r1; have d0 := place_at q; have d1 := q.free 22; have d2 := q.ltB; have G1 := Lib.hid q; clear q r1 r2 r3 r4))
  go_end0
  exact ⟨rfl, (HX.out _ _ G1.out).2.2.2⟩
set_option maxHeartbeats 600000 in
set_option maxRecDepth 100000 in
theorem move_13n (h : Gm W F0 b K w m) (n : Int) (x : Nat) {y : Nat} {s : List Nat} (hs : m.st = y :: s) (ht : trueB y = false) : Calls Tryz.prog 143 #[.pointer (some ⟨b, 0, none⟩), .agg #[.int .i64 13, .int .i64 n, .float .f64 x]] w fun r w' => r = .returned (.tuple #[]) ∧ Gm W F0 b K w' { m with place := n, st := s } := by
  obtain ⟨F, h1, hX⟩ := h.enter (insO ⟨13, n, x⟩)
  have HG := Lib.hid h1
  have HX := Lib.hid hX
  have HS := Lib.hid hs
  have HT : Hid (∀ w, _) := fun w => true_any y w
  rw [ht] at HT
  clear h h1 hX hs ht
  go_enter Tryz.func143, Tryz.ntmps143
  go_wp2_with (first
    | (go_at_call 162; refine (HT.out _).mono ?_; rintro e u ⟨rfl, hu⟩; subst u)
    | (go_at_call 157; refine (take_any HG.out HS.out).mono ?_; rintro e u1 ⟨rfl, q⟩; obtain ⟨r1, r2, r3, r4⟩ := HX.out _ _ q; obtain ⟨c0, c1, c2, c3⟩ := insO_cells r1; have d0 := place_at q; have d1 := q.free 22; have d2 := q.ltB; have G1 := Lib.hid q; clear q r1 r2 r3 r4))
  go_end0
  exact ⟨rfl, (HX.out _ _ (place_set G1.out n)).2.2.2⟩
set_option maxHeartbeats 600000 in
set_option maxRecDepth 100000 in
theorem move_14 (h : Gm W F0 b K w m) (n : Int) (x : Nat) (hc : m.calls.length < 16) : Calls Tryz.prog 143 #[.pointer (some ⟨b, 0, none⟩), .agg #[.int .i64 14, .int .i64 n, .float .f64 x]] w fun r w' => r = .returned (.tuple #[]) ∧ Gm W F0 b K w' { m with calls := m.place :: m.calls, place := n } := by
  obtain ⟨F, h1, hX⟩ := h.enter (insO ⟨14, n, x⟩)
  have HG := Lib.hid h1
  have HX := Lib.hid hX
  obtain ⟨p, hm, ht, hk⟩ := id h1
  have h21 : (w.alloc (insO ⟨14, n, x⟩)).cell? ⟨b, 21, none⟩ = some (.pointer (some ⟨p.bc, 0, none⟩)) := (hm.cell 21).trans rfl
  have h22 := place_at h1
  have hb := h.ltB
  have hp := hm.cal
  have HP : Hid (∀ q, Calls Tryz.prog 163 #[.pointer (some ⟨p.bc, 0, none⟩), .int .i64 m.place] ((w.alloc (insO ⟨14, n, x⟩)).drewN q) fun e w' => e = .returned (.int .i64 0) ∧ Gm (w.alloc (insO ⟨14, n, x⟩)) F b K w' { m with calls := m.place :: m.calls }) := fun q => by
    refine (iPush_any (hp.same (Same.drewN _ q)) m.place).mono fun e w' ⟨F', he, a1, a2⟩ => ⟨?_, ?_⟩
    · rw [he]
      simp [pushE]
      omega
    · rw [show pushL m.calls.reverse 16 m.place = (m.place :: m.calls).reverse by simp [pushL]; omega] at a1
      obtain ⟨b1, b2⟩ := (hm.same (Same.drewN _ q)).putC a1 a2
      exact ⟨_, b1, (ht.trans ((Same.drewN _ q).turn _)).trans b2, hk⟩
  clear h h1 hX hm ht hk hp hc
  go_enter Tryz.func143, Tryz.ntmps143
  go_wp2
  refine region_tail 8 (by kernel_rfl) ?_
  simp only [List.take_succ_cons, List.take_zero, List.drop_succ_cons, List.drop_zero]
  repeat still_step
  refine wpStill_nil ?_
  go_wp2_with (go_at_call 163; refine (HP.out 1).mono ?_; rintro e u1 ⟨rfl, q⟩; obtain ⟨r1, r2, r3, r4⟩ := HX.out _ _ q; obtain ⟨c0, c1, c2, c3⟩ := insO_cells r1; have d0 := place_at q; have d1 := q.free 22; have d2 := q.ltB; have G1 := Lib.hid q; clear q r1 r2 r3 r4 HP)
  go_end0
  exact ⟨rfl, (HX.out _ _ (place_set G1.out n)).2.2.2⟩
end
end Go.Proofs.YtaliehikdidiaaaGreatDoor
namespace Go.Proofs.YtaliehikdidiaaaGreatDoor
open Go.ChangeShapes Go.WideShapes Go.ChangeAt Go.RowKit Num
attribute [local go_sem] run_store_float

section
variable {W w : World} {b : Nat} {F0 K : List Nat} {m : Mac}
set_option maxHeartbeats 600000 in
set_option maxRecDepth 100000 in
theorem reckon_8 (h : Gm W F0 b K w m) (n : Int) (x : Nat) {k y : Nat} {s : List Nat} (hn : n = (k : Int)) (h0 : k < 8) (hs : m.st = y :: s) : Calls Tryz.prog 144 #[.pointer (some ⟨b, 0, none⟩), .agg #[.int .i64 8, .int .i64 n, .float .f64 x]] w fun r w' => r = .returned (.tuple #[]) ∧ Gm W F0 b K w' { m with loc := updF m.loc k y, st := s } := by
  obtain ⟨F, h1, hX⟩ := h.enter (insO ⟨8, n, x⟩)
  have HG := Lib.hid h1
  have HX := Lib.hid hX
  subst hn
  have HS := Lib.hid hs
  have H0 := Lib.hid h0
  have hb := h.ltB
  have hk8 : (k : Int) < 8 := by omega
  clear h h1 hX hs h0
  go_enter Tryz.func144, Tryz.ntmps144
  go_wp2
  go_region_held (fun w' => w'.cell? ⟨w.heap.size, 1, none⟩ = some (.int .i64 (k : Int))) (first | go_keep | assumption) (first
    | (go_at_call 157; refine (take_any (HG.out.drewN 1) HS.out).mono ?_; rintro e u1 ⟨rfl, q⟩; obtain ⟨r1, r2, r3, r4⟩ := HX.out _ _ q; obtain ⟨c0, c1, c2, c3⟩ := insO_cells r1; have d0 := loc_at q H0.out; have c9 : (u1.setCell ⟨b, 12 + k, none⟩ (.float .f64 y)).cell? ⟨w.heap.size, 1, none⟩ = some (.int .i64 (k : Int)) := (World.cell?_of_block (a := ⟨w.heap.size, 1, none⟩) (heap_setCell_other _ _ _ _ (by simp; omega))).trans c1; have d1 := q.free (12 + k); have d2 := q.ltB; have G1 := Lib.hid q; clear q r1 r2 r3 r4))
  all_goals (try go_wp2)
  all_goals go_end0
  all_goals exact ⟨rfl, (HX.out _ _ (loc_set G1.out H0.out y)).2.2.2⟩
set_option maxHeartbeats 600000 in
set_option maxRecDepth 100000 in
theorem reckon_9 (h : Gm W F0 b K w m) (n : Int) (x : Nat) {y : Nat} {s : List Nat} (hn : 1 ≤ n ∧ n ≤ 8) (hy : okN y) (hs : m.st = y :: s) (hl : s.length < 64) : Calls Tryz.prog 144 #[.pointer (some ⟨b, 0, none⟩), .agg #[.int .i64 9, .int .i64 n, .float .f64 x]] w fun r w' => r = .returned (.tuple #[]) ∧ Gm W F0 b K w' { m with st := oneV n y :: s } := by
  obtain ⟨F, h1, hX⟩ := h.enter (insO ⟨9, n, x⟩)
  have HG := Lib.hid h1
  have HX := Lib.hid hX
  have HS := Lib.hid hs
  have HN := Lib.hid (And.intro hn (And.intro hy hl))
  have hb := h.ltB
  clear h h1 hX hs hn hy hl
  go_enter Tryz.func144, Tryz.ntmps144
  go_wp2
  go_region_held (fun w' => w'.cell? ⟨w.heap.size, 1, none⟩ = some (.int .i64 n)) (go_keep) (first
    | (go_at_call 164; refine (one_any HN.out.1 HN.out.2.1 _).mono ?_; rintro e u2 ⟨rfl, q⟩; have q2 := G1.out.on q; obtain ⟨r1, r2, r3, r4⟩ := HX.out _ _ q2; obtain ⟨e0, e1, e2, e3⟩ := insO_cells r1; have G2 := Lib.hid q2; clear q q2 r1 r2 r3 r4)
    | (go_at_call 157; refine (take_any (HG.out.drewN 1) HS.out).mono ?_; rintro e u1 ⟨rfl, q⟩; obtain ⟨r1, r2, r3, r4⟩ := HX.out _ _ q; obtain ⟨c0, c1, c2, c3⟩ := insO_cells r1; have G1 := Lib.hid q; clear q r1 r2 r3 r4))
  all_goals go_wp2_with (go_at_call 146; refine (lay_any G2.out _ HN.out.2.2).mono ?_; rintro e u3 ⟨rfl, q⟩; have G3 := Lib.hid q; clear q)
  all_goals go_end0
  all_goals exact ⟨rfl, (HX.out _ _ G3.out).2.2.2⟩
set_option maxHeartbeats 600000 in
set_option maxRecDepth 100000 in
theorem reckon_10 (h : Gm W F0 b K w m) (n : Int) (x : Nat) {y z : Nat} {s : List Nat} (hn : 1 ≤ n ∧ n ≤ 12) (hy : okN y) (hz : okN z) (hs : m.st = y :: z :: s) (hl : s.length < 64) : Calls Tryz.prog 144 #[.pointer (some ⟨b, 0, none⟩), .agg #[.int .i64 10, .int .i64 n, .float .f64 x]] w fun r w' => r = .returned (.tuple #[]) ∧ Gm W F0 b K w' { m with st := twoV n z y :: s } := by
  obtain ⟨F, h1, hX⟩ := h.enter (insO ⟨10, n, x⟩)
  have HG := Lib.hid h1
  have HX := Lib.hid hX
  have HS := Lib.hid hs
  have HN := Lib.hid (And.intro hn (And.intro hy (And.intro hz hl)))
  have hb := h.ltB
  clear h h1 hX hs hn hy hz hl
  go_enter Tryz.func144, Tryz.ntmps144
  go_wp2_with (first
    | (go_at_call 146; refine (lay_any G3.out _ HN.out.2.2.2).mono ?_; rintro e u4 ⟨rfl, q⟩; have G4 := Lib.hid q; clear q)
    | (go_at_call 165; refine (two_any HN.out.1 HN.out.2.2.1 HN.out.2.1 _).mono ?_; rintro e u3 ⟨rfl, q⟩; have G3 := Lib.hid (G2.out.on q); clear q)
    | (go_at_call 157; refine (take_any G1.out rfl).mono ?_; rintro e u2 ⟨rfl, q⟩; obtain ⟨r1, r2, r3, r4⟩ := HX.out _ _ q; obtain ⟨c0, c1, c2, c3⟩ := insO_cells r1; have G2 := Lib.hid q; clear q r1 r2 r3 r4)
    | (go_at_call 157; refine (take_any HG.out HS.out).mono ?_; rintro e u_G1 ⟨rfl, q⟩; have G1 := Lib.hid q; clear q))
  go_end0
  exact ⟨rfl, (HX.out _ _ G4.out).2.2.2⟩
end
end Go.Proofs.YtaliehikdidiaaaGreatDoor
namespace Go.Proofs.YtaliehikdidiaaaGreatDoor
open Go.ChangeShapes Go.WideShapes Go.ChangeAt Go.RowKit Num
attribute [local go_sem] run_store_float

theorem at_of {v : Value} {g n c H B : Nat} (h : v.ownBlock = some g ∨ g = H) (hB : B ≤ H) : (Value.slice (some ⟨g, 0, none⟩) n c).ownBlock = v.ownBlock ∨ ∃ s, (Value.slice (some ⟨g, 0, none⟩) n c).ownBlock = some s ∧ B ≤ s := by
  rcases h with h | h
  · exact .inl h.symm
  · exact .inr ⟨g, rfl, by omega⟩
section
variable {W w : World} {b : Nat} {F0 K : List Nat} {m : Mac}
set_option maxRecDepth 100000 in
theorem take_at {p : Pt} (hm : MacAt w b m p) {x : Nat} {s : List Nat} (hs : m.st = x :: s) : Calls Tryz.prog 157 #[.pointer (some ⟨b, 0, none⟩)] w fun e w' => ∃ F', e = .returned (.float .f64 x) ∧ MacAt w' b { m with st := s } { p with Fn := F' } ∧ Turn (p.F b) ({ p with Fn := F' }.F b) w w' := by
  have h20 : w.cell? ⟨b, 20, none⟩ = some (.pointer (some ⟨p.bn, 0, none⟩)) := (hm.cell 20).trans rfl
  have hb := hm.ltB
  have HP := Lib.hid (fPop_some (m := s.reverse) (x := x) (by have := hm.num; rw [hs, List.reverse_cons] at this; exact this))
  have HD : Hid (∀ F' w', NStk w' p.bn F' s.reverse → Turn p.Fn F' w w' → MacAt w' b { m with st := s } { p with Fn := F' } ∧ Turn (p.F b) ({ p with Fn := F' }.F b) w w') := fun F' w' q1 q2 => hm.putN q1 q2
  clear hm
  go_enter Tryz.func157, Tryz.ntmps157
  go_wp2_with (go_at_call 170; refine HP.out.mono ?_; rintro e w1 ⟨F', rfl, q1, q2⟩; have HQ := Lib.hid (HD.out _ _ q1 q2); clear q1 q2 HD HP)
  go_ret
  exact ⟨F', rfl, HQ.out⟩
set_option maxHeartbeats 600000 in
set_option maxRecDepth 100000 in
theorem reckon_18 (h : Gm W F0 b K w m) (n : Int) (x : Nat) {y : Nat} {s : List Nat} (hs : m.st = y :: s) (hl : m.out.length ≤ 1024) : Calls Tryz.prog 144 #[.pointer (some ⟨b, 0, none⟩), .agg #[.int .i64 18, .int .i64 n, .float .f64 x]] w fun r w' => r = .returned (.tuple #[]) ∧ Gm W F0 b K w' { m with out := m.out ++ [y], st := s } := by
  obtain ⟨F, h1, hX⟩ := h.enter (insO ⟨18, n, x⟩)
  have HX := Lib.hid hX
  obtain ⟨p, hm, ht, hk⟩ := h1
  have hb := h.ltB
  have h24 : w.cell? ⟨b, 24, none⟩ = some (.slice p.po m.out.length p.co) := ((below_alloc w (insO ⟨18, n, x⟩)).cell (p := ⟨b, 24, none⟩) hb).symm.trans ((hm.cell 24).trans rfl)
  have HM := Lib.hid (hm.same (Same.drew _))
  have HT : Hid (Turn F (p.F b) (w.alloc (insO ⟨18, n, x⟩)) (w.alloc (insO ⟨18, n, x⟩)).drew ∧ K = fpR p.pk) := ⟨ht.trans ((Same.drew _).turn _), hk⟩
  have HS := Lib.hid (And.intro hs hl)
  obtain ⟨i0, hi, hz0, hz1, hz2⟩ := info_parts fInfo
  have HZI := Lib.hid (And.intro hi (And.intro hz0 (And.intro hz1 hz2)))
  clear h hX hm ht hk hs hl hi hz0 hz1 hz2
  go_enter Tryz.func144, Tryz.ntmps144
  go_wp2
  go_region_law (first
    | (go_simp; go_at_call 157; refine (take_at HM.out HS.out.1).mono ?_; rintro e u1 ⟨F', rfl, q1, q2⟩; have c24 : u1.cell? ⟨b, 24, none⟩ = some (.slice p.po m.out.length p.co) := (q1.cell 24).trans rfl; have f24 := q1.free 24; have l24 := q1.ltB; have HO : Hid ((u1.alloc (.cells #[.float .f64 y] 74)).ownsRow 0 74 1 (.slice p.po m.out.length p.co) m.out.length (fls m.out)) := World.ownsRow.alloc (by have := q1.out.own; rw [fls_len] at this; exact this) _; have G1 := Lib.hid (And.intro q1 q2); clear q1 q2)
    | (refine step_append_lies _ (by rfl) _ _ _ (by rfl) 0 74 i0 (.float .f64 0) 1 8 Tryz.underlying44 HZI.out.1 HZI.out.2.1 HZI.out.2.2.1 HZI.out.2.2.2 rfl (by omega) _ m.out.length (fls m.out) (by rfl) HO.out ⟨u1.heap.size, 0, none⟩ 1 1 [.float .f64 y] (by rfl) (by rfl) (cell_one_new _ _ _) (by simp [Value.oneCell']) (by omega) (by have := HS.out.2; unfold maxLen; omega) (by have := HS.out.2; omega) (by omega) (u1.heap.size + 1) (by simp) ?_; intro g5 cap5 w5 hown5 hgrow5 hat5 hlt5; obtain ⟨p5, c5, e5, b5, k5, t5⟩ := G1.out.1.putO hown5 ((World.grownBy_alloc u1 _ _).trans hgrow5) (at_of hat5 (by omega)); have c25 : w5.cell? ⟨b, 24, none⟩ = some (.slice p.po m.out.length p.co) := (cell_of_row w5 b 24 _ _ _ b5).trans rfl; have f25 := frozen_of_row w5 b 24 _ _ b5; have l25 := lt_of_block b5; have G5 := Lib.hid (And.intro k5 t5); clear e5 b5 k5 t5 hown5 hgrow5 hat5 hlt5))
  all_goals (try go_wp2)
  all_goals go_end0
  all_goals exact ⟨rfl, (HX.out _ _ ⟨_, G5.out.1, (HT.out.1.trans G1.out.2).trans G5.out.2, HT.out.2⟩).2.2.2⟩
end
end Go.Proofs.YtaliehikdidiaaaGreatDoor
namespace Go.Proofs.YtaliehikdidiaaaGreatDoor
open Go.ChangeShapes Go.WideShapes Go.ChangeAt Go.RowKit Num
attribute [local go_sem] run_store_float

/-- where an answer's box lies, ahead of and behind a call -/
abbrev askO (k : Ask) : Obj := .cells #[.int .i64 k.kind, .int .i64 k.cell, .float .f64 k.x, .bool k.first] 141
theorem askO_cells {w : World} {g : Nat} {k : Ask} (h : w.heap[g]? = some (askO k)) : (w.cell? ⟨g, 0, none⟩ = some (.int .i64 k.kind) ∧ w.cell? ⟨g, 1, none⟩ = some (.int .i64 k.cell) ∧ w.cell? ⟨g, 2, none⟩ = some (.float .f64 k.x) ∧ w.cell? ⟨g, 3, none⟩ = some (.bool k.first) ∧ g < w.heap.size) ∧ w.frozen? ⟨g, 0, none⟩ = false ∧ w.frozen? ⟨g, 1, none⟩ = false ∧ w.frozen? ⟨g, 2, none⟩ = false ∧ w.frozen? ⟨g, 3, none⟩ = false :=
  ⟨⟨by rw [cell_of_row w g 0 _ _ _ h]; rfl, by rw [cell_of_row w g 1 _ _ _ h]; rfl, by rw [cell_of_row w g 2 _ _ _ h]; rfl, by rw [cell_of_row w g 3 _ _ _ h]; rfl, lt_of_block h⟩, frozen_of_row w g 0 _ _ h, frozen_of_row w g 1 _ _ h, frozen_of_row w g 2 _ _ h, frozen_of_row w g 3 _ _ h⟩
/-- an answer stored where another one stood -/
theorem askO_set {w : World} {g : Nat} {k k' : Ask} (h : w.heap[g]? = some (askO k)) : ((((w.setCell ⟨g, 0, none⟩ (.int .i64 k'.kind)).setCell ⟨g, 1, none⟩ (.int .i64 k'.cell)).setCell ⟨g, 2, none⟩ (.float .f64 k'.x)).setCell ⟨g, 3, none⟩ (.bool k'.first)).heap[g]? = some (askO k') := by
  have e1 := heap_setCell_same w g 0 _ _ (.int .i64 k'.kind) h
  have e2 := heap_setCell_same _ g 1 _ _ (.int .i64 k'.cell) e1
  have e3 := heap_setCell_same _ g 2 _ _ (.float .f64 k'.x) e2
  exact (heap_setCell_same _ g 3 _ _ (.bool k'.first) e3).trans rfl
section
variable {W w : World} {b : Nat} {F0 K : List Nat} {m : Mac}
/-- in a callee that boxes its answer at g -/
theorem Gm.leave (h : Gm W F0 b K w m) (o : Obj) {g : Nat} (hg : g = w.heap.size) : ∃ F, Gm (w.alloc o) F b K (w.alloc o) m ∧ ∀ w' m', Gm (w.alloc o) F b K w' m' → w'.heap[g]? = some o ∧ ∀ w'', Turn [g] [g] w' w'' → Gm W F0 b K w'' m' := by
  subst hg
  obtain ⟨F, hM, hT⟩ := h.mc
  refine ⟨F, (hM.on (below_alloc w o)).gm, fun w' m' hg => ⟨(hg.far (by simp) (fun q => absurd (hM.blw _ q) (Nat.lt_irrefl _))).trans (heap_alloc_new w o), fun w'' t => ?_⟩⟩
  obtain ⟨p, h1, h2, h3⟩ := hg
  have n1 : w.heap.size ∉ p.F b := fun q => (h2.own _ q).elim (fun z => absurd (hM.blw _ z) (Nat.lt_irrefl _)) (fun z => by simp at z; omega)
  have n2 : w.heap.size ∉ fpR p.pk := fun q => by rw [← h3] at q; exact absurd (hM.blwK _ q) (Nat.lt_irrefl _)
  have a1 : Sep (p.F b) [w.heap.size] := fun k hk q => n1 (by simp at q; rw [← q]; exact hk)
  have a2 : Sep (fpR p.pk) [w.heap.size] := fun k hk q => n2 (by simp at q; rw [← q]; exact hk)
  have hs : w.heap.size ≤ w'.heap.size := Nat.le_trans (by simp) h2.size
  refine ⟨p, h1.keep (t.kept a1 h1.blw) (t.kept a2 h1.ltk), hT.trans ⟨t.os.trans h2.os, t.tape.trans h2.tape, t.output.trans h2.output, Nat.le_trans hs t.size, fun k hk hf => ?_, fun k hk => ?_⟩, h3⟩
  · exact (t.block k (Nat.lt_of_lt_of_le hk hs) (by simp; omega)).trans ((h2.block k (by simp; omega) hf).trans (heap_alloc_old w o hk))
  · exact (h2.own k hk).imp id (fun z => by simp at z; omega)
theorem turn4 (w : World) (g : Nat) (v0 v1 v2 v3 : Value) : Turn [g] [g] w ((((w.setCell ⟨g, 0, none⟩ v0).setCell ⟨g, 1, none⟩ v1).setCell ⟨g, 2, none⟩ v2).setCell ⟨g, 3, none⟩ v3) :=
  (((turn_set w g 0 v0).trans (turn_set _ g 1 v1)).trans (turn_set _ g 2 v2)).trans (turn_set _ g 3 v3)
set_option maxHeartbeats 300000 in
set_option maxRecDepth 100000 in
theorem ret_end (h : Gm W F0 b K w m) (hc : m.calls = []) : Calls Tryz.prog 142 #[.pointer (some ⟨b, 0, none⟩)] w fun r w' => r = .returned (askV askEnd) ∧ Gm W F0 b K w' { m with how := 1, cod := 0, err := 0 } := by
  obtain ⟨F, h1, hX⟩ := h.leave (askO ask0) rfl
  obtain ⟨p, hm, ht, hk⟩ := id h1
  have hb := h.ltB
  have h21 : w.cell? ⟨b, 21, none⟩ = some (.pointer (some ⟨p.bc, 0, none⟩)) := ((below_alloc w (askO ask0)).cell (p := ⟨b, 21, none⟩) hb).symm.trans ((hm.cell 21).trans rfl)
  have hp := hm.cal
  rw [hc] at hp
  have HP := Lib.hid (iPop_none hp)
  have HG := Lib.hid h1
  have HX := Lib.hid hX
  clear h h1 hX hm ht hk hp hc
  go_enter Tryz.func142, Tryz.ntmps142
  go_wp2_with (first
    | (go_at_call 125; refine (ends_any HG.out 1 0 0).mono ?_; rintro e u1 ⟨rfl, q⟩; obtain ⟨r1, r2⟩ := HX.out _ _ q; obtain ⟨⟨c0, c1, c2, c3, c4⟩, d0, d1, d2, d3⟩ := askO_cells r1; have G1 := Lib.hid (And.intro r1 r2); clear q r1 r2; unfold askV)
    | (go_at_call 161; refine HP.out.mono ?_; rintro e u ⟨rfl, hu⟩; subst u))
  exact ask_back rfl w.heap.size askEnd rfl (askO_set G1.out.1) rfl ⟨rfl, G1.out.2 _ (turn4 _ _ _ _ _ _)⟩
set_option maxHeartbeats 300000 in
set_option maxRecDepth 100000 in
theorem ret_back (h : Gm W F0 b K w m) {c : Int} {r : List Int} (hc : m.calls = c :: r) : Calls Tryz.prog 142 #[.pointer (some ⟨b, 0, none⟩)] w fun e w' => e = .returned (askV ask0) ∧ Gm W F0 b K w' { m with calls := r, place := c } := by
  obtain ⟨F, h1, hX⟩ := h.leave (askO ask0) rfl
  obtain ⟨p, hm, ht, hk⟩ := id h1
  have hb := h.ltB
  have h21 : w.cell? ⟨b, 21, none⟩ = some (.pointer (some ⟨p.bc, 0, none⟩)) := ((below_alloc w (askO ask0)).cell (p := ⟨b, 21, none⟩) hb).symm.trans ((hm.cell 21).trans rfl)
  have hp := hm.cal
  rw [hc, List.reverse_cons] at hp
  have HP : Hid (Calls Tryz.prog 161 #[.pointer (some ⟨p.bc, 0, none⟩)] (w.alloc (askO ask0)) fun e w' => e = .returned (.tuple #[.int .i64 c, .int .i64 0]) ∧ Gm (w.alloc (askO ask0)) F b K w' { m with calls := r }) := (iPop_some hp).mono fun e w' ⟨F', he, a1, a2⟩ => by
    obtain ⟨b1, b2⟩ := hm.putC a1 a2
    exact ⟨he, _, b1, ht.trans b2, hk⟩
  have HX := Lib.hid hX
  clear h h1 hX hm ht hk hp hc
  go_enter Tryz.func142, Tryz.ntmps142
  go_wp2_with (first
    | (go_at_call 161; refine HP.out.mono ?_; rintro e u1 ⟨rfl, q⟩; have d0 := place_at q; have d1 := q.free 22; have d2 := q.ltB; have q2 := place_set q c; obtain ⟨r1, r2⟩ := HX.out _ _ q2; obtain ⟨⟨c0, c1, c2, c3, c4⟩, e0, e1, e2, e3⟩ := askO_cells r1; have G1 := Lib.hid (And.intro r1 r2); clear q q2 r1 r2 HP))
  exact ask_back rfl w.heap.size ask0 rfl (askO_set (k' := ask0) G1.out.1) rfl ⟨rfl, G1.out.2 _ (turn4 _ _ (.int .i64 0) (.int .i64 0) (.float .f64 0) (.bool false))⟩
end
end Go.Proofs.YtaliehikdidiaaaGreatDoor
namespace Go.Proofs.YtaliehikdidiaaaGreatDoor
open Go.ChangeShapes Go.WideShapes Go.ChangeAt Go.RowKit Num
attribute [local go_sem] run_store_float

/-- what an instruction comes to: it gave up, the machine stands as it stood; or it answered -/
def Done (W : World) (F0 : List Nat) (b : Nat) (K : List Nat) (m : Mac) (res : Mac × Ask) (r : Ending) (w' : World) : Prop :=
  (∃ e, res = failM m e ∧ r = gaveM e ∧ Gm W F0 b K w' m) ∨ (r = .returned (askV res.2) ∧ Gm W F0 b K w' res.1)
section
variable {W w : World} {b : Nat} {F0 K : List Nat} {m : Mac}
theorem Gm.buf (h : Gm W F0 b K w m) : ∃ bw Fw, w.cell? ⟨b, 26, none⟩ = some (.pointer (some ⟨bw, 0, none⟩)) ∧ Buf w bw Fw m.wmax m.buf ∧ ∀ w' l F', Buf w' bw F' m.wmax l → Turn Fw F' w w' → Gm W F0 b K w' { m with buf := l } := by
  obtain ⟨p, hm, ht, hk⟩ := h
  refine ⟨p.bw, p.Fw, (hm.cell 26).trans rfl, hm.wri, fun w' l F' h1 h2 => ?_⟩
  obtain ⟨a1, a2⟩ := hm.putW h1 h2
  exact ⟨_, a1, ht.trans a2, hk⟩
theorem address_yes (h : Gm W F0 b K w m) (hs : 0 < m.st.length) (ha : addrB m = true) : Calls Tryz.prog 156 #[.pointer (some ⟨b, 0, none⟩)] w fun r w' => r = .returned (.int .i64 (addrV m)) ∧ Same w w' :=
  (address_any h hs).mono fun _ _ ⟨a1, a2⟩ => ⟨by rw [a1, ha]; rfl, a2⟩
theorem address_no (h : Gm W F0 b K w m) (hs : 0 < m.st.length) (ha : addrB m = false) : Calls Tryz.prog 156 #[.pointer (some ⟨b, 0, none⟩)] w fun r w' => r = gaveM 50 ∧ Same w w' :=
  (address_any h hs).mono fun _ _ ⟨a1, a2⟩ => ⟨by rw [a1, ha]; rfl, a2⟩
/-- it waits from now on -/
theorem Gm.waits (h : Gm W F0 b K w m) (c : Int) (hc : 0 ≤ c) : Gm W F0 b K ((w.setCell ⟨b, 27, none⟩ (.bool true)).setCell ⟨b, 28, none⟩ (.int .i64 c)) { m with wait := c } := by
  obtain ⟨p, h1, h2, h3⟩ := h
  have t := (turn_set w b 27 (.bool true)).trans (turn_set _ b 28 (.int .i64 c))
  have kk := h1.others (i := 0) t
  refine ⟨{ p with wt := c }, ⟨?_, h1.num.keep (kk 1 (by omega)), h1.cal.keep (kk 2 (by omega)), h1.wri.keep (kk 3 (by omega)), h1.out.keep (kk 4 (by omega)), h1.rds.keep (kk 5 (by omega)), h1.cod.keep (kk 6 (by omega)), h1.ltk' t.size, fun _ => rfl, h1.apart⟩, h2.trans (Turn.part (L := p.own b) (i := 0) t), h3⟩
  have e1 := heap_setCell_same w b 27 _ _ (.bool true) h1.box
  refine (heap_setCell_same _ b 28 _ _ (.int .i64 c) e1).trans ?_
  unfold boxV
  rw [decide_eq_true hc]
  rfl
theorem idx_wf (y : Nat) {n : Int} (hn : n ≤ 256) (h : idxB y n = true) : 0 ≤ idxV y n ∧ idxV y n < n ∧ (Lit.int .i64 (idxV y n)).wf = true := by
  have h2 : (truncN y : Int) < n := by
    unfold idxB at h
    simp only [Bool.and_eq_true, decide_eq_true_eq] at h
    exact h.2
  unfold idxV
  rw [if_pos h]
  refine ⟨by omega, h2, ?_⟩
  have m1 : IntKind.i64.min = -9223372036854775808 := by decide
  have m2 : IntKind.i64.max = 9223372036854775807 := by decide
  simp [Lit.wf]
  omega
set_option maxHeartbeats 400000 in
set_option maxRecDepth 100000 in
theorem read_no (h : Gm W F0 b K w m) (hs : 0 < m.st.length) (ha : addrB m = false) : Calls Tryz.prog 140 #[.pointer (some ⟨b, 0, none⟩)] w fun r w' => r = gaveM 50 ∧ Gm W F0 b K w' m := by
  have HG := Lib.hid (h.alloc (askO ask0))
  have HA := Lib.hid (address_no (h.alloc (askO ask0)) hs ha)
  clear h hs ha
  go_enter Tryz.func140, Tryz.ntmps140
  go_wp2_with (go_at_call 156; refine HA.out.mono ?_; rintro e u ⟨rfl, q⟩; have HQ := Lib.hid (HG.out.same q); clear q)
  exact ⟨rfl, rfl, HQ.out⟩
theorem wait_at (h : Gm W F0 b K w m) : w.cell? ⟨b, 27, none⟩ = some (.bool (decide (0 ≤ m.wait))) ∧ ∃ z, w.cell? ⟨b, 28, none⟩ = some (.int .i64 z) := by
  obtain ⟨p, hm, _, _⟩ := h
  exact ⟨(hm.cell 27).trans rfl, p.wt, (hm.cell 28).trans rfl⟩
theorem upd_at (h : Gm W F0 b K w m) : w.cell? ⟨b, 2, none⟩ = some (.bool m.upd) := by
  obtain ⟨p, hm, _, _⟩ := h
  exact (hm.cell 2).trans rfl
set_option maxHeartbeats 400000 in
set_option maxRecDepth 100000 in
theorem read_own (h : Gm W F0 b K w m) {y : Nat} {s : List Nat} (hs : m.st = y :: s) (hl : s.length < 64) (hr : m.reads.length ≤ 1024) (hcl : m.cells ≤ 256) (ha : addrB m = true) (hh : hasC m.buf (addrV m) = true) : Calls Tryz.prog 140 #[.pointer (some ⟨b, 0, none⟩)] w fun r w' => r = .returned (askV (readM m).2) ∧ Gm W F0 b K w' (readM m).1 := by
  have e : readM m = (hasRead { m with st := s } (addrV m) (getC m.buf (addrV m)), ⟨2, addrV m, getC m.buf (addrV m), false⟩) := by unfold readM; rw [ha, hh, hs]; rfl
  rw [e]
  obtain ⟨F, h1, hX⟩ := h.leave (askO ask0) rfl
  have HG := Lib.hid h1
  have HX := Lib.hid hX
  have HA := Lib.hid (address_yes h1 (by rw [hs]; simp) ha)
  have HW : Hid ((Lit.int .i64 (addrV m)).wf = true) := (idx_wf _ hcl ha).2.2
  have HS := Lib.hid (And.intro hs (And.intro hl hr))
  clear h h1 hX hs hl hr e hcl ha
  generalize addrV m = c at *
  go_enter Tryz.func140, Tryz.ntmps140
  go_wp2_with (first
    | (go_at_call 128; refine (hasRead_any G1.out c _ HS.out.2.1 HS.out.2.2).mono ?_; rintro e u3 ⟨rfl, q⟩; obtain ⟨r1, r2⟩ := HX.out _ _ q; obtain ⟨⟨c0, c1, c2, c3, c4⟩, e0, e1, e2, e3⟩ := askO_cells r1; have G3 := Lib.hid (And.intro r1 r2); clear q r1 r2)
    | (go_at_call 158; refine (get_any HBU.out HW.out).mono ?_; rw [hh]; rintro e u ⟨rfl, hu⟩; subst u)
    | (go_at_call 157; refine (take_any G0.out HS.out.1).mono ?_; rintro e u1 ⟨rfl, q⟩; have d1 := q.ltB; obtain ⟨bw, Fw, d0, hbu, _⟩ := q.buf; have HBU := Lib.hid hbu; have G1 := Lib.hid q; clear q hbu)
    | (go_at_call 156; refine HA.out.mono ?_; rintro e u0 ⟨rfl, q⟩; have G0 := Lib.hid (HG.out.same q); clear q))
  exact ask_back rfl w.heap.size ⟨2, c, getC m.buf c, false⟩ rfl (askO_set (k' := ⟨2, c, getC m.buf c, false⟩) G3.out.1) rfl (⟨rfl, G3.out.2 _ (turn4 _ _ (.int .i64 2) (.int .i64 c) (.float .f64 (getC m.buf c)) (.bool false))⟩)
set_option maxHeartbeats 400000 in
set_option maxRecDepth 100000 in
theorem read_wait (h : Gm W F0 b K w m) {y : Nat} {s : List Nat} (hs : m.st = y :: s) (hcl : m.cells ≤ 256) (ha : addrB m = true) (hh : hasC m.buf (addrV m) = false) : Calls Tryz.prog 140 #[.pointer (some ⟨b, 0, none⟩)] w fun r w' => r = .returned (askV (readM m).2) ∧ Gm W F0 b K w' (readM m).1 := by
  have e : readM m = ({ m with st := s, wait := addrV m }, askRead (addrV m)) := by unfold readM; rw [ha, hh, hs]; rfl
  rw [e]
  obtain ⟨F, h1, hX⟩ := h.leave (askO ask0) rfl
  have HG := Lib.hid h1
  have HX := Lib.hid hX
  have HA := Lib.hid (address_yes h1 (by rw [hs]; simp) ha)
  have HW := Lib.hid (idx_wf _ hcl ha)
  change Hid (0 ≤ addrV m ∧ addrV m < m.cells ∧ (Lit.int .i64 (addrV m)).wf = true) at HW
  have HS := Lib.hid hs
  clear h h1 hX hs e hcl ha
  generalize addrV m = c at *
  go_enter Tryz.func140, Tryz.ntmps140
  go_wp2_with (first
    | (go_at_call 123; refine (wants_any G2.out HW.out.1).mono ?_; rintro e u3 ⟨rfl, q⟩; obtain ⟨r1, r2⟩ := HX.out _ _ (G2.out.on q); obtain ⟨⟨c0, c1, c2, c3, c4⟩, e0, e1, e2, e3⟩ := askO_cells r1; have G3 := Lib.hid (And.intro r1 r2); clear q r1 r2; unfold askV askRead)
    | (go_at_call 158; refine (get_any HBU.out HW.out.2.2).mono ?_; rw [hh]; rintro e u ⟨rfl, hu⟩; subst u)
    | (go_at_call 157; refine (take_any G0.out HS.out).mono ?_; rintro e u1 ⟨rfl, q⟩; have d1 := q.ltB; obtain ⟨bw, Fw, d0, hbu, _⟩ := q.buf; have HBU := Lib.hid hbu; obtain ⟨d3, d4⟩ := wait_at q; have d5 := q.free 27; have d6 := q.free 28; have G2 := Lib.hid (q.waits c HW.out.1); obtain ⟨zw, d7⟩ := d4; clear q hbu)
    | (go_at_call 156; refine HA.out.mono ?_; rintro e u0 ⟨rfl, q⟩; have G0 := Lib.hid (HG.out.same q); clear q))
  exact ask_back rfl w.heap.size (askRead c) rfl (askO_set (k' := askRead c) G3.out.1) rfl (⟨rfl, G3.out.2 _ (turn4 _ _ (.int .i64 1) (.int .i64 c) (.float .f64 0) (.bool false))⟩)
set_option maxHeartbeats 400000 in
set_option maxRecDepth 100000 in
theorem write_ro (h : Gm W F0 b K w m) (hu : m.upd = false) : Calls Tryz.prog 141 #[.pointer (some ⟨b, 0, none⟩)] w fun r w' => r = gaveM 81 ∧ Gm W F0 b K w' m := by
  have h2 := upd_at h
  rw [hu] at h2
  have hb := h.ltB
  have HG := Lib.hid (h.alloc (askO ask0))
  clear h hu
  go_enter Tryz.func141, Tryz.ntmps141
  go_wp2_with (go_at_call 145; refine (mustBe_no rfl 81 _).mono ?_; rintro e u ⟨rfl, hu⟩; subst u)
  exact ⟨rfl, rfl, HG.out⟩
set_option maxHeartbeats 400000 in
set_option maxRecDepth 100000 in
theorem write_no (h : Gm W F0 b K w m) (hs : 0 < m.st.length) (hu : m.upd = true) (ha : addrB m = false) : Calls Tryz.prog 141 #[.pointer (some ⟨b, 0, none⟩)] w fun r w' => r = gaveM 50 ∧ Gm W F0 b K w' m := by
  have h2 := upd_at h
  rw [hu] at h2
  have hb := h.ltB
  have HG := Lib.hid (h.alloc (askO ask0))
  have HA := Lib.hid (address_no (h.alloc (askO ask0)) hs ha)
  clear h hu hs ha
  go_enter Tryz.func141, Tryz.ntmps141
  go_wp2_with (first
    | (go_at_call 156; refine HA.out.mono ?_; rintro e u ⟨rfl, q⟩; have HQ := Lib.hid (HG.out.same q); clear q)
    | (go_at_call 145; refine (mustBe_yes rfl 81 _).mono ?_; rintro e u ⟨rfl, hu⟩; subst u))
  exact ⟨rfl, rfl, HQ.out⟩
set_option maxHeartbeats 400000 in
set_option maxRecDepth 100000 in
theorem write_full (h : Gm W F0 b K w m) {y z : Nat} {s : List Nat} (hs : m.st = y :: z :: s) (_hz : okN z) (hcl : m.cells ≤ 256) (hu : m.upd = true) (ha : addrB m = true) (hp : mayP m.wmax m.buf (addrV m) = false) : Calls Tryz.prog 141 #[.pointer (some ⟨b, 0, none⟩)] w fun r w' => r = gaveM 70 ∧ Gm W F0 b K w' m := by
  have h2 := upd_at h
  rw [hu] at h2
  have hb := h.ltB
  obtain ⟨F, h1, hX⟩ := h.leave (askO ask0) rfl
  have HG := Lib.hid h1
  have HX := Lib.hid hX
  have HA := Lib.hid (address_yes h1 (by rw [hs]; simp) ha)
  have HW := Lib.hid (idx_wf _ hcl ha)
  change Hid (0 ≤ addrV m ∧ addrV m < m.cells ∧ (Lit.int .i64 (addrV m)).wf = true) at HW
  have HS := Lib.hid hs
  have HK : Hid (∀ u, Gm (w.alloc (askO ask0)) F b K u m → Calls Tryz.prog 159 #[.pointer (some ⟨b, 0, none⟩), .int .i64 1] u fun e u' => e = .returned (.float .f64 z) ∧ ∃ q, u' = u.drewN q) := fun u hg => by
    have := pick_any hg 1 (by rw [hs]; simp)
    rw [hs] at this
    exact this
  have HE : Hid (putE m.wmax m.buf (addrV m) = 70 ∧ putL m.wmax m.buf (addrV m) z = m.buf) := by unfold putE putL; rw [hp]; exact ⟨rfl, rfl⟩
  clear h h1 hX hs hcl ha hu hp
  generalize addrV m = c at *
  go_enter Tryz.func141, Tryz.ntmps141
  go_wp2_with (first
    | (have t3 := G3.out; clear t3; go_at_call 145; refine (mustBe_no (by first | (simp; done) | rfl) 70 _).mono ?_; rintro e u ⟨rfl, hu⟩; subst u)
    | (go_at_call 160; refine (put_any HBU.out HW.out.2.2 z).mono ?_; rw [HE.out.1, HE.out.2]; rintro e u3 ⟨F', rfl, a1, a2⟩; have G3 := Lib.hid (HBT.out _ _ _ a1 a2); clear a1 a2)
    | (go_at_call 159; refine (HK.out _ G0.out).mono ?_; rintro e u1 ⟨rfl, q, hq⟩; subst u1; have q1 := G0.out.drewN q; have d1 := q1.ltB; obtain ⟨bw, Fw, d0, hbu, hbt⟩ := q1.buf; have HBU := Lib.hid hbu; have HBT := Lib.hid hbt; clear q1 hbu hbt)
    | (go_at_call 156; refine HA.out.mono ?_; rintro e u0 ⟨rfl, q⟩; have G0 := Lib.hid (HG.out.same q); clear q)
    | (go_at_call 145; refine (mustBe_yes rfl 81 _).mono ?_; rintro e u ⟨rfl, hu⟩; subst u; have T1 := Lib.hid True.intro))
  exact ⟨rfl, rfl, (HX.out _ _ G3.out).2 _ (Turn.refl _ _)⟩
set_option maxHeartbeats 400000 in
set_option maxRecDepth 100000 in
theorem write_ok (h : Gm W F0 b K w m) {y z : Nat} {s : List Nat} (hs : m.st = y :: z :: s) (hz : okN z) (hcl : m.cells ≤ 256) (hu : m.upd = true) (ha : addrB m = true) (hp : mayP m.wmax m.buf (addrV m) = true) : Calls Tryz.prog 141 #[.pointer (some ⟨b, 0, none⟩)] w fun r w' => r = .returned (askV (writeM m).2) ∧ Gm W F0 b K w' (writeM m).1 := by
  have e : writeM m = ({ m with st := s, buf := putC m.buf (addrV m) z }, ⟨3, addrV m, z, !hasC m.buf (addrV m)⟩) := by unfold writeM; rw [hu, ha, hp, hs]; rfl
  rw [e]
  have h2 := upd_at h
  rw [hu] at h2
  have hb := h.ltB
  obtain ⟨F, h1, hX⟩ := h.leave (askO ask0) rfl
  have HG := Lib.hid h1
  have HX := Lib.hid hX
  have HA := Lib.hid (address_yes h1 (by rw [hs]; simp) ha)
  have HW := Lib.hid (idx_wf _ hcl ha)
  change Hid (0 ≤ addrV m ∧ addrV m < m.cells ∧ (Lit.int .i64 (addrV m)).wf = true) at HW
  have HS := Lib.hid hs
  have HK : Hid (∀ u, Gm (w.alloc (askO ask0)) F b K u m → Calls Tryz.prog 159 #[.pointer (some ⟨b, 0, none⟩), .int .i64 1] u fun e u' => e = .returned (.float .f64 z) ∧ ∃ q, u' = u.drewN q) := fun u hg => by
    have := pick_any hg 1 (by rw [hs]; simp)
    rw [hs] at this
    exact this
  have HE : Hid (putE m.wmax m.buf (addrV m) = 0 ∧ putF m.wmax m.buf (addrV m) = (!hasC m.buf (addrV m)) ∧ putL m.wmax m.buf (addrV m) z = putC m.buf (addrV m) z) := by
    unfold putE putF putL
    rw [hp, hz.1]
    refine ⟨rfl, ?_, rfl⟩
    unfold mayP at hp
    cases hc : hasC m.buf (addrV m)
    · rw [hc] at hp
      simpa using hp
    · rfl
  clear h h1 hX hs e hcl ha hu hp hz
  generalize addrV m = c at *
  go_enter Tryz.func141, Tryz.ntmps141
  go_wp2_with (first
    | (go_at_call 157; refine (take_any G4.out rfl).mono ?_; rintro e u5 ⟨rfl, q⟩; obtain ⟨r1, r2⟩ := HX.out _ _ q; obtain ⟨⟨c0, c1, c2, c3, c4⟩, e0, e1, e2, e3⟩ := askO_cells r1; have G5 := Lib.hid (And.intro r1 r2); clear q r1 r2)
    | (go_at_call 157; refine (take_any G3.out HS.out).mono ?_; rintro e u4 ⟨rfl, q⟩; have G4 := Lib.hid q; clear q)
    | (have t3 := G3.out; clear t3; go_at_call 145; refine (mustBe_yes (by first | rfl | (simp; done)) 0 _).mono ?_; rintro e u ⟨rfl, hu⟩; subst u)
    | (go_at_call 160; refine (put_any HBU.out HW.out.2.2 z).mono ?_; rw [HE.out.1, HE.out.2.1, HE.out.2.2]; rintro e u3 ⟨F', rfl, a1, a2⟩; have G3 := Lib.hid (HBT.out _ _ _ a1 a2); clear a1 a2)
    | (go_at_call 159; refine (HK.out _ G0.out).mono ?_; rintro e u1 ⟨rfl, q, hq⟩; subst u1; have q1 := G0.out.drewN q; have d1 := q1.ltB; obtain ⟨bw, Fw, d0, hbu, hbt⟩ := q1.buf; have HBU := Lib.hid hbu; have HBT := Lib.hid hbt; clear q1 hbu hbt)
    | (go_at_call 156; refine HA.out.mono ?_; rintro e u0 ⟨rfl, q⟩; have G0 := Lib.hid (HG.out.same q); clear q)
    | (go_at_call 145; refine (mustBe_yes rfl 81 _).mono ?_; rintro e u ⟨rfl, hu⟩; subst u; have T1 := Lib.hid True.intro))
  exact ask_back rfl w.heap.size ⟨3, c, z, !hasC m.buf c⟩ rfl (askO_set (k' := ⟨3, c, z, !hasC m.buf c⟩) G5.out.1) rfl (⟨rfl, G5.out.2 _ (turn4 _ _ (.int .i64 3) (.int .i64 c) (.float .f64 z) (.bool (!hasC m.buf c)))⟩)
end
end Go.Proofs.YtaliehikdidiaaaGreatDoor
