import Derived.Test.YtaliehikdidiaaaGreatDoorK3
namespace Go.Proofs.YtaliehikdidiaaaGreatDoor
open Go.ChangeShapes Go.WideShapes Go.ChangeAt Go.RowKit Num
attribute [local go_sem] run_store_float

theorem two_cells (u v : Value) (hu : u.oneCell' = true) (hv : v.oneCell' = true) : ∀ x ∈ [u, v], x.oneCell' = true := by
  intro x hx
  simp at hx
  rcases hx with rfl | rfl
  · exact hu
  · exact hv
theorem follows : Tryz.prog.follows .mixedOrders = true := by kernel_rfl
/-- a region that draws its order, whose first n operations only read, and whose others come in their order -/
theorem region_tail {id : Nat} {Q : Exit → Act → World → Prop} {a : Act} {w : World} {l : List Oper} (n : Nat) (hB : Region.lexTailB .any l.toArray n = true)
    (h : wpStill Tryz.prog l.toArray w.drew (fun a' => wpList Tryz.prog l.toArray Q (l.drop n) a' w.drew) (l.take n) a) : (Code.region id l.toArray true).wp Tryz.prog Q a w := wp_region_still_tail n follows hB h
section
variable {W w : World} {b : Nat} {F0 K : List Nat} {m : Mac}
set_option maxHeartbeats 1000000 in
set_option maxRecDepth 100000 in
theorem hasRead_any (h : Gm W F0 b K w m) (d : Int) (x : Nat) (hs : m.st.length < 64) (hr : m.reads.length ≤ 1024) : Calls Tryz.prog 128 #[.pointer (some ⟨b, 0, none⟩), .int .i64 d, .float .f64 x] w fun e w' => e = .returned (.tuple #[]) ∧ Gm W F0 b K w' (hasRead m d x) := by
  obtain ⟨p, hm, ht, hk⟩ := h
  have h20 : w.cell? ⟨b, 25, none⟩ = some (.slice p.pr m.reads.length p.cr) := (hm.cell 25).trans rfl
  have hb := hm.ltB
  obtain ⟨i0, hi, hz0, hz1, hz2⟩ := info_parts tInfo
  have HZI := Lib.hid (And.intro hi (And.intro hz0 (And.intro hz1 hz2)))
  have HO : Hid (∀ u : World, u.heap = w.heap → u.ownsRow 0 123 2 (.slice p.pr m.reads.length p.cr) m.reads.length (m.reads.flatMap tchC)) := fun u e => owns_heap hm.rds.own e
  have HD : Hid (∀ w3 v o, w3.ownsRow 0 123 2 v (m.reads.length + 1) (m.reads.flatMap tchC ++ [.int .i64 d, .float .f64 x]) → (w.alloc o).grownBy w3 (Value.slice p.pr m.reads.length p.cr).ownBlock → (v.ownBlock = (Value.slice p.pr m.reads.length p.cr).ownBlock ∨ v.ownBlock = some (w.alloc o).heap.size) →
      ∃ p' c', v = .slice p' (m.reads.length + 1) c' ∧ w3.cell? ⟨b, 25, none⟩ = some (.slice p.pr m.reads.length p.cr) ∧ w3.frozen? ⟨b, 25, none⟩ = false ∧ b < w3.heap.size ∧ Gm W F0 b K (w3.setCell ⟨b, 25, none⟩ v) { m with reads := m.reads ++ [(d, x)] }) := fun w3 v o q1 q2 q3 => by
    obtain ⟨p', c', e1, e2, e3, e4⟩ := hm.putR q1 ((World.grownBy_alloc w o _).trans q2) (q3.imp id (fun z => ⟨_, z, by simp⟩))
    exact ⟨p', c', e1, (cell_of_row w3 b 25 _ _ _ e2).trans rfl, frozen_of_row w3 b 25 _ _ e2, lt_of_block e2, _, e3, ht.trans e4, hk⟩
  have HS := Lib.hid (And.intro hs hr)
  clear hm ht hk hi hz0 hz1 hz2 hs hr
  go_enter Tryz.func128, Tryz.ntmps128
  go_wp2_with (first
    | (go_at_call 146; refine (lay_any HG.out x HS.out.1).mono ?_; rintro e w1 ⟨rfl, q1⟩; have HQ := Lib.hid q1; clear q1 HG)
    | (at_builtin; refine wpList_append_own_at _ rfl _ _ 60 rfl 0 123 i0 _ 2 16 Tryz.underlying60 HZI.out.1 HZI.out.2.1 HZI.out.2.2.1 HZI.out.2.2.2 rfl (by decide) _ m.reads.length (m.reads.flatMap tchC) rfl (World.ownsRow.alloc (HO.out _ rfl) _) ⟨w.heap.size, 0, none⟩ 1 1 [.int .i64 d, .float .f64 x] rfl rfl (World.news_of_block (cs := #[.int .i64 d, .float .f64 x]) (t := 123) (fr := (0, 0)) (heap_alloc_new _ _)) (two_cells _ _ rfl rfl) (by have := HS.out; unfold maxLen; omega) (by have := HS.out; omega) (Nat.zero_le _) ?_; intro v w3 hown hgrow hnil hloc; obtain ⟨p', c', hv, k0, kf, kb, hg⟩ := HD.out _ _ _ hown hgrow hloc; subst hv; have HG := Lib.hid hg; clear hown hgrow hnil hloc hg HD))
  go_end0
  exact ⟨rfl, HQ.out⟩
set_option maxHeartbeats 1000000 in
set_option maxRecDepth 100000 in
theorem begin_fuel (h : Gm W F0 b K w m) (hf : ¬ m.used < m.fuel) : Calls Tryz.prog 127 #[.pointer (some ⟨b, 0, none⟩)] w fun r w' => r = gaveM 80 ∧ Below w.heap.size w w' := by
  obtain ⟨p, hm, ht, hk⟩ := h
  have h1 : w.cell? ⟨b, 23, none⟩ = some (.int .i64 m.used) := (hm.cell 23).trans rfl
  have h2 : w.cell? ⟨b, 1, none⟩ = some (.int .i64 m.fuel) := (hm.cell 1).trans rfl
  have hb := hm.ltB
  have HB := Lib.hid (fun x => below_alloc w x)
  clear hm ht hk
  go_enter Tryz.func127, Tryz.ntmps127
  go_wp2
  refine region_tail 9 (by kernel_rfl) ?_
  simp only [List.take_succ_cons, List.take_zero, List.drop_succ_cons, List.drop_zero]
  repeat still_step
  refine wpStill_nil ?_
  go_wp2_with (go_at_call 145; refine (mustBe_no (by simpa using hf) 80 _).mono ?_; rintro e w1 ⟨rfl, hw⟩; subst w1)
  exact ⟨rfl, rfl, (HB.out _).trans ((Same.drew _).below _)⟩
set_option maxHeartbeats 1000000 in
set_option maxRecDepth 100000 in
theorem begin_far (h : Gm W F0 b K w m) (hf : m.used < m.fuel) (hp : ¬ m.place < (m.code.length : Int)) : Calls Tryz.prog 127 #[.pointer (some ⟨b, 0, none⟩)] w fun r w' => r = gaveM 50 ∧ Below w.heap.size w w' := by
  obtain ⟨p, hm, ht, hk⟩ := h
  have h1 : w.cell? ⟨b, 23, none⟩ = some (.int .i64 m.used) := (hm.cell 23).trans rfl
  have h2 : w.cell? ⟨b, 1, none⟩ = some (.int .i64 m.fuel) := (hm.cell 1).trans rfl
  have h3 : w.cell? ⟨b, 22, none⟩ = some (.int .i64 m.place) := (hm.cell 22).trans rfl
  have h4 : w.cell? ⟨b, 3, none⟩ = some (.slice p.pk m.code.length p.ck) := (hm.cell 3).trans rfl
  have hb := hm.ltB
  have HB : Hid (∀ x n, Below w.heap.size w ((w.alloc x).drewN n)) := fun x n => (below_alloc w x).trans ((Same.drewN _ n).below _)
  clear hm ht hk
  go_enter Tryz.func127, Tryz.ntmps127
  go_wp2
  refine region_tail 9 (by kernel_rfl) ?_
  simp only [List.take_succ_cons, List.take_zero, List.drop_succ_cons, List.drop_zero]
  repeat still_step
  refine wpStill_nil ?_
  go_wp2_with (go_at_call 145; refine (mustBe_yes (by first | rfl | exact decide_eq_true hf) 80 _).mono ?_; rintro e w1 ⟨rfl, hw⟩; subst w1)
  refine region_tail 10 (by kernel_rfl) ?_
  simp only [List.take_succ_cons, List.take_zero, List.drop_succ_cons, List.drop_zero]
  repeat still_step
  refine wpStill_nil ?_
  go_wp2_with (go_at_call 145; refine (mustBe_no (by simpa using hp) 50 _).mono ?_; rintro e w1 ⟨rfl, hw⟩; subst w1)
  exact ⟨rfl, rfl, HB.out _ 2⟩
set_option maxHeartbeats 1000000 in
set_option maxRecDepth 100000 in
theorem begin_ok (h : Gm W F0 b K w m) (hf : m.used < m.fuel) {k : Nat} (hk0 : m.place = (k : Int)) (hp : k < m.code.length) (hb1 : m.used + 1 ≤ 9223372036854775807 ∧ -9223372036854775808 ≤ m.used) (hb2 : k + 1 ≤ 9223372036854775807) : Calls Tryz.prog 127 #[.pointer (some ⟨b, 0, none⟩)] w fun r w' => r = .returned (insV (ci m.code k)) ∧ Gm W F0 b K w' (begM m) := by
  have HG := Lib.hid h
  obtain ⟨p, hm, ht, hk⟩ := h
  have h1 : w.cell? ⟨b, 23, none⟩ = some (.int .i64 m.used) := (hm.cell 23).trans rfl
  have h2 : w.cell? ⟨b, 1, none⟩ = some (.int .i64 m.fuel) := (hm.cell 1).trans rfl
  have h3 : w.cell? ⟨b, 22, none⟩ = some (.int .i64 (k : Int)) := by rw [← hk0]; exact (hm.cell 22).trans rfl
  have h4 : w.cell? ⟨b, 3, none⟩ = some (.slice p.pk m.code.length p.ck) := (hm.cell 3).trans rfl
  obtain ⟨g, off, hpk, hlt, c0, c1, c2⟩ := hm.cod k hp
  rw [hpk] at h4
  have hb := hm.ltB
  have f1 := hm.free 23
  have f2 := hm.free 22
  have HD : Hid (Gm W F0 b K ((w.setCell ⟨b, 23, none⟩ (.int .i64 (m.used + 1))).setCell ⟨b, 22, none⟩ (.int .i64 ((k : Int) + 1))) (begM m)) := by
    have g1 := HG.out.set 23 (.int .i64 (m.used + 1)) { m with used := m.used + 1 } (fun p hp => ⟨p.wt, rfl, hp⟩) ⟨rfl, rfl, rfl, rfl, rfl, rfl, rfl⟩
    rw [← hk0]
    exact g1.set 22 (.int .i64 (m.place + 1)) (begM m) (fun p hp => ⟨p.wt, rfl, hp⟩) ⟨rfl, rfl, rfl, rfl, rfl, rfl, rfl⟩
  have hp1 : (k : Int) < (m.code.length : Int) := by omega
  have HP := Lib.hid hp1
  clear hm ht hk hpk HG hk0
  unfold insV
  generalize (ci m.code k).op = o at *
  generalize (ci m.code k).n = n at *
  generalize (ci m.code k).x = x at *
  go_enter Tryz.func127, Tryz.ntmps127
  go_wp2
  refine region_tail 9 (by kernel_rfl) ?_
  simp only [List.take_succ_cons, List.take_zero, List.drop_succ_cons, List.drop_zero]
  repeat still_step
  refine wpStill_nil ?_
  go_wp2_with (go_at_call 145; refine (mustBe_yes (by first | rfl | exact decide_eq_true hf) 80 _).mono ?_; rintro e w1 ⟨rfl, hw⟩; subst w1)
  refine region_tail 10 (by kernel_rfl) ?_
  simp only [List.take_succ_cons, List.take_zero, List.drop_succ_cons, List.drop_zero]
  repeat still_step
  refine wpStill_nil ?_
  go_wp2_with (go_at_call 145; refine (mustBe_yes (by first | rfl | exact decide_eq_true hp1) 50 _).mono ?_; rintro e w1 ⟨rfl, hw⟩; subst w1)
  go_region
  all_goals (try go_wp2)
  all_goals exact bodyPost_ret (results_cell_row rfl _ _ w.heap.size _ _ _ _ rfl ((heap_alloc_old _ _ (by simp)).trans (heap_new (by simp))) Tryz.underlying90 rfl (by kernel_rfl)) rfl ⟨rfl, ((HD.out.alloc _).alloc _).same (Same.drewN _ 3)⟩
theorem Gm.num {W w : World} {b : Nat} {F0 K : List Nat} {m : Mac} (h : Gm W F0 b K w m) : ∃ bn Fn bc Fc, w.cell? ⟨b, 20, none⟩ = some (.pointer (some ⟨bn, 0, none⟩)) ∧ w.cell? ⟨b, 21, none⟩ = some (.pointer (some ⟨bc, 0, none⟩)) ∧ NStk w bn Fn m.st.reverse ∧ CStk w bc Fc m.calls.reverse := by
  obtain ⟨p, hm, _, _⟩ := h
  exact ⟨p.bn, p.Fn, p.bc, p.Fc, (hm.cell 20).trans rfl, (hm.cell 21).trans rfl, hm.num, hm.cal⟩
/-- the table of the operations is none of the machine's blocks -/
def TabAt (w : World) (F : List Nat) : Prop := Shaped5 w ∧ 1 ∉ F
theorem TabAt.turn {w w' : World} {F F' : List Nat} (h : TabAt w F) (t : Turn F F' w w') : TabAt w' F' := by
  have hlt : 1 < w.heap.size := World.block_lt_of_cell? w _ (h.1.shp 0 (by omega)).1
  have hb := t.block _ hlt h.2
  refine ⟨⟨fun k hk => ?_⟩, fun q => (t.own _ q).elim h.2 (fun z => absurd hlt (Nat.not_lt.2 z))⟩
  obtain ⟨c0, c1, c2, c3, c4, c5⟩ := h.1.shp k hk
  exact ⟨(World.cell?_of_block hb).trans c0, (World.cell?_of_block hb).trans c1, (World.cell?_of_block hb).trans c2, (World.cell?_of_block hb).trans c3, (World.cell?_of_block hb).trans c4, (World.cell?_of_block hb).trans c5⟩
theorem TabAt.on {w w' : World} {F : List Nat} (h : TabAt w F) (k : Below w.heap.size w w') : TabAt w' F := ⟨h.1.on k, h.2⟩
end
end Go.Proofs.YtaliehikdidiaaaGreatDoor
namespace Go.Proofs.YtaliehikdidiaaaGreatDoor
open Go.ChangeShapes Go.WideShapes Go.ChangeAt Go.RowKit Num

section
variable {W w : World} {b : Nat} {F0 K : List Nat} {m : Mac}
theorem takes_le : ∀ k, k < 21 → 0 ≤ (shp k).takes ∧ (shp k).takes ≤ 2 ∧ 0 ≤ (shp k).lays ∧ (shp k).lays ≤ 2 := by decide +kernel
/-- what mustFit wants of a machine -/
structure FitAt (w : World) (b bn bc : Nat) (k : Nat) (n : Int) (x : Nat) (t l : Int) (st : List Nat) (calls : List Int) : Prop where
  lt : b < w.heap.size
  bln : (st.length : Int) ≤ 64
  blc : (calls.length : Int) ≤ 16
  tl : 0 ≤ t ∧ t ≤ 2 ∧ 0 ≤ l ∧ l ≤ 2
  eff : Calls Tryz.prog 151 #[.int .i64 k] (w.alloc (.cells #[.int .i64 k, .int .i64 n, .float .f64 x] 90)) fun e w1 => e = .returned (.tuple #[.int .i64 t, .int .i64 l, .int .i64 0]) ∧ w1.cell? ⟨w.heap.size, 0, none⟩ = some (.int .i64 k) ∧ w1.cell? ⟨w.heap.size, 1, none⟩ = some (.int .i64 n) ∧ w1.cell? ⟨b, 20, none⟩ = some (.pointer (some ⟨bn, 0, none⟩)) ∧ w1.cell? ⟨b, 21, none⟩ = some (.pointer (some ⟨bc, 0, none⟩)) ∧ b < w1.heap.size ∧ w.heap.size < w1.heap.size ∧
    Hid (Below w.heap.size w w1 ∧ ∀ u, Same w1 u → (Calls Tryz.prog 152 #[.pointer (some ⟨bn, 0, none⟩)] u fun e u' => e = .returned (.int .i64 st.length) ∧ u' = u) ∧ (Calls Tryz.prog 153 #[.pointer (some ⟨bn, 0, none⟩)] u fun e u' => e = .returned (.int .i64 64) ∧ u' = u) ∧ (Calls Tryz.prog 154 #[.pointer (some ⟨bc, 0, none⟩)] u fun e u' => e = .returned (.int .i64 calls.length) ∧ u' = u) ∧ (Calls Tryz.prog 155 #[.pointer (some ⟨bc, 0, none⟩)] u fun e u' => e = .returned (.int .i64 16) ∧ u' = u))
theorem fit_at (h : Gm W F0 b K w m) (hT : Shaped5 w) {k : Nat} (n : Int) (x : Nat) (hk : 1 ≤ k ∧ k < 21) : ∃ bn bc, FitAt w b bn bc k n x (shp k).takes (shp k).lays m.st m.calls := by
  obtain ⟨bn, Fn, bc, Fc, h20, h21, hs, hc⟩ := h.num
  have hb := h.ltB
  have hfs := hs.fits.1
  rw [fls_len, List.length_reverse] at hfs
  have hfc := hc.fits.1
  rw [i64s_len, List.length_reverse] at hfc
  refine ⟨bn, bc, hb, hfs, hfc, takes_le k hk.2, ?_⟩
  have hbx := heap_alloc_new w (.cells #[.int .i64 k, .int .i64 n, .float .f64 x] 90)
  refine (effect_some k _ (hT.on (below_alloc w _)) hk.2 hk.1).mono fun e w1 ⟨he, hsm⟩ => ⟨he, ?_⟩
  have hB : Below w.heap.size w w1 := (below_alloc w _).trans (hsm.below _)
  have hx1 : w1.heap[w.heap.size]? = _ := (by rw [hsm.heap] : w1.heap[w.heap.size]? = _).trans hbx
  obtain ⟨c0, c1, _, c3⟩ := cells3_of hx1
  refine ⟨c0, c1, (hB.cell (p := ⟨b, 20, none⟩) hb).trans h20, (hB.cell (p := ⟨b, 21, none⟩) hb).trans h21, Nat.lt_of_lt_of_le hb hB.size, c3, hB, fun u hu => ?_⟩
  have a1 := (hs.on hB).same hu
  have a2 := (hc.on hB).same hu
  have l1 := fLen_any a1
  have l2 := iLen_any a2
  rw [List.length_reverse] at l1 l2
  exact ⟨l1, fRoom_any a1, l2, iRoom_any a2⟩
set_option maxHeartbeats 600000 in
set_option maxRecDepth 100000 in
theorem fit_5 {bn bc : Nat} {n : Int} {x : Nat} {t l : Int} {st : List Nat} {calls : List Int} (h : FitAt w b bn bc 5 n x t l st calls) (hn : 0 ≤ n ∧ n ≤ 63) (h1 : n + 1 ≤ (st.length : Int)) (h2 : (st.length : Int) - t + l ≤ 64) : Calls Tryz.prog 139 #[.pointer (some ⟨b, 0, none⟩), .agg #[.int .i64 5, .int .i64 n, .float .f64 x]] w fun r w' => r = .returned (.tuple #[]) ∧ Below w.heap.size w w' := by
  have HE := Lib.hid h.eff
  have hb := h.lt
  obtain ⟨t0, t2, l0, l2⟩ := h.tl
  have s0 := h.bln
  have s1 := h.blc
  clear h
  go_enter Tryz.func139, Tryz.ntmps139
  go_wp2_with (first
    | (go_at_call 145; refine (mustBe_yes (by first | rfl | (simp; omega)) 82 _).mono ?_; rintro e u ⟨rfl, hu⟩; subst u)
    | (go_at_call 153; refine (HF.out.2 _ (Same.refl _)).2.1.mono ?_; rintro e u ⟨rfl, hu⟩; subst u)
    | (go_at_call 152; refine (HF.out.2 _ (Same.refl _)).1.mono ?_; rintro e u ⟨rfl, hu⟩; subst u)
    | (go_at_call 151; refine HE.out.mono ?_; rintro e w1 ⟨rfl, c0, c1, c2, c3, c4, c5, HF⟩; clear HE))
  obtain ⟨z, hz, hz14⟩ : ∃ z : Int, ((5 : Nat) : Int) = z ∧ ¬ z = 14 := ⟨5, rfl, by decide⟩
  rw [hz] at c0
  clear hz
  refine region_tail 16 (by kernel_rfl) ?_
  simp only [List.take_succ_cons, List.take_zero, List.drop_succ_cons, List.drop_zero]
  repeat (first | still_step | still_call (HF.out.2 _ (Same.drew _)).2.2.1 | still_call (HF.out.2 _ (Same.drew _)).2.2.2)
  refine wpStill_nil ?_
  go_wp2_with (go_at_call 145; refine (mustBe_yes (by first | rfl | (simp; omega)) 82 _).mono ?_; rintro e u ⟨rfl, hu⟩; subst u)
  go_end0
  exact ⟨rfl, HF.out.1.trans ((Same.drewN _ 1).below _)⟩
set_option maxHeartbeats 600000 in
set_option maxRecDepth 100000 in
theorem fit_14 {bn bc : Nat} {n : Int} {x : Nat} {t l : Int} {st : List Nat} {calls : List Int} (h : FitAt w b bn bc 14 n x t l st calls) (h1 : t ≤ (st.length : Int)) (h2 : (st.length : Int) - t + l ≤ 64) (h3 : (calls.length : Int) < 16) : Calls Tryz.prog 139 #[.pointer (some ⟨b, 0, none⟩), .agg #[.int .i64 14, .int .i64 n, .float .f64 x]] w fun r w' => r = .returned (.tuple #[]) ∧ Below w.heap.size w w' := by
  have HE := Lib.hid h.eff
  have hb := h.lt
  obtain ⟨t0, t2, l0, l2⟩ := h.tl
  have s0 := h.bln
  have s1 := h.blc
  clear h
  go_enter Tryz.func139, Tryz.ntmps139
  go_wp2_with (first
    | (go_at_call 145; refine (mustBe_yes (by first | rfl | (simp; omega)) 82 _).mono ?_; rintro e u ⟨rfl, hu⟩; subst u)
    | (go_at_call 153; refine (HF.out.2 _ (Same.refl _)).2.1.mono ?_; rintro e u ⟨rfl, hu⟩; subst u)
    | (go_at_call 152; refine (HF.out.2 _ (Same.refl _)).1.mono ?_; rintro e u ⟨rfl, hu⟩; subst u)
    | (go_at_call 151; refine HE.out.mono ?_; rintro e w1 ⟨rfl, c0, c1, c2, c3, c4, c5, HF⟩; clear HE))
  refine region_tail 16 (by kernel_rfl) ?_
  simp only [List.take_succ_cons, List.take_zero, List.drop_succ_cons, List.drop_zero]
  repeat (first | still_step | still_call (HF.out.2 _ (Same.drew _)).2.2.1 | still_call (HF.out.2 _ (Same.drew _)).2.2.2)
  refine wpStill_nil ?_
  go_wp2_with (go_at_call 145; refine (mustBe_yes (by first | rfl | (simp; omega)) 82 _).mono ?_; rintro e u ⟨rfl, hu⟩; subst u)
  go_end0
  exact ⟨rfl, HF.out.1.trans ((Same.drewN _ 1).below _)⟩
set_option maxHeartbeats 600000 in
set_option maxRecDepth 100000 in
theorem fit_k {bn bc : Nat} {n : Int} {x : Nat} {t l : Int} {st : List Nat} {calls : List Int} {k : Nat} (h : FitAt w b bn bc k n x t l st calls) (k5 : ¬ (k : Int) = 5) (k14 : ¬ (k : Int) = 14) (h1 : t ≤ (st.length : Int)) (h2 : (st.length : Int) - t + l ≤ 64) : Calls Tryz.prog 139 #[.pointer (some ⟨b, 0, none⟩), .agg #[.int .i64 (k : Int), .int .i64 n, .float .f64 x]] w fun r w' => r = .returned (.tuple #[]) ∧ Below w.heap.size w w' := by
  have HE := Lib.hid h.eff
  have hb := h.lt
  obtain ⟨t0, t2, l0, l2⟩ := h.tl
  have s0 := h.bln
  have s1 := h.blc
  clear h
  go_enter Tryz.func139, Tryz.ntmps139
  go_wp2_with (first
    | (go_at_call 145; refine (mustBe_yes (by first | rfl | (simp; omega)) 82 _).mono ?_; rintro e u ⟨rfl, hu⟩; subst u)
    | (go_at_call 153; refine (HF.out.2 _ (Same.refl _)).2.1.mono ?_; rintro e u ⟨rfl, hu⟩; subst u)
    | (go_at_call 152; refine (HF.out.2 _ (Same.refl _)).1.mono ?_; rintro e u ⟨rfl, hu⟩; subst u)
    | (go_at_call 151; refine HE.out.mono ?_; rintro e w1 ⟨rfl, c0, c1, c2, c3, c4, c5, HF⟩; clear HE))
  refine region_tail 16 (by kernel_rfl) ?_
  simp only [List.take_succ_cons, List.take_zero, List.drop_succ_cons, List.drop_zero]
  repeat (first | still_step | still_call (HF.out.2 _ (Same.drew _)).2.2.1 | still_call (HF.out.2 _ (Same.drew _)).2.2.2)
  refine wpStill_nil ?_
  go_wp2_with (go_at_call 145; refine (mustBe_yes (by first | rfl | (simp; omega)) 82 _).mono ?_; rintro e u ⟨rfl, hu⟩; subst u)
  go_end0
  exact ⟨rfl, HF.out.1.trans ((Same.drewN _ 1).below _)⟩
set_option maxHeartbeats 600000 in
set_option maxRecDepth 100000 in
theorem fit_14no {bn bc : Nat} {n : Int} {x : Nat} {t l : Int} {st : List Nat} {calls : List Int} (h : FitAt w b bn bc 14 n x t l st calls) (h1 : t ≤ (st.length : Int)) (h2 : (st.length : Int) - t + l ≤ 64) (h3 : ¬ (calls.length : Int) < 16) : Calls Tryz.prog 139 #[.pointer (some ⟨b, 0, none⟩), .agg #[.int .i64 14, .int .i64 n, .float .f64 x]] w fun r w' => r = gaveM 82 ∧ Below w.heap.size w w' := by
  have HE := Lib.hid h.eff
  have hb := h.lt
  obtain ⟨t0, t2, l0, l2⟩ := h.tl
  have s0 := h.bln
  have s1 := h.blc
  clear h
  go_enter Tryz.func139, Tryz.ntmps139
  go_wp2_with (first
    | (go_at_call 145; refine (mustBe_yes (by first | rfl | (simp; omega)) 82 _).mono ?_; rintro e u ⟨rfl, hu⟩; subst u)
    | (go_at_call 153; refine (HF.out.2 _ (Same.refl _)).2.1.mono ?_; rintro e u ⟨rfl, hu⟩; subst u)
    | (go_at_call 152; refine (HF.out.2 _ (Same.refl _)).1.mono ?_; rintro e u ⟨rfl, hu⟩; subst u)
    | (go_at_call 151; refine HE.out.mono ?_; rintro e w1 ⟨rfl, c0, c1, c2, c3, c4, c5, HF⟩; clear HE))
  refine region_tail 16 (by kernel_rfl) ?_
  simp only [List.take_succ_cons, List.take_zero, List.drop_succ_cons, List.drop_zero]
  repeat (first | still_step | still_call (HF.out.2 _ (Same.drew _)).2.2.1 | still_call (HF.out.2 _ (Same.drew _)).2.2.2)
  refine wpStill_nil ?_
  go_wp2_with (go_at_call 145; refine (mustBe_no (by first | (simp; done) | rfl | (simp; omega)) 82 _).mono ?_; rintro e u ⟨rfl, hu⟩; subst u)
  exact ⟨rfl, rfl, HF.out.1.trans ((Same.drewN _ 1).below _)⟩
set_option maxHeartbeats 600000 in
set_option maxRecDepth 100000 in
theorem fit_5no {bn bc : Nat} {n : Int} {x : Nat} {t l : Int} {st : List Nat} {calls : List Int} (h : FitAt w b bn bc 5 n x t l st calls) (hn : 0 ≤ n ∧ n ≤ 63) (h1 : ¬ n + 1 ≤ (st.length : Int)) : Calls Tryz.prog 139 #[.pointer (some ⟨b, 0, none⟩), .agg #[.int .i64 5, .int .i64 n, .float .f64 x]] w fun r w' => r = gaveM 82 ∧ Below w.heap.size w w' := by
  have HE := Lib.hid h.eff
  have hb := h.lt
  obtain ⟨t0, t2, l0, l2⟩ := h.tl
  have s0 := h.bln
  have s1 := h.blc
  clear h
  go_enter Tryz.func139, Tryz.ntmps139
  go_wp2_with (first
    | (go_at_call 145; refine (mustBe_no (by first | (simp; done) | rfl | (simp; omega)) 82 _).mono ?_; rintro e u ⟨rfl, hu⟩; subst u)
    | (go_at_call 153; refine (HF.out.2 _ (Same.refl _)).2.1.mono ?_; rintro e u ⟨rfl, hu⟩; subst u)
    | (go_at_call 152; refine (HF.out.2 _ (Same.refl _)).1.mono ?_; rintro e u ⟨rfl, hu⟩; subst u)
    | (go_at_call 151; refine HE.out.mono ?_; rintro e w1 ⟨rfl, c0, c1, c2, c3, c4, c5, HF⟩; clear HE))
  exact ⟨rfl, rfl, HF.out.1⟩
set_option maxHeartbeats 600000 in
set_option maxRecDepth 100000 in
theorem fit_5no2 {bn bc : Nat} {n : Int} {x : Nat} {t l : Int} {st : List Nat} {calls : List Int} (h : FitAt w b bn bc 5 n x t l st calls) (hn : 0 ≤ n ∧ n ≤ 63) (h1 : n + 1 ≤ (st.length : Int)) (h2 : ¬ (st.length : Int) - t + l ≤ 64) : Calls Tryz.prog 139 #[.pointer (some ⟨b, 0, none⟩), .agg #[.int .i64 5, .int .i64 n, .float .f64 x]] w fun r w' => r = gaveM 82 ∧ Below w.heap.size w w' := by
  have HE := Lib.hid h.eff
  have hb := h.lt
  obtain ⟨t0, t2, l0, l2⟩ := h.tl
  have s0 := h.bln
  have s1 := h.blc
  clear h
  go_enter Tryz.func139, Tryz.ntmps139
  go_wp2_with (first
    | (go_at_call 145; refine (mustBe_no (by first | (simp; done) | rfl | (simp; omega)) 82 _).mono ?_; rintro e u ⟨rfl, hu⟩; subst u)
    | (go_at_call 153; refine (HF.out.2 _ (Same.refl _)).2.1.mono ?_; rintro e u ⟨rfl, hu⟩; subst u)
    | (go_at_call 152; refine (HF.out.2 _ (Same.refl _)).1.mono ?_; rintro e u ⟨rfl, hu⟩; subst u)
    | (go_at_call 151; refine HE.out.mono ?_; rintro e w1 ⟨rfl, c0, c1, c2, c3, c4, c5, HF⟩; clear HE))
  exact ⟨rfl, rfl, HF.out.1⟩
set_option maxHeartbeats 600000 in
set_option maxRecDepth 100000 in
theorem fit_kno {bn bc : Nat} {n : Int} {x : Nat} {t l : Int} {st : List Nat} {calls : List Int} {k : Nat} (h : FitAt w b bn bc k n x t l st calls) (k5 : ¬ (k : Int) = 5) (h1 : ¬ t ≤ (st.length : Int)) : Calls Tryz.prog 139 #[.pointer (some ⟨b, 0, none⟩), .agg #[.int .i64 (k : Int), .int .i64 n, .float .f64 x]] w fun r w' => r = gaveM 82 ∧ Below w.heap.size w w' := by
  have HE := Lib.hid h.eff
  have hb := h.lt
  obtain ⟨t0, t2, l0, l2⟩ := h.tl
  have s0 := h.bln
  have s1 := h.blc
  clear h
  go_enter Tryz.func139, Tryz.ntmps139
  go_wp2_with (first
    | (go_at_call 145; refine (mustBe_no (by first | (simp; done) | rfl | (simp; omega)) 82 _).mono ?_; rintro e u ⟨rfl, hu⟩; subst u)
    | (go_at_call 153; refine (HF.out.2 _ (Same.refl _)).2.1.mono ?_; rintro e u ⟨rfl, hu⟩; subst u)
    | (go_at_call 152; refine (HF.out.2 _ (Same.refl _)).1.mono ?_; rintro e u ⟨rfl, hu⟩; subst u)
    | (go_at_call 151; refine HE.out.mono ?_; rintro e w1 ⟨rfl, c0, c1, c2, c3, c4, c5, HF⟩; clear HE))
  exact ⟨rfl, rfl, HF.out.1⟩
set_option maxHeartbeats 600000 in
set_option maxRecDepth 100000 in
theorem fit_kno2 {bn bc : Nat} {n : Int} {x : Nat} {t l : Int} {st : List Nat} {calls : List Int} {k : Nat} (h : FitAt w b bn bc k n x t l st calls) (k5 : ¬ (k : Int) = 5) (h1 : t ≤ (st.length : Int)) (h2 : ¬ (st.length : Int) - t + l ≤ 64) : Calls Tryz.prog 139 #[.pointer (some ⟨b, 0, none⟩), .agg #[.int .i64 (k : Int), .int .i64 n, .float .f64 x]] w fun r w' => r = gaveM 82 ∧ Below w.heap.size w w' := by
  have HE := Lib.hid h.eff
  have hb := h.lt
  obtain ⟨t0, t2, l0, l2⟩ := h.tl
  have s0 := h.bln
  have s1 := h.blc
  clear h
  go_enter Tryz.func139, Tryz.ntmps139
  go_wp2_with (first
    | (go_at_call 145; refine (mustBe_no (by first | (simp; done) | rfl | (simp; omega)) 82 _).mono ?_; rintro e u ⟨rfl, hu⟩; subst u)
    | (go_at_call 153; refine (HF.out.2 _ (Same.refl _)).2.1.mono ?_; rintro e u ⟨rfl, hu⟩; subst u)
    | (go_at_call 152; refine (HF.out.2 _ (Same.refl _)).1.mono ?_; rintro e u ⟨rfl, hu⟩; subst u)
    | (go_at_call 151; refine HE.out.mono ?_; rintro e w1 ⟨rfl, c0, c1, c2, c3, c4, c5, HF⟩; clear HE))
  exact ⟨rfl, rfl, HF.out.1⟩
end
end Go.Proofs.YtaliehikdidiaaaGreatDoor
namespace Go.Proofs.YtaliehikdidiaaaGreatDoor
open Go.ChangeShapes Go.WideShapes Go.ChangeAt Go.RowKit Num
attribute [local go_sem] run_store_float

/-- an instruction's box -/
abbrev insO (i : Ins) : Obj := .cells #[.int .i64 i.op, .int .i64 i.n, .float .f64 i.x] 90
section
variable {W w : World} {b : Nat} {F0 K : List Nat} {m : Mac}
theorem fit_any (h : Gm W F0 b K w m) (hT : Shaped5 w) {k : Nat} {n : Int} {x : Nat} (hk : 1 ≤ k ∧ k < 21) (hn : k = 5 → 0 ≤ n ∧ n ≤ 63) : Calls Tryz.prog 139 #[.pointer (some ⟨b, 0, none⟩), .agg #[.int .i64 k, .int .i64 n, .float .f64 x]] w fun r w' => r = (if roomB m ⟨k, n, x⟩ then .returned (.tuple #[]) else gaveM 82) ∧ Below w.heap.size w w' := by
  obtain ⟨bn, bc, hf⟩ := fit_at h hT n x hk
  have hrb : roomB m ⟨k, n, x⟩ = (decide ((if k = 5 then n + 1 else (shp k).takes) ≤ (m.st.length : Int)) && decide ((m.st.length : Int) - (shp k).takes + (shp k).lays ≤ 64) && !(decide (k = 14) && decide (16 ≤ m.calls.length))) := by
    unfold roomB leastI takesI laysI
    have e1 : ((k : Int) = 5) = (k = 5) := by apply propext; omega
    have e2 : ((k : Int) = 14) = (k = 14) := by apply propext; omega
    simp only [Int.toNat_natCast, e1, e2]
  by_cases h5 : k = 5
  · subst h5
    have hn := hn rfl
    by_cases h1 : n + 1 ≤ (m.st.length : Int)
    · by_cases h2 : (m.st.length : Int) - (shp 5).takes + (shp 5).lays ≤ 64
      · rw [hrb, if_pos (by simp [h1, h2])]
        exact fit_5 hf hn h1 h2
      · rw [hrb, if_neg (by simp [h2])]
        exact fit_5no2 hf hn h1 h2
    · rw [hrb, if_neg (by simp; omega)]
      exact fit_5no hf hn h1
  · have h5' : ¬ (k : Int) = 5 := by omega
    by_cases h1 : (shp k).takes ≤ (m.st.length : Int)
    · by_cases h2 : (m.st.length : Int) - (shp k).takes + (shp k).lays ≤ 64
      · by_cases h14 : k = 14
        · subst h14
          by_cases h3 : (m.calls.length : Int) < 16
          · rw [hrb, if_pos (by simp [h1, h2]; omega)]
            exact fit_14 hf h1 h2 h3
          · rw [hrb, if_neg (by simp [h1, h2]; omega)]
            exact fit_14no hf h1 h2 h3
        · rw [hrb, if_pos (by simp [h1, h2, h5, h14])]
          exact fit_k hf h5' (by omega) h1 h2
      · rw [hrb, if_neg (by simp [h2])]
        exact fit_kno2 hf h5' h1 h2
    · rw [hrb, if_neg (by simp [h5, h1])]
      exact fit_kno hf h5' h1
/-- in a callee that boxes what it was handed -/
theorem Gm.enter (h : Gm W F0 b K w m) (o : Obj) : ∃ F, Gm (w.alloc o) F b K (w.alloc o) m ∧ ∀ w' m', Gm (w.alloc o) F b K w' m' → w'.heap[w.heap.size]? = some o ∧ w.heap.size < w'.heap.size ∧ b < w'.heap.size ∧ Gm W F0 b K w' m' := by
  obtain ⟨F, hM, hT⟩ := h.mc
  refine ⟨F, (hM.on (below_alloc w o)).gm, fun w' m' hg => ?_⟩
  have hb : w'.heap[w.heap.size]? = some o := (hg.far (by simp) (fun q => absurd (hM.blw _ q) (Nat.lt_irrefl _))).trans (heap_alloc_new w o)
  refine ⟨hb, ?_, hg.ltB, hg.trans (hT.trans (Below.turn (below_alloc w o) F))⟩
  rcases Nat.lt_or_ge w.heap.size w'.heap.size with q | q
  · exact q
  · rw [Array.getElem?_eq_none q] at hb
    cases hb
theorem Gm.drewN (h : Gm W F0 b K w m) (n : Nat) : Gm W F0 b K (w.drewN n) m := h.same (Same.drewN w n)
theorem insO_cells {w : World} {g : Nat} {i : Ins} (h : w.heap[g]? = some (insO i)) : w.cell? ⟨g, 0, none⟩ = some (.int .i64 i.op) ∧ w.cell? ⟨g, 1, none⟩ = some (.int .i64 i.n) ∧ w.cell? ⟨g, 2, none⟩ = some (.float .f64 i.x) ∧ g < w.heap.size := cells3_of h
set_option maxHeartbeats 600000 in
set_option maxRecDepth 100000 in
theorem address_any (h : Gm W F0 b K w m) (hs : 0 < m.st.length) : Calls Tryz.prog 156 #[.pointer (some ⟨b, 0, none⟩)] w fun r w' => r = (if addrB m then .returned (.int .i64 (addrV m)) else gaveM 50) ∧ Same w w' := by
  obtain ⟨p, hm, _, _⟩ := id h
  have h0 : w.cell? ⟨b, 0, none⟩ = some (.int .i64 m.cells) := (hm.cell 0).trans rfl
  have hb := hm.ltB
  clear hm
  have HP : Hid (∀ n, Calls Tryz.prog 159 #[.pointer (some ⟨b, 0, none⟩), .int .i64 0] (w.drewN n) fun e w' => e = .returned (.float .f64 (m.st.getD 0 0)) ∧ ∃ q, w' = w.drewN q) := fun n => (pick_any (h.drewN n) 0 hs).mono fun e w' ⟨he, q, hq⟩ => ⟨he, n + q, by rw [hq, World.drewN_drewN]⟩
  unfold addrB addrV
  have HI := Lib.hid (fun w => index_any (m.st.getD 0 0) m.cells w)
  unfold idxV idxE at *
  clear h
  generalize m.st.getD 0 0 = y at *
  generalize m.cells = z at *
  cases hx : idxB y z
  · rw [hx] at HI
    go_enter Tryz.func156, Tryz.ntmps156
    go_wp2
    go_quiet (first
      | (go_at_call 159; exact HP.out _)
      | (go_at_call 169; exact Calls.quiet_of_same (HI.out _)))
    go_wp2_with (go_at_call 145; refine (mustBe_no (by first | (simp; done) | rfl) 50 _).mono ?_; rintro e u ⟨rfl, hu⟩; subst u)
    exact ⟨rfl, rfl, Same.drewN _ _⟩
  · rw [hx] at HI
    go_enter Tryz.func156, Tryz.ntmps156
    go_wp2
    go_quiet (first
      | (go_at_call 159; exact HP.out _)
      | (go_at_call 169; exact Calls.quiet_of_same (HI.out _)))
    go_wp2_with (go_at_call 145; refine (mustBe_yes (by first | rfl | (simp; done)) 50 _).mono ?_; rintro e u ⟨rfl, hu⟩; subst u)
    go_ret
    exact ⟨rfl, Same.drewN _ _⟩
end
end Go.Proofs.YtaliehikdidiaaaGreatDoor
