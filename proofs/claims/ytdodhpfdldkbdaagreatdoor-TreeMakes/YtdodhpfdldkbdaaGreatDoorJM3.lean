import Derived.Test.YtdodhpfdldkbdaaGreatDoorJM2
import Derived.Test.YtdodhpfdldkbdaaGreatDoorJM1
namespace Go.Proofs.YtdodhpfdldkbdaaGreatDoor.Tr
open Go.ChangeShapes Go.WideShapes Go.ChangeAt Go.RowKit Num Go.Maps As
open Go.ChangeMaps Go.MapKept
attribute [local go_sem] run_store_float
theorem put_run {u : World} {q : Nat → Ptr} {bs co : Nat} {po : Option Addr} {F : List Nat} (hT : Shaped5 u) (hq : TrAt u 2 5 q) (hL : FlAt u po [five, fifty]) (hS : Sx.Cel 94 u bs F z24) : Calls Tryz.prog 24 #[cfgV 24 1 1024 8, .agg #[.int .i64 2, .slice (q 1).p (q 1).n (q 1).c], .slice po 2 co, .pointer (some ⟨bs, 0, none⟩)] u fun r w' => ∃ (s : List Nat) (p3 : Option Addr) (c3 : Nat) (p4 : Option Addr) (n4 c4 : Nat) (p5 : Option Addr) (n5 c5 : Nat) (us : Int), r = .returned (.tuple #[.agg #[.int .i64 1, .int .i64 0, .int .i64 0, .slice p3 1 c3, .slice p4 n4 c4, .slice p5 n5 c5, .int .i64 us], .int .i64 0]) ∧ Hid (((RowAt 74 w' p3 c3 (fls [one1]) ∧ Abv u.heap.size (fpR p3)) ∧ Sx.Cel 94 w' bs F s ∧ Turn F F u w') ∧ Aft5 s) := by
  have hr := hq.row 1 (by decide)
  refine (runs5 (t := 2) (cs := putCd 2 5) (l := [five, fifty]) (s := z24) hT hr.1 hr.2 (by decide +kernel) (by decide +kernel) rfl hL l2 hS z24_ok put5.1 (lies5.good (s := z24) (l := [five, fifty]) (by decide))).mono fun r w' ⟨p3, c3, p4, n4, c4, p5, n5, c5, us, q1, q2⟩ => ?_
  exact ⟨_, p3, c3, p4, n4, c4, p5, n5, c5, us, q1, q2.out, put5.2⟩
theorem get_run {u : World} {q : Nat → Ptr} {bs co : Nat} {po : Option Addr} {F s : List Nat} (hT : Shaped5 u) (hq : TrAt u 2 5 q) (hL : FlAt u po [five]) (hS : Sx.Cel 94 u bs F s) (hs : Aft5 s) : Calls Tryz.prog 24 #[cfgV 24 1 1024 8, .agg #[.int .i64 1, .slice (q 0).p (q 0).n (q 0).c], .slice po 1 co, .pointer (some ⟨bs, 0, none⟩)] u fun r w' => ∃ (p3 : Option Addr) (c3 : Nat) (p4 : Option Addr) (n4 c4 : Nat) (p5 : Option Addr) (n5 c5 : Nat) (us : Int), r = .returned (.tuple #[.agg #[.int .i64 1, .int .i64 0, .int .i64 0, .slice p3 1 c3, .slice p4 n4 c4, .slice p5 n5 c5, .int .i64 us], .int .i64 0]) ∧ Hid ((RowAt 74 w' p3 c3 (fls [fifty]) ∧ Abv u.heap.size (fpR p3)) ∧ Sx.Cel 94 w' bs F s ∧ Turn F F u w') := by
  have hr := hq.row 0 (by decide)
  have hl := lies5
  rw [← hs.len] at hl
  refine (runs5 (t := 1) (cs := getC 2 5) (l := [five]) (s := s) hT hr.1 hr.2 (by decide +kernel) (by decide +kernel) rfl hL l1 hS hs.ok (get5 hs).1 (hl.good (by decide))).mono fun r w' ⟨p3, c3, p4, n4, c4, p5, n5, c5, us, q1, q2⟩ => ?_
  have q3 := q2.out
  rw [(get5 hs).2] at q3
  exact ⟨p3, c3, p4, n4, c4, p5, n5, c5, us, q1, q3⟩
theorem len_run {u : World} {q : Nat → Ptr} {bs : Nat} {F s : List Nat} (hT : Shaped5 u) (hq : TrAt u 2 5 q) (hS : Sx.Cel 94 u bs F s) (hs : Aft5 s) : Calls Tryz.prog 24 #[cfgV 24 1 1024 8, .agg #[.int .i64 1, .slice (q 5).p (q 5).n (q 5).c], .slice none 0 0, .pointer (some ⟨bs, 0, none⟩)] u fun r w' => ∃ (p3 : Option Addr) (c3 : Nat) (p4 : Option Addr) (n4 c4 : Nat) (p5 : Option Addr) (n5 c5 : Nat) (us : Int), r = .returned (.tuple #[.agg #[.int .i64 1, .int .i64 0, .int .i64 0, .slice p3 1 c3, .slice p4 n4 c4, .slice p5 n5 c5, .int .i64 us], .int .i64 0]) ∧ Hid ((RowAt 74 w' p3 c3 (fls [one1]) ∧ Abv u.heap.size (fpR p3)) ∧ Sx.Cel 94 w' bs F s ∧ Turn F F u w') := by
  have hr := hq.row 5 (by decide)
  have hl := lies5
  rw [← hs.len] at hl
  refine (runs5 (t := 1) (cs := lenC 2 5) (l := []) (co := 0) (s := s) hT hr.1 hr.2 (by decide +kernel) (by decide +kernel) rfl (fun k hk => absurd hk (Nat.not_lt_zero k)) (fun x hx => by cases hx) hS hs.ok (len5 hs).1 (hl.good (by decide))).mono fun r w' ⟨p3, c3, p4, n4, c4, p5, n5, c5, us, q1, q2⟩ => ?_
  have q3 := q2.out
  rw [(len5 hs).2] at q3
  exact ⟨p3, c3, p4, n4, c4, p5, n5, c5, us, q1, q3⟩
theorem config_any (a b c : Int) (w : World) : Calls Tryz.prog 18 #[.int .i64 a, .int .i64 b, .int .i64 c] w fun e w' => e = .returned (cfgV a 1 b c) ∧ Below w.heap.size w w' := by
  go_enter Tryz.func18, Tryz.ntmps18
  go_wp2
  exact bodyPost_ret (results_cell_row rfl _ _ w.heap.size _ _ _ _ rfl (heap_alloc_new w (cfgO a 1 b c)) Tryz.underlying48 rfl (by kernel_rfl)) rfl ⟨rfl, below_alloc w _⟩
theorem cells14 {w : World} {x : Nat} {v0 v1 v2 v3 v4 v5 v6 v7 v8 v9 v10 v11 v12 v13 : Value} {T : TypeId} (h : w.heap[x]? = some (.cells #[v0, v1, v2, v3, v4, v5, v6, v7, v8, v9, v10, v11, v12, v13] T (0, 0))) : w.cell? ⟨x, 0, none⟩ = some v0 ∧ w.cell? ⟨x, 1, none⟩ = some v1 ∧ w.cell? ⟨x, 2, none⟩ = some v2 ∧ w.cell? ⟨x, 3, none⟩ = some v3 ∧ w.cell? ⟨x, 10, none⟩ = some v10 ∧ w.cell? ⟨x, 11, none⟩ = some v11 ∧ x < w.heap.size :=
  ⟨(cell_of_row w x 0 _ _ _ h).trans rfl, (cell_of_row w x 1 _ _ _ h).trans rfl, (cell_of_row w x 2 _ _ _ h).trans rfl, (cell_of_row w x 3 _ _ _ h).trans rfl, (cell_of_row w x 10 _ _ _ h).trans rfl, (cell_of_row w x 11 _ _ _ h).trans rfl, lt_of_block h⟩
theorem fl_one1 (w : World) (x : Nat) : FlAt (w.alloc (.cells #[.float .f64 x] 74)) (some ⟨w.heap.size, 0, none⟩) [x] := fun k hk => by
  have h0 : k = 0 := by simp at hk; exact hk
  subst h0
  exact ⟨_, 0, rfl, by simp, (cell_of_row _ _ _ _ _ _ (heap_alloc_new w _)).trans rfl⟩
theorem fl_two2 (w : World) (x y : Nat) : FlAt (w.alloc (.cells #[.float .f64 x, .float .f64 y] 74)) (some ⟨w.heap.size, 0, none⟩) [x, y] := fun k hk => by
  refine ⟨_, 0, rfl, by simp, ?_⟩
  rw [cell_of_row _ _ _ _ _ _ (heap_alloc_new w _)]
  match k, hk with
  | 0, _ => rfl
  | 1, _ => rfl
  | q + 2, h => exact absurd h (by simp)
theorem fl_two3 (u : World) (o : Obj) (x y : Nat) : FlAt ((u.alloc o).alloc (.cells #[.float .f64 x, .float .f64 y] 74)) (some ⟨u.heap.size + 1, 0, none⟩) [x, y] := by
  have h := fl_two2 (u.alloc o) x y
  rwa [World.size_alloc] at h
theorem fl_one3 (u : World) (o : Obj) (x : Nat) : FlAt ((u.alloc o).alloc (.cells #[.float .f64 x] 74)) (some ⟨u.heap.size + 1, 0, none⟩) [x] := by
  have h := fl_one1 (u.alloc o) x
  rwa [World.size_alloc] at h
theorem two_al (u : World) (o o2 : Obj) : Below u.heap.size u ((u.alloc o).alloc o2) := (below_alloc u _).trans ((below_alloc _ _).mono (by simp))
abbrev tO (q : Nat → Ptr) : Obj := .cells #[.int .i64 1, .slice (q 0).p (q 0).n (q 0).c, .int .i64 2, .slice (q 1).p (q 1).n (q 1).c, .int .i64 2, .slice (q 2).p (q 2).n (q 2).c, .int .i64 1, .slice (q 3).p (q 3).n (q 3).c, .int .i64 1, .slice (q 4).p (q 4).n (q 4).c, .int .i64 1, .slice (q 5).p (q 5).n (q 5).c, .int .i64 1, .slice (q 6).p (q 6).n (q 6).c] 28
theorem keepsT {F F' : List Nat} {u v : World} {g : Nat} {o : Obj} (t : Turn F F' u v) (h : u.heap[g]? = some o) (hn : g ∉ F) : v.heap[g]? = some o := (t.block g (lt_of_block h) hn).trans h
structure Lv (W u1 : World) (q : Nat → Ptr) (b : Nat) (F s : List Nat) (u : World) : Prop where
  b0 : Below W.heap.size W u1
  tq : TrAt u1 2 5 q
  bl : Below u1.heap.size u1 u
  tr : u.heap[u1.heap.size]? = some (tO q)
  cel : Sx.Cel 94 u b F s
  abv : Abv (u1.heap.size + 1) F
section
variable {W u1 u u' : World} {q : Nat → Ptr} {b : Nat} {F s s' : List Nat}
theorem Lv.on (h : Lv W u1 q b F s u) (k : Below u.heap.size u u') : Lv W u1 q b F s u' := ⟨h.b0, h.tq, h.bl.trans (k.mono h.bl.size), (k.block _ (lt_of_block h.tr)).trans h.tr, h.cel.on k, h.abv⟩
theorem Lv.turn (h : Lv W u1 q b F s u) (k : Turn F F u u') (hc : Sx.Cel 94 u' b F s') : Lv W u1 q b F s' u' := ⟨h.b0, h.tq, h.bl.trans (k.below (h.abv.mono (by omega)) h.bl.size), keepsT k h.tr fun hx => by have := h.abv _ hx; omega, hc, h.abv⟩
theorem Lv.bw (h : Lv W u1 q b F s u) : Below W.heap.size W u := h.b0.trans (h.bl.mono h.b0.size)
theorem Lv.rows (h : Lv W u1 q b F s u) : TrAt u 2 5 q := h.tq.on h.bl
theorem Lv.nf (h : Lv W u1 q b F s u) {g : Nat} (hg : u.heap.size ≤ g) : g ∉ F := fun hx => by have := h.cel.blw _ hx; omega
theorem row_keep {a : World} {p : Option Addr} {c : Nat} {l : List Value} {n : Nat} (h : RowAt 74 u p c l) (hA : Abv n (fpR p)) (hF : ∀ x ∈ F, x < n) (k : Below u.heap.size u a) (t : Turn F F a u') : RowAt 74 u' p c l := (h.on k).turn t (abv_blw hA hF)
end
set_option maxHeartbeats 8000000 in
set_option maxRecDepth 100000 in
theorem live_any {W : World} (hT : Shaped5 W) : Calls Tryz.prog 9 #[] W fun e w' => e = .returned (.bool true) ∧ Below W.heap.size W w' := by
  have HSH : Hid (∀ u, Below W.heap.size W u → Shaped5 u) := fun u hb => hT.on hb
  have HM : Hid (Calls Tryz.prog 11 #[.int .i64 2, .int .i64 20] W fun e w' => ∃ q, e = .returned (.tuple #[.agg #[.int .i64 1, .slice (q 0).p (q 0).n (q 0).c, .int .i64 2, .slice (q 1).p (q 1).n (q 1).c, .int .i64 2, .slice (q 2).p (q 2).n (q 2).c, .int .i64 1, .slice (q 3).p (q 3).n (q 3).c, .int .i64 1, .slice (q 4).p (q 4).n (q 4).c, .int .i64 1, .slice (q 5).p (q 5).n (q 5).c, .int .i64 1, .slice (q 6).p (q 6).n (q 6).c], .int .i64 0]) ∧ Hid (TrAt w' 2 5 q ∧ Below W.heap.size W w')) := by
    have h := make_yes hT (b := 2) (c := 20) (by decide) (by decide) (by decide) (by decide)
    rw [show roomV 20 = 5 by decide] at h
    exact h
  have HN : Hid (∀ w : World, Calls Tryz.prog 33 #[.int .i64 24] w fun e w' => ∃ b F, e = .returned (.tuple #[.pointer (some ⟨b, 0, none⟩), .int .i64 0]) ∧ Sx.Cel 94 w' b F z24 ∧ Abv w.heap.size F ∧ Below w.heap.size w w') := fun w => Sx.new_some (n := 24) (by decide) w
  have HC : Hid (∀ w : World, Calls Tryz.prog 18 #[.int .i64 24, .int .i64 1024, .int .i64 8] w fun e w' => e = .returned (cfgV 24 1 1024 8) ∧ Below w.heap.size w w') := fun w => config_any 24 1024 8 w
  clear hT
  go_enter Tryz.func9, Tryz.ntmps9
  go_upto_region 6 with (first
    | (go_at_call 11; refine HM.out.mono ?_; rintro e u1 ⟨q, rfl, K1⟩; clear HM)
    | (go_at_call 33; refine (HN.out _).mono ?_; rintro e u2 ⟨b, F, rfl, q1, q2, q3⟩; have Q2 := Lib.hid (And.intro q1 (And.intro q2 q3)); clear q1 q2 q3)
    | (go_at_call 18; refine (HC.out _).mono ?_; rintro e u3 ⟨rfl, q1⟩; have Q3 := Lib.hid q1; clear q1))
  have L3 : Hid (Lv W u1 q b F z24 u3) := (Lv.on ⟨K1.out.2, K1.out.1, (below_alloc u1 _).trans (Q2.out.2.2.mono (by simp)), (Q2.out.2.2.block _ (by simp)).trans (heap_alloc_new u1 _), Q2.out.1, Q2.out.2.1.mono (by simp)⟩ Q3.out)
  have HR1 : Hid (∀ u co po, Lv W u1 q b F z24 u → FlAt u po [five, fifty] → Calls Tryz.prog 24 #[cfgV 24 1 1024 8, .agg #[.int .i64 2, .slice (q 1).p (q 1).n (q 1).c], .slice po 2 co, .pointer (some ⟨b, 0, none⟩)] u fun r w' => ∃ (s : List Nat) (p3 : Option Addr) (c3 : Nat) (p4 : Option Addr) (n4 c4 : Nat) (p5 : Option Addr) (n5 c5 : Nat) (us : Int), r = .returned (.tuple #[.agg #[.int .i64 1, .int .i64 0, .int .i64 0, .slice p3 1 c3, .slice p4 n4 c4, .slice p5 n5 c5, .int .i64 us], .int .i64 0]) ∧ Hid (((RowAt 74 w' p3 c3 (fls [one1]) ∧ Abv u.heap.size (fpR p3)) ∧ Sx.Cel 94 w' b F s ∧ Turn F F u w') ∧ Aft5 s)) := fun u co po h1 h2 => put_run (HSH.out _ h1.bw) h1.rows h2 h1.cel
  have HR2 : Hid (∀ u s co po, Lv W u1 q b F s u → Aft5 s → FlAt u po [five] → Calls Tryz.prog 24 #[cfgV 24 1 1024 8, .agg #[.int .i64 1, .slice (q 0).p (q 0).n (q 0).c], .slice po 1 co, .pointer (some ⟨b, 0, none⟩)] u fun r w' => ∃ (p3 : Option Addr) (c3 : Nat) (p4 : Option Addr) (n4 c4 : Nat) (p5 : Option Addr) (n5 c5 : Nat) (us : Int), r = .returned (.tuple #[.agg #[.int .i64 1, .int .i64 0, .int .i64 0, .slice p3 1 c3, .slice p4 n4 c4, .slice p5 n5 c5, .int .i64 us], .int .i64 0]) ∧ Hid ((RowAt 74 w' p3 c3 (fls [fifty]) ∧ Abv u.heap.size (fpR p3)) ∧ Sx.Cel 94 w' b F s ∧ Turn F F u w')) := fun u s co po h1 h3 h2 => get_run (HSH.out _ h1.bw) h1.rows h2 h1.cel h3
  have HR3 : Hid (∀ u s, Lv W u1 q b F s u → Aft5 s → Calls Tryz.prog 24 #[cfgV 24 1 1024 8, .agg #[.int .i64 1, .slice (q 5).p (q 5).n (q 5).c], .slice none 0 0, .pointer (some ⟨b, 0, none⟩)] u fun r w' => ∃ (p3 : Option Addr) (c3 : Nat) (p4 : Option Addr) (n4 c4 : Nat) (p5 : Option Addr) (n5 c5 : Nat) (us : Int), r = .returned (.tuple #[.agg #[.int .i64 1, .int .i64 0, .int .i64 0, .slice p3 1 c3, .slice p4 n4 c4, .slice p5 n5 c5, .int .i64 us], .int .i64 0]) ∧ Hid ((RowAt 74 w' p3 c3 (fls [one1]) ∧ Abv u.heap.size (fpR p3)) ∧ Sx.Cel 94 w' b F s ∧ Turn F F u w')) := fun u s h1 h3 => len_run (HSH.out _ h1.bw) h1.rows h1.cel h3
  clear HSH K1 Q2 Q3 HN HC
  obtain ⟨t0, t1, t2, t3, t4, t5, t6⟩ := cells14 L3.out.tr
  go_upto_region 7 with (go_at_call 24; refine (HR1.out _ 2 (some ⟨u3.heap.size + 1, 0, none⟩) (L3.out.on (two_al u3 _ _)) (fl_two3 u3 _ five fifty)).mono ?_; rintro e u4 ⟨s, p3, c3, p4, n4, c4, p5, n5, c5, us, rfl, R1⟩; clear HR1)
  have L4 : Hid (Lv W u1 q b F s u4 ∧ Aft5 s) := ⟨(L3.out.on (two_al u3 _ _)).turn R1.out.1.2.2 R1.out.1.2.1, R1.out.2⟩
  have hN : Hid (∀ g, u3.heap.size ≤ g → g ∉ F) := fun g hg => L3.out.nf hg
  have hB : Hid (∀ x ∈ F, x < u3.heap.size) := fun x hx => L3.out.cel.blw x hx
  have X4 : Hid (u4.heap[u3.heap.size]? = some (cfgO 24 1 1024 8)) := keepsT R1.out.1.2.2 ((heap_alloc_old _ _ (by simp)).trans (heap_alloc_new u3 _)) (hN.out _ (Nat.le_refl _))
  have S4 := Lib.hid (show u3.heap.size + 2 ≤ u4.heap.size by have := R1.out.1.2.2.size; simp at this; omega)
  have W4 : Hid (RowAt 74 u4 p3 c3 (fls [one1]) ∧ Abv (u3.heap.size + 2) (fpR p3)) := ⟨R1.out.1.1.1, R1.out.1.1.2.mono (by simp)⟩
  clear R1 L3 t0 t1 t2 t3 t4 t5 t6
  obtain ⟨t0, t1, t2, t3, t4, t5, t6⟩ := cells14 L4.out.1.tr
  obtain ⟨x0, x1, x2, x3, x4⟩ := Md.cells4 X4.out
  go_upto_region 8 with (go_at_call 24; refine (HR2.out _ _ 1 (some ⟨u4.heap.size + 1, 0, none⟩) (L4.out.1.on (two_al u4 _ _)) L4.out.2 (fl_one3 u4 _ five)).mono ?_; rintro e u5 ⟨p6, c6, p7, n7, c7, p8, n8, c8, vs, rfl, R2⟩; clear HR2)
  have L5 : Hid (Lv W u1 q b F s u5) := (L4.out.1.on (two_al u4 _ _)).turn R2.out.2.2 R2.out.2.1
  have X5 : Hid (u5.heap[u3.heap.size]? = some (cfgO 24 1 1024 8)) := keepsT R2.out.2.2 (((two_al u4 _ _).block _ x4).trans X4.out) (hN.out _ (Nat.le_refl _))
  have Y5 := Lib.hid (keepsT R2.out.2.2 ((heap_alloc_old _ _ (by simp)).trans (heap_alloc_new u4 _)) (hN.out u4.heap.size (by have := S4.out; omega)))
  have S5 := Lib.hid (show u4.heap.size + 2 ≤ u5.heap.size by have := R2.out.2.2.size; simp at this; omega)
  have W5 : Hid (RowAt 74 u5 p3 c3 (fls [one1])) := row_keep W4.out.1 W4.out.2 (fun x hx => by have := hB.out x hx; omega) (two_al u4 _ _) R2.out.2.2
  have V5 : Hid (RowAt 74 u5 p6 c6 (fls [fifty]) ∧ Abv (u4.heap.size + 2) (fpR p6)) := ⟨R2.out.1.1, R2.out.1.2.mono (by simp)⟩
  clear R2 t0 t1 t2 t3 t4 t5 t6 x0 x1 x2 x3 x4
  obtain ⟨t0, t1, t2, t3, t4, t5, t6⟩ := cells14 L5.out.tr
  obtain ⟨x0, x1, x2, x3, x4⟩ := Md.cells4 X5.out
  go_upto_region 9 with (go_at_call 24; refine (HR3.out _ _ (L5.out.on (below_alloc u5 _)) L4.out.2).mono ?_; rintro e u6 ⟨p9, c9, pa, na, ca, pb, nb, cb, ws, rfl, R3⟩; clear HR3)
  have L6 : Hid (Lv W u1 q b F s u6) := (L5.out.on (below_alloc u5 _)).turn R3.out.2.2 R3.out.2.1
  have Y6 := Lib.hid (keepsT R3.out.2.2 ((heap_alloc_old _ _ (lt_of_block Y5.out)).trans Y5.out) (hN.out u4.heap.size (by have := S4.out; omega)))
  have Z6 := Lib.hid (keepsT R3.out.2.2 (heap_alloc_new u5 _) (hN.out u5.heap.size (by have := S4.out; have := S5.out; omega)))
  have W6 : Hid (RowAt 74 u6 p3 c3 (fls [one1])) := row_keep W5.out W4.out.2 (fun x hx => by have := hB.out x hx; omega) (below_alloc u5 _) R3.out.2.2
  have V6 : Hid (RowAt 74 u6 p6 c6 (fls [fifty])) := row_keep V5.out.1 V5.out.2 (fun x hx => by have := hB.out x hx; have := S4.out; omega) (below_alloc u5 _) R3.out.2.2
  have U6 : Hid (RowAt 74 u6 p9 c9 (fls [one1])) := R3.out.1.1
  clear R3 t0 t1 t2 t3 t4 t5 t6 x0 x1 x2 x3 x4 L4 L5 hN hB X4 X5 W4 W5 V5 S4 S5
  obtain ⟨⟨y0, y1, y2, y3, y4, y5, y6, y7⟩, _⟩ := cells7_of Y6.out
  obtain ⟨⟨z0, z1, z2, z3, z4, z5, z6, z7⟩, _⟩ := cells7_of Z6.out
  clear Y5
  go_wp2_with (first
    | (go_at_call 25; refine (exact_any (l := [one1]) (n := 1) rfl (by decide) (row_fl ((U6.out.on B8.out).on (below_alloc u8 _))) (fl_one1 u8 one1)).mono ?_; rintro e u9 ⟨rfl, qs⟩; have B9 := Lib.hid (B8.out.trans (((below_alloc u8 (.cells #[.float .f64 one1] 74)).trans (qs.below _)).mono B8.out.size)); clear qs U6)
    | (go_at_call 25; refine (exact_any (l := [fifty]) (n := 1) rfl (by decide) (row_fl ((V6.out.on B7.out).on (below_alloc u7 _))) (fl_one1 u7 fifty)).mono ?_; rintro e u8 ⟨rfl, qs⟩; have k8 := (below_alloc u7 (.cells #[.float .f64 fifty] 74)).trans (qs.below _); have B8 := Lib.hid (B7.out.trans (k8.mono B7.out.size)); have T8 := Lib.hid ((k8.block _ (lt_of_block T7.out)).trans T7.out); obtain ⟨⟨x0, x1, x2, x3, x4, x5, x6, x7⟩, _⟩ := cells7_of T8.out; clear qs k8 V6)
    | (go_at_call 25; refine (exact_any (l := [one1]) (n := 1) rfl (by decide) (row_fl (W6.out.on (two_al u6 _ _))) (fl_one3 u6 _ one1)).mono ?_; rintro e u7 ⟨rfl, qs⟩; have B7 := Lib.hid ((two_al u6 _ _).trans (qs.below u6.heap.size)); have T7 := Lib.hid ((congrArg (fun h => h[u6.heap.size]?) qs.heap).trans ((heap_alloc_old _ _ (by simp)).trans (heap_alloc_new u6 _))); have Z7 := Lib.hid ((B7.out.block _ z7).trans Z6.out); clear y0 y1 y2 y3 y4 y5 y6 y7 z0 z1 z2 z3 z4 z5 z6 z7; obtain ⟨⟨z0, z1, z2, z3, z4, z5, z6, z7⟩, _⟩ := cells7_of Z7.out; clear qs W6))
  go_ret
  exact ⟨rfl, L6.out.bw.trans (B9.out.mono L6.out.bw.size)⟩
end Go.Proofs.YtdodhpfdldkbdaaGreatDoor.Tr
namespace Go.Proofs.YtdodhpfdldkbdaaGreatDoor.Tr
open Num As
def tagS (k : Int) : Int := if k = 2 ∨ k = 3 then 2 else 1
theorem kinds {k : Int} (h1 : 1 ≤ k) (h7 : k ≤ 7) : k = 1 ∨ k = 2 ∨ k = 3 ∨ k = 4 ∨ k = 5 ∨ k = 6 ∨ k = 7 := by omega
theorem codes_len (B R : Int) {k : Nat} : k < 7 → (codeOf B R k).length ≤ 9223372036854775807 := by
  intro hk
  match k, hk with
  | 0, _ | 1, _ | 2, _ | 3, _ | 4, _ | 5, _ | 6, _ => exact Nat.le_of_ble_eq_true rfl
end Go.Proofs.YtdodhpfdldkbdaaGreatDoor.Tr
namespace Go.Proofs.YtdodhpfdldkbdaaGreatDoor.Tr
open Num As
end Go.Proofs.YtdodhpfdldkbdaaGreatDoor.Tr
namespace Go.Proofs.YtdodhpfdldkbdaaGreatDoor.Tr
open Go.ChangeShapes Go.WideShapes Go.ChangeAt Go.RowKit Num Go.Maps As
open Go.ChangeMaps Go.MapKept
attribute [local go_sem] run_store_float frombits_run bits_run
abbrev treeT (t : Nat → Int) (q : Nat → Ptr) : Value := .agg #[.int .i64 (t 0), .slice (q 0).p (q 0).n (q 0).c, .int .i64 (t 1), .slice (q 1).p (q 1).n (q 1).c, .int .i64 (t 2), .slice (q 2).p (q 2).n (q 2).c, .int .i64 (t 3), .slice (q 3).p (q 3).n (q 3).c, .int .i64 (t 4), .slice (q 4).p (q 4).n (q 4).c, .int .i64 (t 5), .slice (q 5).p (q 5).n (q 5).c, .int .i64 (t 6), .slice (q 6).p (q 6).n (q 6).c]
theorem prog_back {fn : Func} {p r : Tmp} (h : fn.results = #[.cell p 26, .tmp r]) {Q : Ending → World → Prop} {a : Act} {w : World} (g : Nat) (b : Bool) {arr : Array Value} (hp : a.tmps.getD p undef = .pointer (some ⟨g, 0, none⟩)) (hu : a.tmps.getD r undef = .bool b)
    (hg : w.heap[g]? = some (.cells arr 26 (0, 0))) (ha : arr.size = 2) (hd : a.defers = []) (hR : Q (.returned (.tuple #[.agg arr, .bool b])) w) : bodyPost Tryz.prog fn Q .ret a w := by
  refine bodyPost_ret (v := .tuple #[.agg arr, .bool b]) ?_ hd hR
  rw [results_cell_tmp h, hp, hu]
  have hl := run_loadVar_row (P := Tryz.prog) w g 26 26 arr (0, 0) _ hg Tryz.underlying26 rfl (by rw [ha]; kernel_rfl)
  simp [asAddr, hl, Result.andThen]
section
variable {w : World}
theorem two_last (w : World) (o : Obj) (x y : Value) (T : TypeId) : ((w.alloc o).alloc (.cells #[x, y] T)).heap[w.heap.size + 1]? = some (.cells #[x, y] T (0, 0)) := by
  have h := heap_alloc_new (w.alloc o) (.cells #[x, y] T)
  rwa [World.size_alloc] at h
set_option maxRecDepth 100000 in
set_option maxHeartbeats 2000000 in
theorem program_yes (t : Nat → Int) (q : Nat → Ptr) {k : Int} (h1 : 1 ≤ k) (h7 : k ≤ 7) (w : World) : Calls Tryz.prog 14 #[treeT t q, .int .i64 k] w fun e w' => e = .returned (.tuple #[.agg #[.int .i64 (t (k - 1).toNat), .slice (q (k - 1).toNat).p (q (k - 1).toNat).n (q (k - 1).toNat).c], .bool true]) ∧ Below w.heap.size w w' := by
  have hb := two_al w
  have hl := two_last w
  rcases kinds h1 h7 with rfl | rfl | rfl | rfl | rfl | rfl | rfl
  all_goals
    clear h1 h7
    go_enter Tryz.func14, Tryz.ntmps14
    go_wp2
    refine prog_back rfl (w.heap.size + 1) true rfl rfl (hl ..) rfl rfl ?_
    exact ⟨rfl, hb ..⟩
end
end Go.Proofs.YtdodhpfdldkbdaaGreatDoor.Tr
namespace Go.Proofs.YtdodhpfdldkbdaaGreatDoor.Tr
open Go.ChangeShapes Go.WideShapes Go.ChangeAt Go.RowKit Num Go.Maps As
open Go.ChangeMaps Go.MapKept
attribute [local go_sem] run_store_float frombits_run bits_run
end Go.Proofs.YtdodhpfdldkbdaaGreatDoor.Tr
namespace Go.Proofs.YtdodhpfdldkbdaaGreatDoor.Tr
open Go.ChangeShapes Go.WideShapes Go.ChangeAt Go.RowKit Num Go.Maps As
open Go.ChangeMaps Go.MapKept
attribute [local go_sem] run_store_float frombits_run bits_run
abbrev treeA (q : Nat → Ptr) : Value := .agg #[.int .i64 1, .slice (q 0).p (q 0).n (q 0).c, .int .i64 2, .slice (q 1).p (q 1).n (q 1).c, .int .i64 2, .slice (q 2).p (q 2).n (q 2).c, .int .i64 1, .slice (q 3).p (q 3).n (q 3).c, .int .i64 1, .slice (q 4).p (q 4).n (q 4).c, .int .i64 1, .slice (q 5).p (q 5).n (q 5).c, .int .i64 1, .slice (q 6).p (q 6).n (q 6).c]
def tagN (i : Nat) : Int := [1, 2, 2, 1, 1, 1, 1].getD i 0
theorem tagN_k {k : Int} (h1 : 1 ≤ k) (h7 : k ≤ 7) : tagN (k - 1).toNat = tagS k := by
  rcases kinds h1 h7 with rfl | rfl | rfl | rfl | rfl | rfl | rfl <;> rfl
theorem prog_tree (q : Nat → Ptr) {k : Int} (h1 : 1 ≤ k) (h7 : k ≤ 7) (w : World) : Calls Tryz.prog 14 #[treeA q, .int .i64 k] w fun e w' => e = .returned (.tuple #[.agg #[.int .i64 (tagS k), .slice (q (k - 1).toNat).p (q (k - 1).toNat).n (q (k - 1).toNat).c], .bool true]) ∧ Below w.heap.size w w' := by
  have h := program_yes tagN q h1 h7 w
  rw [tagN_k h1 h7] at h
  exact h
end Go.Proofs.YtdodhpfdldkbdaaGreatDoor.Tr
namespace Go.Proofs.YtdodhpfdldkbdaaGreatDoor.Tr
open Go.ChangeShapes Go.WideShapes Go.ChangeAt Go.RowKit Num Go.Maps As
open Go.ChangeMaps Go.MapKept
attribute [local go_sem] run_store_float frombits_run bits_run
section
variable {w : World}
theorem rroom_any (c : Int) (hc : c ≤ 9223372036854775807) (w : World) : Calls Tryz.prog 10 #[.int .i64 c] w fun e w' => e = .returned (.int .i64 (roomV c)) ∧ w' = w := by
  unfold roomV
  by_cases h : c < 7
  · rw [if_pos h]
    go_enter Tryz.func10, Tryz.ntmps10
    go_wp2
    go_ret
    exact ⟨rfl, rfl⟩
  · rw [if_neg h]
    by_cases h5 : 52 ≤ c
    · rw [if_pos h5]
      go_enter Tryz.func10, Tryz.ntmps10
      go_wp2
      go_ret
      exact ⟨rfl, rfl⟩
    · rw [if_neg h5]
      have h1 : wrap64 (c - 4) = c - 4 := by unfold wrap64; omega
      have h2 : wrap64 ((c - 4).tdiv 3) = (c - 4) / 3 := by rw [Int.tdiv_eq_ediv_of_nonneg (by omega)]; unfold wrap64; omega
      go_enter Tryz.func10, Tryz.ntmps10
      go_wp2
      go_ret
      exact ⟨rfl, rfl⟩
theorem fits_yes {b c : Int} (h7 : 7 ≤ c) (h0 : 0 ≤ b) (hf : b + c ≤ 256) (w : World) : Calls Tryz.prog 12 #[.int .i64 b, .int .i64 c] w fun e w' => e = .returned (.bool true) ∧ w' = w := by
  have HR := Lib.hid (rroom_any c (by omega) w)
  have hr : 0 < roomV c := by unfold roomV; rw [if_neg (by omega)]; split <;> omega
  generalize roomV c = r at *
  have e2 : wrap64 (256 - c) = 256 - c := by unfold wrap64; omega
  have e1 : b ≤ 256 - c := by omega
  have e3 : c ≤ 256 := by omega
  go_enter Tryz.func12, Tryz.ntmps12
  go_wp2_with (go_at_call 10; refine HR.out.mono ?_; rintro e u ⟨rfl, hu⟩; subst u)
  go_ret
  exact ⟨rfl, rfl⟩
theorem fits_no {b c : Int} (hc : c ≤ 9223372036854775807) (hc0 : -9223372036854775808 ≤ c) (hf : ¬ (7 ≤ c ∧ 0 ≤ b ∧ b + c ≤ 256)) (w : World) : Calls Tryz.prog 12 #[.int .i64 b, .int .i64 c] w fun e w' => e = .returned (.bool false) ∧ w' = w := by
  have HR := Lib.hid (rroom_any c hc w)
  by_cases h7 : c < 7
  · have hr : roomV c = 0 := by unfold roomV; rw [if_pos h7]
    rw [hr] at HR
    clear hf
    go_enter Tryz.func12, Tryz.ntmps12
    go_wp2_with (go_at_call 10; refine HR.out.mono ?_; rintro e u ⟨rfl, hu⟩; subst u)
    go_ret
    exact ⟨rfl, rfl⟩
  · have hr : 0 < roomV c := by unfold roomV; rw [if_neg (by omega)]; split <;> omega
    generalize roomV c = r at *
    by_cases hb : 0 ≤ b
    · by_cases hc2 : c ≤ 256
      · have e2 : wrap64 (256 - c) = 256 - c := by unfold wrap64; omega
        have e1 : ¬ b ≤ 256 - c := by omega
        clear hf h7
        go_enter Tryz.func12, Tryz.ntmps12
        go_wp2_with (go_at_call 10; refine HR.out.mono ?_; rintro e u ⟨rfl, hu⟩; subst u)
        go_ret
        exact ⟨congrArg (fun x => Ending.returned (.bool x)) (decide_eq_false (Int.not_le.2 e1)), rfl⟩
      · clear hf h7
        go_enter Tryz.func12, Tryz.ntmps12
        go_wp2_with (go_at_call 10; refine HR.out.mono ?_; rintro e u ⟨rfl, hu⟩; subst u)
        go_ret
        exact ⟨rfl, rfl⟩
    · clear hf h7
      go_enter Tryz.func12, Tryz.ntmps12
      go_wp2_with (go_at_call 10; refine HR.out.mono ?_; rintro e u ⟨rfl, hu⟩; subst u)
      go_ret
      exact ⟨rfl, rfl⟩
end
theorem treeInfo : (Tryz.prog.info? 28).map (·.size) = some 14 := by kernel_rfl
theorem make_A {w : World} (hT : Shaped5 w) {b c : Int} (hc : c ≤ 9223372036854775807) (h7 : 7 ≤ c) (h0 : 0 ≤ b) (hf : b + c ≤ 256) : Calls Tryz.prog 11 #[.int .i64 b, .int .i64 c] w fun e w' => ∃ q, e = .returned (.tuple #[treeA q, .int .i64 0]) ∧ Hid (TrAt w' b (roomV c) q ∧ Below w.heap.size w w') := make_yes hT hc h7 h0 hf
end Go.Proofs.YtdodhpfdldkbdaaGreatDoor.Tr
namespace Go.Proofs.YtdodhpfdldkbdaaGreatDoor.Tr
open Go.ChangeShapes Go.WideShapes Go.ChangeAt Go.RowKit Num Go.Maps As
open Go.ChangeMaps Go.MapKept
attribute [local go_sem] run_store_float frombits_run bits_run
abbrev tZ : Array Value := #[.int .i64 0, .slice none 0 0, .int .i64 0, .slice none 0 0, .int .i64 0, .slice none 0 0, .int .i64 0, .slice none 0 0, .int .i64 0, .slice none 0 0, .int .i64 0, .slice none 0 0, .int .i64 0, .slice none 0 0]
theorem make_Z {w : World} {b c : Int} (hc : c ≤ 9223372036854775807) (hc0 : -9223372036854775808 ≤ c) (hf : ¬ (7 ≤ c ∧ 0 ≤ b ∧ b + c ≤ 256)) : Calls Tryz.prog 11 #[.int .i64 b, .int .i64 c] w fun e w' => e = .returned (.tuple #[.agg tZ, .int .i64 200]) ∧ Below w.heap.size w w' := make_no hc hc0 hf
end Go.Proofs.YtdodhpfdldkbdaaGreatDoor.Tr
namespace Go.Proofs.YtdodhpfdldkbdaaGreatDoor.Tr
open Go.ChangeShapes Go.WideShapes Go.ChangeAt Go.RowKit Num Go.Maps As
open Go.ChangeMaps Go.MapKept
attribute [local go_sem] run_store_float frombits_run bits_run
theorem sameB_rfl (t : Int) (c : List Ins) : sameB t t c c = true := by unfold sameB sameI; simp
theorem codes_check (B R : Int) {k : Int} (h1 : 1 ≤ k) (h7 : k ≤ 7) : checkB (tagS k) (codeOf B R (k - 1).toNat) = true := by
  rcases kinds h1 h7 with rfl | rfl | rfl | rfl | rfl | rfl | rfl
  · exact check_of (get_code B R) (get_ans B R)
  · exact check_of (put_code B R) (put_ans B R)
  · exact check_of (del_code B R) (del_ans B R)
  · exact check_of (least_code B R) (least_ans B R)
  · exact check_of (after_code B R) (after_ans B R)
  · exact check_of (len_code B R) (len_ans B R)
  · exact check_of (all_code B R) (all_ans B R)
structure Tw2 (W : World) (B R : Int) (q1 q2 : Nat → Ptr) (g7 g9 : Nat) (w : World) : Prop where
  bl : Below W.heap.size W w
  b7 : w.heap[g7]? = some (tO q1)
  b9 : w.heap[g9]? = some (tO q2)
  t1 : TrAt w B R q1
  t2 : TrAt w B R q2
theorem Tw2.on {W : World} {B R : Int} {q1 q2 : Nat → Ptr} {g7 g9 : Nat} {w w' : World} (h : Tw2 W B R q1 q2 g7 g9 w) (k : Below w.heap.size w w') : Tw2 W B R q1 q2 g7 g9 w' :=
  ⟨h.bl.trans (k.mono h.bl.size), (k.block _ (lt_of_block h.b7)).trans h.b7, (k.block _ (lt_of_block h.b9)).trans h.b9, h.t1.on k, h.t2.on k⟩
theorem mk_two {wr w1 w2 : World} {o1 : Obj} (h : Below wr.heap.size wr w1) (k : Below (w1.alloc o1).heap.size (w1.alloc o1) w2) : Below wr.heap.size wr w2 ∧ w2.heap[w1.heap.size]? = some o1 :=
  ⟨below_chain (below_chain h (below_alloc w1 o1)) k, (k.block _ (lt_of_block (heap_alloc_new w1 o1))).trans (heap_alloc_new w1 o1)⟩
abbrev oZ : Obj := .cells tZ 28
structure Tw0 (W : World) (g7 g9 : Nat) (w : World) : Prop where
  bl : Below W.heap.size W w
  b7 : w.heap[g7]? = some oZ
  b9 : w.heap[g9]? = some oZ
theorem Tw0.on {W : World} {g7 g9 : Nat} {w w' : World} (h : Tw0 W g7 g9 w) (k : Below w.heap.size w w') : Tw0 W g7 g9 w' :=
  ⟨h.bl.trans (k.mono h.bl.size), (k.block _ (lt_of_block h.b7)).trans h.b7, (k.block _ (lt_of_block h.b9)).trans h.b9⟩
theorem prog_Z {k : Int} (h1 : 1 ≤ k) (h7 : k ≤ 7) (w : World) : Calls Tryz.prog 14 #[.agg tZ, .int .i64 k] w fun e w' => e = .returned (.tuple #[.agg #[.int .i64 0, .slice none 0 0], .bool true]) ∧ Below w.heap.size w w' := program_yes (fun _ => 0) (fun _ => ⟨none, 0, 0⟩) h1 h7 w
section
variable {W : World}
set_option maxRecDepth 100000 in
set_option maxHeartbeats 2000000 in
theorem makes_any (hT : Shaped5 W) {b c : Int} (hc : -9223372036854775808 ≤ c ∧ c ≤ 9223372036854775807) : Calls Tryz.prog 3 #[.int .i64 b, .int .i64 c] W fun e w' => e = .returned (.bool true) ∧ Below W.heap.size W w' := by
  have HLV : Hid (∀ u, Below W.heap.size W u → _) := fun u hu => live_any (hT.on hu)
  have HRO : Hid (∀ u, _) := fun u => room_any c hc.2 u
  have HRR : Hid (∀ u, _) := fun u => rroom_any c hc.2 u
  have HT := Lib.hid hT
  by_cases hf : 7 ≤ c ∧ 0 ≤ b ∧ b + c ≤ 256
  · have HMK : Hid (∀ u, Below W.heap.size W u → _) := fun u hu => make_A (hT.on hu) (b := b) (c := c) hc.2 hf.1 hf.2.1 hf.2.2
    have HFI : Hid (∀ u, _) := fun u => fits_yes (b := b) (c := c) hf.1 hf.2.1 hf.2.2 u
    clear hT hc hf
    generalize roomV c = r at *
    go_enter Tryz.func3, Tryz.ntmps3
    go_upto_region 8 with (first
      | (go_at_call 13; refine (HRO.out _).mono ?_; rintro e z ⟨rfl, hz⟩; subst z; clear HRO)
      | (go_at_call 12; refine (HFI.out _).mono ?_; rintro e z ⟨rfl, hz⟩; subst z; clear HFI)
      | (go_at_call 11; refine (HMK.out _ ((K1.out.trans (K2.out.2.mono K1.out.size)).trans ((below_alloc u2 _).mono (Nat.le_trans K1.out.size K2.out.2.size)))).mono ?_; rintro e u3 ⟨q2, rfl, hq⟩; have K3 := Lib.hid hq.out; clear HMK hq)
      | (go_at_call 11; refine (HMK.out _ K1.out).mono ?_; rintro e u2 ⟨q1, rfl, hq⟩; have K2 := Lib.hid hq.out; clear hq)
      | (go_at_call 10; refine (HRR.out _).mono ?_; rintro e z ⟨rfl, hz⟩; subst z; clear HRR)
      | (go_at_call 9; refine (HLV.out _ (Below.refl _ _)).mono ?_; rintro e u1 ⟨rfl, k1⟩; have K1 := Lib.hid k1; clear k1 HLV))
    have kA := K1.out
    have kB := kA.trans (K2.out.2.mono kA.size)
    have HW : Hid (Tw2 W b r q1 q2 u2.heap.size u3.heap.size (u3.alloc (tO q2))) := by
      have k3 := K3.out.2
      have kC := below_chain (below_alloc u2 (tO q1)) k3
      have kD := below_alloc u3 (tO q2)
      have h7 := (k3.block _ (lt_of_block (heap_alloc_new u2 (tO q1)))).trans (heap_alloc_new u2 (tO q1))
      exact ⟨(kB.trans (kC.mono kB.size)).trans (kD.mono (Nat.le_trans kB.size kC.size)), (heap_alloc_old u3 _ (lt_of_block h7)).trans h7, heap_alloc_new _ _, K2.out.1.on (below_chain kC kD), K3.out.1.on kD⟩
    clear kA kB
    obtain ⟨g7, hg7⟩ : ∃ g7, u2.heap.size = g7 := ⟨_, rfl⟩
    rw [hg7] at HW ⊢
    obtain ⟨g9, hg9⟩ : ∃ g9, u3.heap.size = g9 := ⟨_, rfl⟩
    rw [hg9] at HW ⊢
    obtain ⟨v0, hv0⟩ : ∃ v0, v0 = u3.alloc (tO q2) := ⟨_, rfl⟩
    rw [← hv0] at HW ⊢
    clear hg7 hg9 hv0 K1 K2 K3
    go_wp2_with fail
    go_loopw [12] (fun v12 wr => ∃ k : Int, v12 = .int .i64 k ∧ 1 ≤ k ∧ k ≤ 8 ∧ Hid (Tw2 W b r q1 q2 g7 g9 wr)) (fun v12 _ => (8 - intOf v12).toNat)
    case atStart => exact ⟨1, rfl, by decide, by decide, HW.out⟩
    case round =>
      obtain ⟨k, rfl, h1, h8, HR⟩ := hrel
      by_cases h7 : k ≤ 7
      · have hlt : (k - 1).toNat < 7 := by omega
        have hck := codes_check b r h1 h7
        have ech : checkE (tagS k) (codeOf b r (k - 1).toNat) = 0 := if_pos hck
        have e1 := (HR.out.t1.row _ hlt).1
        have e2 := (HR.out.t2.row _ hlt).1
        have hcl := codes_len b r hlt
        have HCK : Hid (∀ u, Below wr.heap.size wr u → Calls Tryz.prog 15 #[.agg #[.int .i64 (tagS k), .slice (q1 (k - 1).toNat).p (q1 (k - 1).toNat).n (q1 (k - 1).toNat).c]] u fun e w' => e = .returned (.int .i64 0) ∧ Below u.heap.size u w') := fun u hu => by
          have q := check_any (tagS k) (q1 (k - 1).toNat).c (HT.out.on (HR.out.bl.trans (hu.mono HR.out.bl.size))) (((HR.out.on hu).t1.row _ hlt).2.code ((HR.out.on hu).t1.row _ hlt).1.symm) hcl
          rw [ech, ← e1] at q
          exact q
        have HSM : Hid (∀ u, Below wr.heap.size wr u → Calls Tryz.prog 16 #[.agg #[.int .i64 (tagS k), .slice (q1 (k - 1).toNat).p (q1 (k - 1).toNat).n (q1 (k - 1).toNat).c], .agg #[.int .i64 (tagS k), .slice (q2 (k - 1).toNat).p (q2 (k - 1).toNat).n (q2 (k - 1).toNat).c]] u fun e w' => e = .returned (.bool true) ∧ Below u.heap.size u w') := fun u hu => by
          have q := same5_any (tagS k) (tagS k) (q1 (k - 1).toNat).c (q2 (k - 1).toNat).c (((HR.out.on hu).t1.row _ hlt).2.code ((HR.out.on hu).t1.row _ hlt).1.symm) (((HR.out.on hu).t2.row _ hlt).2.code ((HR.out.on hu).t2.row _ hlt).1.symm) hcl hcl
          rw [sameB_rfl] at q
          rw [e1, e2]
          exact q
        have HP1 : Hid (∀ u, _) := fun u => prog_tree q1 h1 h7 u
        have HP2 : Hid (∀ u, _) := fun u => prog_tree q2 h1 h7 u
        obtain ⟨z1, hz1⟩ : ∃ z, q1 (k - 1).toNat = z := ⟨_, rfl⟩
        obtain ⟨z2, hz2⟩ : ∃ z, q2 (k - 1).toNat = z := ⟨_, rfl⟩
        rw [hz1] at HP1
        rw [hz2] at HP2
        simp only [hz1, hz2] at HCK HSM
        have hcase : (k == 2) = true ∧ tagS k = 2 ∨ ((k == 2) = false ∧ (k == 3) = true) ∧ tagS k = 2 ∨ ((k == 2) = false ∧ (k == 3) = false) ∧ tagS k = 1 := by
          rcases kinds h1 h7 with rfl | rfl | rfl | rfl | rfl | rfl | rfl <;> decide
        have HB := Lib.hid (And.intro HR.out.b7 HR.out.b9)
        have HRR := Lib.hid HR.out
        clear hck ech e1 e2 hcl hz1 hz2 hlt HR h8
        rcases hcase with ⟨c1, ct⟩ | ⟨⟨c1, c2⟩, ct⟩ | ⟨⟨c1, c2⟩, ct⟩
        all_goals rw [ct] at HP1 HP2 HCK HSM
        all_goals clear ct
        all_goals go_wp2_with (first
          | (have x3q := X3.out; go_at_call 16; clear x3q; refine (HSM.out _ (below_chain (below_chain X2.out.1 (below_alloc w2 _)) X3.out)).mono ?_; rintro e w4 ⟨rfl, k4⟩; have X4 := Lib.hid (below_chain (below_chain (below_chain X2.out.1 (below_alloc w2 _)) X3.out) k4); clear k4 HSM)
          | (have x2q := X2.out.1; go_at_call 15; clear x2q; refine (HCK.out _ (below_chain X2.out.1 (below_alloc w2 _))).mono ?_; rintro e w3 ⟨rfl, k3⟩; have X3 := Lib.hid k3; clear y0 y1 y2; obtain ⟨y0, y1, y2⟩ := cells2_of ((k3.block _ (lt_of_block ((heap_alloc_old w2 _ (lt_of_block X2.out.2)).trans X2.out.2))).trans ((heap_alloc_old w2 _ (lt_of_block X2.out.2)).trans X2.out.2)); obtain ⟨y3, y4, y5⟩ := cells2_of ((k3.block _ (lt_of_block (heap_alloc_new w2 _))).trans (heap_alloc_new w2 _)); clear k3 HCK)
          | (have x1q := X1.out.1; go_at_call 14; clear x1q; refine (HP2.out _).mono ?_; rintro e w2 ⟨rfl, k2⟩; have X2 := Lib.hid (mk_two X1.out.1 k2); obtain ⟨y0, y1, y2⟩ := cells2_of X2.out.2; clear k2 HP2)
          | (have x1q := X1.out.1; clear x1q; refine wpList_load_row rfl 28 _ rfl g9 rfl _ _ _ _ ((heap_alloc_old w1 _ (lt_of_block X1.out.2)).trans X1.out.2) Tryz.underlying28 rfl treeInfo ?_)
          | (go_at_call 14; refine (HP1.out _).mono ?_; rintro e w1 ⟨rfl, k1⟩; have X1 := Lib.hid (And.intro k1 ((k1.block _ (lt_of_block HB.out.2)).trans HB.out.2)); clear k1 HP1)
          | (refine wpList_load_row rfl 28 _ rfl g7 rfl _ _ _ _ HB.out.1 Tryz.underlying28 rfl treeInfo ?_))
        all_goals exact ⟨⟨k + 1, rfl, by omega, by omega, HRR.out.on X4.out⟩, by simp [intOf]; omega⟩
      · have HL := Lib.hid HR.out.bl
        clear HR HT
        go_wp2_with fail
        go_ret
        exact ⟨rfl, HL.out⟩
  · have HMK : Hid (∀ u, _) := fun u => make_Z (w := u) (b := b) hc.2 hc.1 hf
    have HFI : Hid (∀ u, _) := fun u => fits_no (b := b) (c := c) hc.2 hc.1 hf u
    clear hT hc hf
    generalize roomV c = r at *
    go_enter Tryz.func3, Tryz.ntmps3
    go_upto_region 8 with (first
      | (go_at_call 13; refine (HRO.out _).mono ?_; rintro e z ⟨rfl, hz⟩; subst z; clear HRO)
      | (go_at_call 12; refine (HFI.out _).mono ?_; rintro e z ⟨rfl, hz⟩; subst z; clear HFI)
      | (have k2q := K2.out; go_at_call 11; clear k2q; refine (HMK.out _).mono ?_; rintro e u3 ⟨rfl, hq⟩; have K3 := Lib.hid hq; clear HMK hq)
      | (go_at_call 11; refine (HMK.out _).mono ?_; rintro e u2 ⟨rfl, hq⟩; have K2 := Lib.hid hq; clear hq)
      | (go_at_call 10; refine (HRR.out _).mono ?_; rintro e z ⟨rfl, hz⟩; subst z; clear HRR)
      | (go_at_call 9; refine (HLV.out _ (Below.refl _ _)).mono ?_; rintro e u1 ⟨rfl, k1⟩; have K1 := Lib.hid k1; clear k1 HLV))
    have kA := K1.out
    have kB := kA.trans (K2.out.mono kA.size)
    have HW : Hid (Tw0 W u2.heap.size u3.heap.size (u3.alloc oZ)) := by
      have k3 := K3.out
      have kC := below_chain (below_alloc u2 oZ) k3
      have kD := below_alloc u3 oZ
      have h7 := (k3.block _ (lt_of_block (heap_alloc_new u2 oZ))).trans (heap_alloc_new u2 oZ)
      exact ⟨(kB.trans (kC.mono kB.size)).trans (kD.mono (Nat.le_trans kB.size kC.size)), (heap_alloc_old u3 _ (lt_of_block h7)).trans h7, heap_alloc_new _ _⟩
    clear kA kB
    obtain ⟨g7, hg7⟩ : ∃ g7, u2.heap.size = g7 := ⟨_, rfl⟩
    rw [hg7] at HW ⊢
    obtain ⟨g9, hg9⟩ : ∃ g9, u3.heap.size = g9 := ⟨_, rfl⟩
    rw [hg9] at HW ⊢
    obtain ⟨v0, hv0⟩ : ∃ v0, v0 = u3.alloc oZ := ⟨_, rfl⟩
    rw [← hv0] at HW ⊢
    clear hg7 hg9 hv0 K1 K2 K3 HT
    go_wp2_with fail
    go_loopw [12] (fun v12 wr => ∃ k : Int, v12 = .int .i64 k ∧ 1 ≤ k ∧ k ≤ 8 ∧ Hid (Tw0 W g7 g9 wr)) (fun v12 _ => (8 - intOf v12).toNat)
    case atStart => exact ⟨1, rfl, by decide, by decide, HW.out⟩
    case round =>
      obtain ⟨k, rfl, h1, h8, HR⟩ := hrel
      by_cases h7 : k ≤ 7
      · have HP : Hid (∀ u, _) := fun u => prog_Z h1 h7 u
        have HB := Lib.hid (And.intro HR.out.b7 HR.out.b9)
        have HRR := Lib.hid HR.out
        clear HR h8
        go_wp2_with (first
          | (have x1q := X1.out.1; go_at_call 14; clear x1q; refine (HP.out _).mono ?_; rintro e w2 ⟨rfl, k2⟩; have X2 := Lib.hid (mk_two X1.out.1 k2); obtain ⟨y0, y1, y2⟩ := cells2_of X2.out.2; clear k2 HP)
          | (have x1q := X1.out.1; clear x1q; refine wpList_load_row rfl 28 _ rfl g9 rfl _ tZ _ _ ((heap_alloc_old w1 _ (lt_of_block X1.out.2)).trans X1.out.2) Tryz.underlying28 rfl treeInfo ?_)
          | (go_at_call 14; refine (HP.out _).mono ?_; rintro e w1 ⟨rfl, k1⟩; have X1 := Lib.hid (And.intro k1 ((k1.block _ (lt_of_block HB.out.2)).trans HB.out.2)); clear k1)
          | (refine wpList_load_row rfl 28 _ rfl g7 rfl _ tZ _ _ HB.out.1 Tryz.underlying28 rfl treeInfo ?_))
        exact ⟨⟨k + 1, rfl, by omega, by omega, HRR.out.on (below_chain X2.out.1 (below_alloc w2 _))⟩, by simp [intOf]; omega⟩
      · have HL := Lib.hid HR.out.bl
        clear HR
        go_wp2_with fail
        go_ret
        exact ⟨rfl, HL.out⟩
end
end Go.Proofs.YtdodhpfdldkbdaaGreatDoor.Tr
