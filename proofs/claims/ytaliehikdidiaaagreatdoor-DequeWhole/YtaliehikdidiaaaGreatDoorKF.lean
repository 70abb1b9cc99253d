import Derived.Test.YtaliehikdidiaaaGreatDoorKD
namespace Go.Proofs.YtaliehikdidiaaaGreatDoor
open Go.ChangeShapes Go.WideShapes Go.ChangeAt Go.RowKit Num
attribute [local go_sem] run_store_float

theorem ask_left {fn : Func} {p : Tmp} (h : fn.results = #[.cell p 141]) {R : Ending → World → Prop} {tmps : Array Value} {w : World} (g : Nat) (k : Ask) (hp : tmps.getD p undef = .pointer (some ⟨g, 0, none⟩)) (hg : w.heap[g]? = some (askO k)) (hR : R (.returned (askV k)) w) : Leaves Tryz.prog fn tmps R [] .returning w :=
  ⟨_, results_cell_row h _ _ g _ _ _ _ hp hg Tryz.underlying141 rfl (by kernel_rfl), hR⟩
section
variable {W w : World} {b : Nat} {F0 K : List Nat} {m : Mac}
theorem Gm.shaped (h : Gm W F0 b K w m) (hT : TabAt W F0) : Shaped5 w := by
  obtain ⟨p, _, h2, _⟩ := h
  exact (hT.turn h2).1
theorem how_at (h : Gm W F0 b K w m) : w.cell? ⟨b, 29, none⟩ = some (.int .i64 m.how) := by
  obtain ⟨p, hm, _, _⟩ := h
  exact (hm.cell 29).trans rfl
set_option maxHeartbeats 1000000 in
set_option maxRecDepth 100000 in
theorem step_waits (h : Gm W F0 b K w m) (hw : 0 ≤ m.wait) : Calls Tryz.prog 90 #[.pointer (some ⟨b, 0, none⟩)] w fun e w' => e = .returned (askV (askRead m.wait)) ∧ Gm W F0 b K w' m := by
  obtain ⟨F, h1, hX⟩ := h.two (ptrO b) (askO ask0)
  have hb := h.ltB
  have h27 := (wait_at h).1
  rw [decide_eq_true hw] at h27
  have HW := Lib.hid (wants_any h1 hw)
  have HX := Lib.hid hX
  have HG := Lib.hid h1
  clear h h1 hX hw
  go_enter_defers Tryz.func90, Tryz.ntmps90
  go_wp2_with (go_at_call 123; refine HW.out.mono ?_; rintro e u0 ⟨rfl, q⟩; obtain ⟨r1, r2, r3⟩ := HX.out _ _ (HG.out.on q); obtain ⟨⟨d0, d1, d2, d3, d4⟩, d5, d6, d7, d8⟩ := askO_cells r2; have G1 := Lib.hid (And.intro r2 r3); clear q r1 r2 r3; unfold askV askRead)
  simp only [bodyPostD]
  exact ask_left rfl (w.heap.size + 1) (askRead m.wait) rfl (askO_set (k' := askRead m.wait) G1.out.1) ⟨rfl, G1.out.2 _ (turn4 _ _ (.int .i64 1) (.int .i64 m.wait) (.float .f64 0) (.bool false))⟩
set_option maxHeartbeats 1000000 in
set_option maxRecDepth 100000 in
theorem step_ended (h : Gm W F0 b K w m) (hw : ¬ 0 ≤ m.wait) (h0 : ¬ m.how = 0) : Calls Tryz.prog 90 #[.pointer (some ⟨b, 0, none⟩)] w fun e w' => e = .returned (askV askEnd) ∧ Gm W F0 b K w' m := by
  obtain ⟨F, h1, hX⟩ := h.two (ptrO b) (askO ask0)
  have hb := h.ltB
  have h27 := (wait_at h).1
  rw [decide_eq_false hw] at h27
  have h29 := how_at h
  have HG := Lib.hid ((h.alloc (ptrO b)).alloc (askO askEnd))
  clear h h1 hX hw
  go_enter_defers Tryz.func90, Tryz.ntmps90
  go_wp2
  simp only [bodyPostD]
  exact ask_left rfl (w.heap.size + 1) askEnd rfl (heap_new (by simp)) ⟨rfl, HG.out⟩
set_option maxHeartbeats 1000000 in
set_option maxRecDepth 100000 in
theorem step_gave1 (h : Gm W F0 b K w m) (hw : ¬ 0 ≤ m.wait) (h0 : m.how = 0) {e0 : Int} (hB : ∀ W F0 w, Gm W F0 b K w m → Calls Tryz.prog 127 #[.pointer (some ⟨b, 0, none⟩)] w fun r w' => r = gaveM e0 ∧ Gm W F0 b K w' m) : Calls Tryz.prog 90 #[.pointer (some ⟨b, 0, none⟩)] w fun e w' => e = .returned (askV askEnd) ∧ Gm W F0 b K w' (failM m e0).1 := by
  obtain ⟨F, h1, hX⟩ := h.two (ptrO b) (askO ask0)
  have hb := h.ltB
  have h27 := (wait_at h).1
  rw [decide_eq_false hw] at h27
  have h29 := how_at h
  rw [h0] at h29
  have HX := Lib.hid hX
  have HG : Hid (Gm ((w.alloc (ptrO b)).alloc (askO ask0)) F b K ((w.alloc (ptrO b)).alloc (askO ask0)).drew m) := h1.same (Same.drew _)
  have HBG := Lib.hid hB
  clear h h1 hX hw h0 hB
  have hmf : ∀ (fn : Fn) (first cap : Array Value) (w : World), (Instr.makeFunc fn first cap).run Tryz.prog w = .ok (.func fn first cap) w := fun _ _ _ _ => rfl
  go_enter_defers Tryz.func90, Tryz.ntmps90
  go_wp2
  refine wp_region_any (by kernel_rfl) ?_
  change wpAny _ _ _ _ _ _ _ (World.drew _)
  refine wpAny_ready (rs := [0, 1]) (by kernel_rfl) (by simp) ?_
  refine AllReady.cons rfl (fun K hK => ?_) (AllReady.cons rfl (fun K hK => ?_) (AllReady.nil))
  · go_simp
    refine hK _ _ ?_
    clear hK K
    refine wpAny_ready (rs := [1]) (by kernel_rfl) (by simp) ?_
    refine AllReady.cons rfl (fun K hK => ?_) (AllReady.nil)
    go_simp
    refine hK _ _ ?_
    clear hK K
    refine wpAny_ready (rs := [2]) (by kernel_rfl) (by simp) ?_
    refine AllReady.cons rfl (fun K hK => ?_) (AllReady.nil)
    go_simp
    refine (HBG.out _ _ _ HG.out).mono ?_
    rintro e u1 ⟨rfl, q⟩
    refine leaves_cons (f := 124) (args := #[.pointer (some ⟨w.heap.size, 0, none⟩), .pointer (some ⟨w.heap.size + 1, 0, none⟩)]) (by simp) (by simp [go_sem]) ?_
    refine (catch_gave (W := W) (F0 := F0) e0 q HX.out).mono ?_
    rintro e u' w5 ⟨rfl, rfl, c1, c2⟩
    exact ask_left rfl (w.heap.size + 1) askEnd rfl c1 ⟨rfl, c2⟩
  · go_simp
    refine hK _ _ ?_
    clear hK K
    refine wpAny_ready (rs := [0, 2]) (by kernel_rfl) (by simp) ?_
    refine AllReady.cons rfl (fun K hK => ?_) (AllReady.cons rfl (fun K hK => ?_) (AllReady.nil))
    · go_simp
      refine hK _ _ ?_
      clear hK K
      refine wpAny_ready (rs := [2]) (by kernel_rfl) (by simp) ?_
      refine AllReady.cons rfl (fun K hK => ?_) (AllReady.nil)
      go_simp
      refine (HBG.out _ _ _ HG.out).mono ?_
      rintro e u1 ⟨rfl, q⟩
      refine leaves_cons (f := 124) (args := #[.pointer (some ⟨w.heap.size, 0, none⟩), .pointer (some ⟨w.heap.size + 1, 0, none⟩)]) (by simp) (by simp [go_sem]) ?_
      refine (catch_gave (W := W) (F0 := F0) e0 q HX.out).mono ?_
      rintro e u' w5 ⟨rfl, rfl, c1, c2⟩
      exact ask_left rfl (w.heap.size + 1) askEnd rfl c1 ⟨rfl, c2⟩
    · go_simp
      refine (HBG.out _ _ _ HG.out).mono ?_
      rintro e u1 ⟨rfl, q⟩
      refine leaves_cons (f := 124) (args := #[.pointer (some ⟨w.heap.size, 0, none⟩), .pointer (some ⟨w.heap.size + 1, 0, none⟩)]) (by simp) (by simp [go_sem]) ?_
      refine (catch_gave (W := W) (F0 := F0) e0 q HX.out).mono ?_
      rintro e u' w5 ⟨rfl, rfl, c1, c2⟩
      exact ask_left rfl (w.heap.size + 1) askEnd rfl c1 ⟨rfl, c2⟩
set_option maxHeartbeats 1000000 in
set_option maxRecDepth 100000 in
theorem step_do (h : Gm W F0 b K w m) (hw : ¬ 0 ≤ m.wait) (h0 : m.how = 0) {o n : Int} {x : Nat} {m1 : Mac} {res : Mac × Ask} (hT : TabAt W F0) (hB : ∀ W F0 w, Gm W F0 b K w m → Calls Tryz.prog 127 #[.pointer (some ⟨b, 0, none⟩)] w fun r w' => r = .returned (.agg #[.int .i64 o, .int .i64 n, .float .f64 x]) ∧ Gm W F0 b K w' m1) (hD : ∀ W F0 w, Gm W F0 b K w m1 → Shaped5 w → Calls Tryz.prog 126 #[.pointer (some ⟨b, 0, none⟩), .agg #[.int .i64 o, .int .i64 n, .float .f64 x]] w fun r w' => Done W F0 b K m1 res r w') : Calls Tryz.prog 90 #[.pointer (some ⟨b, 0, none⟩)] w fun e w' => e = .returned (askV res.2) ∧ Gm W F0 b K w' res.1 := by
  obtain ⟨F, h1, hX⟩ := h.two (ptrO b) (askO ask0)
  have hb := h.ltB
  have h27 := (wait_at h).1
  rw [decide_eq_false hw] at h27
  have h29 := how_at h
  rw [h0] at h29
  have HX := Lib.hid hX
  have HG : Hid (Gm ((w.alloc (ptrO b)).alloc (askO ask0)) F b K ((w.alloc (ptrO b)).alloc (askO ask0)).drew m) := h1.same (Same.drew _)
  have HBG := Lib.hid hB
  have HDO := Lib.hid hD
  have HT := Lib.hid hT
  clear h h1 hX hw h0 hB hD hT
  have hmf : ∀ (fn : Fn) (first cap : Array Value) (w : World), (Instr.makeFunc fn first cap).run Tryz.prog w = .ok (.func fn first cap) w := fun _ _ _ _ => rfl
  go_enter_defers Tryz.func90, Tryz.ntmps90
  go_wp2
  refine wp_region_any (by kernel_rfl) ?_
  change wpAny _ _ _ _ _ _ _ (World.drew _)
  refine wpAny_ready (rs := [0, 1]) (by kernel_rfl) (by simp) ?_
  refine AllReady.cons rfl (fun K hK => ?_) (AllReady.cons rfl (fun K hK => ?_) (AllReady.nil))
  · go_simp
    refine hK _ _ ?_
    clear hK K
    refine wpAny_ready (rs := [1]) (by kernel_rfl) (by simp) ?_
    refine AllReady.cons rfl (fun K hK => ?_) (AllReady.nil)
    go_simp
    refine hK _ _ ?_
    clear hK K
    refine wpAny_ready (rs := [2]) (by kernel_rfl) (by simp) ?_
    refine AllReady.cons rfl (fun K hK => ?_) (AllReady.nil)
    go_simp
    refine (HBG.out _ _ _ HG.out).mono ?_
    rintro e u1 ⟨rfl, q⟩
    obtain ⟨r1, r2, r3⟩ := HX.out _ _ q
    obtain ⟨k0, k1⟩ := ptrO_cell r1
    have HSH := Lib.hid ((r3 _ (Turn.refl _ _)).shaped HT.out)
    clear r1 r2 r3
    have G1 := Lib.hid q
    clear q
    refine hK _ _ ?_
    clear hK K
    refine wpAny_ready (rs := [3]) (by kernel_rfl) (by simp) ?_
    refine AllReady.cons rfl (fun K hK => ?_) (AllReady.nil)
    go_simp
    refine (HDO.out _ _ _ G1.out HSH.out).mono ?_
    rintro e u2 (⟨e0, he0, rfl, q⟩ | ⟨rfl, q⟩)
    · subst he0
      refine leaves_cons (f := 124) (args := #[.pointer (some ⟨w.heap.size, 0, none⟩), .pointer (some ⟨w.heap.size + 1, 0, none⟩)]) (by simp) (by simp [go_sem]) ?_
      refine (catch_gave (W := W) (F0 := F0) e0 q HX.out).mono ?_
      rintro e u' w5 ⟨rfl, rfl, c1, c2⟩
      exact ask_left rfl (w.heap.size + 1) askEnd rfl c1 ⟨rfl, c2⟩
    · obtain ⟨r1, r2, r3⟩ := HX.out _ _ q
      obtain ⟨⟨d0, d1, d2, d3, d4⟩, d5, d6, d7, d8⟩ := askO_cells r2
      have G2 := Lib.hid (And.intro r2 r3)
      clear q r1 r2 r3
      unfold askV
      refine hK _ _ ?_
      clear hK K
      refine wpAny_ready (rs := [4]) (by kernel_rfl) (by simp) ?_
      refine AllReady.cons rfl (fun K hK => ?_) (AllReady.nil)
      go_simp
      refine hK _ _ ?_
      clear hK K
      refine wpAny_done (by kernel_rfl) ?_ _
      go_wp2
      refine leaves_cons (f := 124) (args := #[.pointer (some ⟨w.heap.size, 0, none⟩), .pointer (some ⟨w.heap.size + 1, 0, none⟩)]) (by simp) (by simp [go_sem]) ?_
      refine catch_idle.mono ?_
      rintro e u' w5 ⟨rfl, rfl, rfl⟩
      exact ask_left rfl (w.heap.size + 1) res.2 rfl (askO_set (k' := res.2) G2.out.1) ⟨rfl, G2.out.2 _ (turn4 _ _ (.int .i64 res.2.kind) (.int .i64 res.2.cell) (.float .f64 res.2.x) (.bool res.2.first))⟩
  · go_simp
    refine hK _ _ ?_
    clear hK K
    refine wpAny_ready (rs := [0, 2]) (by kernel_rfl) (by simp) ?_
    refine AllReady.cons rfl (fun K hK => ?_) (AllReady.cons rfl (fun K hK => ?_) (AllReady.nil))
    · go_simp
      refine hK _ _ ?_
      clear hK K
      refine wpAny_ready (rs := [2]) (by kernel_rfl) (by simp) ?_
      refine AllReady.cons rfl (fun K hK => ?_) (AllReady.nil)
      go_simp
      refine (HBG.out _ _ _ HG.out).mono ?_
      rintro e u1 ⟨rfl, q⟩
      obtain ⟨r1, r2, r3⟩ := HX.out _ _ q
      obtain ⟨k0, k1⟩ := ptrO_cell r1
      have HSH := Lib.hid ((r3 _ (Turn.refl _ _)).shaped HT.out)
      clear r1 r2 r3
      have G1 := Lib.hid q
      clear q
      refine hK _ _ ?_
      clear hK K
      refine wpAny_ready (rs := [3]) (by kernel_rfl) (by simp) ?_
      refine AllReady.cons rfl (fun K hK => ?_) (AllReady.nil)
      go_simp
      refine (HDO.out _ _ _ G1.out HSH.out).mono ?_
      rintro e u2 (⟨e0, he0, rfl, q⟩ | ⟨rfl, q⟩)
      · subst he0
        refine leaves_cons (f := 124) (args := #[.pointer (some ⟨w.heap.size, 0, none⟩), .pointer (some ⟨w.heap.size + 1, 0, none⟩)]) (by simp) (by simp [go_sem]) ?_
        refine (catch_gave (W := W) (F0 := F0) e0 q HX.out).mono ?_
        rintro e u' w5 ⟨rfl, rfl, c1, c2⟩
        exact ask_left rfl (w.heap.size + 1) askEnd rfl c1 ⟨rfl, c2⟩
      · obtain ⟨r1, r2, r3⟩ := HX.out _ _ q
        obtain ⟨⟨d0, d1, d2, d3, d4⟩, d5, d6, d7, d8⟩ := askO_cells r2
        have G2 := Lib.hid (And.intro r2 r3)
        clear q r1 r2 r3
        unfold askV
        refine hK _ _ ?_
        clear hK K
        refine wpAny_ready (rs := [4]) (by kernel_rfl) (by simp) ?_
        refine AllReady.cons rfl (fun K hK => ?_) (AllReady.nil)
        go_simp
        refine hK _ _ ?_
        clear hK K
        refine wpAny_done (by kernel_rfl) ?_ _
        go_wp2
        refine leaves_cons (f := 124) (args := #[.pointer (some ⟨w.heap.size, 0, none⟩), .pointer (some ⟨w.heap.size + 1, 0, none⟩)]) (by simp) (by simp [go_sem]) ?_
        refine catch_idle.mono ?_
        rintro e u' w5 ⟨rfl, rfl, rfl⟩
        exact ask_left rfl (w.heap.size + 1) res.2 rfl (askO_set (k' := res.2) G2.out.1) ⟨rfl, G2.out.2 _ (turn4 _ _ (.int .i64 res.2.kind) (.int .i64 res.2.cell) (.float .f64 res.2.x) (.bool res.2.first))⟩
    · go_simp
      refine (HBG.out _ _ _ HG.out).mono ?_
      rintro e u1 ⟨rfl, q⟩
      obtain ⟨r1, r2, r3⟩ := HX.out _ _ q
      obtain ⟨k0, k1⟩ := ptrO_cell r1
      have HSH := Lib.hid ((r3 _ (Turn.refl _ _)).shaped HT.out)
      clear r1 r2 r3
      have G1 := Lib.hid q
      clear q
      refine hK _ _ ?_
      clear hK K
      refine wpAny_ready (rs := [0]) (by kernel_rfl) (by simp) ?_
      refine AllReady.cons rfl (fun K hK => ?_) (AllReady.nil)
      go_simp
      refine hK _ _ ?_
      clear hK K
      refine wpAny_ready (rs := [3]) (by kernel_rfl) (by simp) ?_
      refine AllReady.cons rfl (fun K hK => ?_) (AllReady.nil)
      go_simp
      refine (HDO.out _ _ _ G1.out HSH.out).mono ?_
      rintro e u2 (⟨e0, he0, rfl, q⟩ | ⟨rfl, q⟩)
      · subst he0
        refine leaves_cons (f := 124) (args := #[.pointer (some ⟨w.heap.size, 0, none⟩), .pointer (some ⟨w.heap.size + 1, 0, none⟩)]) (by simp) (by simp [go_sem]) ?_
        refine (catch_gave (W := W) (F0 := F0) e0 q HX.out).mono ?_
        rintro e u' w5 ⟨rfl, rfl, c1, c2⟩
        exact ask_left rfl (w.heap.size + 1) askEnd rfl c1 ⟨rfl, c2⟩
      · obtain ⟨r1, r2, r3⟩ := HX.out _ _ q
        obtain ⟨⟨d0, d1, d2, d3, d4⟩, d5, d6, d7, d8⟩ := askO_cells r2
        have G2 := Lib.hid (And.intro r2 r3)
        clear q r1 r2 r3
        unfold askV
        refine hK _ _ ?_
        clear hK K
        refine wpAny_ready (rs := [4]) (by kernel_rfl) (by simp) ?_
        refine AllReady.cons rfl (fun K hK => ?_) (AllReady.nil)
        go_simp
        refine hK _ _ ?_
        clear hK K
        refine wpAny_done (by kernel_rfl) ?_ _
        go_wp2
        refine leaves_cons (f := 124) (args := #[.pointer (some ⟨w.heap.size, 0, none⟩), .pointer (some ⟨w.heap.size + 1, 0, none⟩)]) (by simp) (by simp [go_sem]) ?_
        refine catch_idle.mono ?_
        rintro e u' w5 ⟨rfl, rfl, rfl⟩
        exact ask_left rfl (w.heap.size + 1) res.2 rfl (askO_set (k' := res.2) G2.out.1) ⟨rfl, G2.out.2 _ (turn4 _ _ (.int .i64 res.2.kind) (.int .i64 res.2.cell) (.float .f64 res.2.x) (.bool res.2.first))⟩
end
end Go.Proofs.YtaliehikdidiaaaGreatDoor
namespace Go.Proofs.YtaliehikdidiaaaGreatDoor
open Go.ChangeShapes Go.WideShapes Go.ChangeAt Go.RowKit Num
attribute [local go_sem] run_store_float

section
variable {W w : World} {b : Nat} {F0 K : List Nat} {m : Mac}
theorem step_any (h : Gm W F0 b K w m) (hT : TabAt W F0) (hI : Inv m) : Calls Tryz.prog 90 #[.pointer (some ⟨b, 0, none⟩)] w fun e w' => e = .returned (askV (stepM m).2) ∧ Gm W F0 b K w' (stepM m).1 := by
  unfold stepM
  by_cases hw : 0 ≤ m.wait
  · rw [if_pos hw]
    exact step_waits h hw
  rw [if_neg hw]
  by_cases h0 : m.how = 0
  · rw [if_pos h0]
    by_cases hf : m.used < m.fuel
    · rw [if_pos hf]
      by_cases hp : m.place < (m.code.length : Int)
      · rw [if_pos hp]
        obtain ⟨k, hk⟩ : ∃ k : Nat, m.place = k := ⟨m.place.toNat, by have := hI.place.1; omega⟩
        have hkl : k < m.code.length := by omega
        have hmay := hI.may k hkl
        have hin : insM m = ci m.code k := by unfold insM; rw [hk, Int.toNat_natCast]
        rw [hin]
        rcases hci : ci m.code k with ⟨o, n, x⟩
        have hB : ∀ W F0 w, Gm W F0 b K w m → Calls Tryz.prog 127 #[.pointer (some ⟨b, 0, none⟩)] w fun r w' => r = .returned (.agg #[.int .i64 o, .int .i64 n, .float .f64 x]) ∧ Gm W F0 b K w' (begM m) := fun W F0 w h => by
          have := begin_ok h hf hk hkl ⟨by have := hI.fuel; omega, by have := hI.used; omega⟩ (by have := hI.len; omega)
          rw [hci] at this
          exact this
        rw [hci] at hmay
        obtain ⟨q, hq⟩ : ∃ q : Nat, o = q := ⟨o.toNat, by have := hmay.1; unfold mayB knownB at this; simp at this; omega⟩
        subst hq
        have hre : (begM m).reads.length ≤ 1024 := by
          have h1 := hI.reads
          have h2 := hI.used
          have h3 := hI.fuel
          rw [if_neg hw] at h1
          show m.reads.length ≤ 1024
          omega
        have hou : (begM m).out.length ≤ 1024 := by
          have h1 := hI.out
          have h2 := hI.used
          have h3 := hI.fuel
          show m.out.length ≤ 1024
          omega
        have hD : ∀ W F0 w, Gm W F0 b K w (begM m) → Shaped5 w → Calls Tryz.prog 126 #[.pointer (some ⟨b, 0, none⟩), .agg #[.int .i64 (q : Int), .int .i64 n, .float .f64 x]] w fun r w' => Done W F0 b K (begM m) (doF (begM m) ⟨q, n, x⟩) r w' := fun W F0 w h hT => do_any h hT hmay.1 hI.st hI.cells.2 hre hou
        exact step_do h hw h0 hT hB hD
      · rw [if_neg hp]
        exact step_gave1 h hw h0 (e0 := 50) (fun W F0 w h => (begin_far h hf hp).mono fun r w' ⟨a1, a2⟩ => ⟨a1, h.on a2⟩)
    · rw [if_neg hf]
      exact step_gave1 h hw h0 (e0 := 80) (fun W F0 w h => (begin_fuel h hf).mono fun r w' ⟨a1, a2⟩ => ⟨a1, h.on a2⟩)
  · rw [if_neg h0]
    exact step_ended h hw h0
set_option maxHeartbeats 600000 in
set_option maxRecDepth 100000 in
theorem give_any (h : Gm W F0 b K w m) (hI : Inv m) (x : Nat) : Calls Tryz.prog 92 #[.pointer (some ⟨b, 0, none⟩), .float .f64 x] w fun e w' => e = .returned (.int .i64 (giveE m)) ∧ Gm W F0 b K w' (giveM m x) := by
  have hb := h.ltB
  have h27 := (wait_at h).1
  have f27 := h.free 27
  unfold giveE giveM
  by_cases hw : 0 ≤ m.wait
  · rw [if_pos hw, if_pos hw]
    rw [decide_eq_true hw] at h27
    have h28 : w.cell? ⟨b, 28, none⟩ = some (.int .i64 m.wait) := by
      obtain ⟨p, hm, _, _⟩ := h
      rw [← hm.wt hw]
      exact (hm.cell 28).trans rfl
    have g1 : Gm W F0 b K (w.setCell ⟨b, 27, none⟩ (.bool false)) { m with wait := -1 } := h.set 27 (.bool false) { m with wait := -1 } (fun p _ => ⟨p.wt, rfl, fun z => absurd z (show ¬ (0 : Int) ≤ -1 by decide)⟩) ⟨rfl, rfl, rfl, rfl, rfl, rfl, rfl⟩
    have HG := Lib.hid (g1.same (Same.drew _))
    have hl : m.st.length < 64 := by
      have := hI.high
      rw [if_pos hw] at this
      omega
    have hr : m.reads.length ≤ 1024 := by
      have h1 := hI.reads
      have h2 := hI.used
      have h3 := hI.fuel
      rw [if_pos hw] at h1
      omega
    have HS := Lib.hid (And.intro hl hr)
    clear h g1 hI hl hr hw
    go_enter Tryz.func92, Tryz.ntmps92
    go_wp2
    refine region_tail 7 (by kernel_rfl) ?_
    simp only [List.take_succ_cons, List.take_zero, List.drop_succ_cons, List.drop_zero]
    repeat (first | still_step | still_call (fix_any x _))
    refine wpStill_nil ?_
    go_wp2_with (go_at_call 128; refine (hasRead_any HG.out m.wait (fixB x) HS.out.1 HS.out.2).mono ?_; rintro e u1 ⟨rfl, q⟩; have G1 := Lib.hid q; clear q)
    go_ret
    exact ⟨rfl, G1.out⟩
  · rw [if_neg hw, if_neg hw]
    rw [decide_eq_false hw] at h27
    have HG := Lib.hid h
    clear h hI hw
    go_enter Tryz.func92, Tryz.ntmps92
    go_wp2
    go_ret
    exact ⟨rfl, HG.out⟩
end
end Go.Proofs.YtaliehikdidiaaaGreatDoor
