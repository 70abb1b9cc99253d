import Derived.Test.YtpimfhkigbcniaaW5
namespace Go.Proofs.Ytpimfhkigbcniaa.Bo
open Go.ChangeShapes Go.WideShapes Go.ChangeAt Go.RowKit Go.Shelf Md En
attribute [local go_sem] Oper.semAt_some

/-- the boxes of Late: its config, its two results -/
structure Bx3 (a b c e : Int) (w w1 : World) : Prop where
  cfg : w1.heap[w.heap.size]? = some (.cells #[.int .i64 a, .int .i64 b, .int .i64 c, .int .i64 e] 23 (0, 0))
  r1 : w1.heap[w.heap.size + 1]? = some (.cells #[.int .i64 0] 3 (0, 0))
  r2 : w1.heap[w.heap.size + 1 + 1]? = some (.cells #[.int .i64 0] 25 (0, 0))
  bl : Below w.heap.size w w1
abbrev wB (a b c e : Int) (w : World) : World := ((w.alloc (.cells #[.int .i64 a, .int .i64 b, .int .i64 c, .int .i64 e] 23)).alloc (.cells #[.int .i64 0] 3)).alloc (.cells #[.int .i64 0] 25)
section
variable {a b c e : Int} {w w1 w2 : World}
theorem bx_new : Bx3 a b c e w (wB a b c e w) := by
  refine ⟨?_, ?_, ?_, (((Below.refl _ w).alloc (Nat.le_refl _) _).alloc (by simp) _).alloc (by simp; omega) _⟩
  · exact (Below.heap_alloc _ _ _ (by simp; omega)).trans ((Below.heap_alloc _ _ _ (by simp)).trans (heap_alloc_new w _))
  · have := (Below.heap_alloc _ (.cells #[.int .i64 0] 25) _ (by simp)).trans (heap_alloc_new (w.alloc (.cells #[.int .i64 a, .int .i64 b, .int .i64 c, .int .i64 e] 23)) (.cells #[.int .i64 0] 3))
    rwa [World.size_alloc] at this
  · have := heap_alloc_new ((w.alloc (.cells #[.int .i64 a, .int .i64 b, .int .i64 c, .int .i64 e] 23)).alloc (.cells #[.int .i64 0] 3)) (.cells #[.int .i64 0] 25)
    rwa [World.size_alloc, World.size_alloc] at this
theorem Bx3.on (h : Bx3 a b c e w w1) (hb : Below w1.heap.size w1 w2) : Bx3 a b c e w w2 :=
  ⟨(hb.block _ (lt_of_block h.cfg)).trans h.cfg, (hb.block _ (lt_of_block h.r1)).trans h.r1, (hb.block _ (lt_of_block h.r2)).trans h.r2, h.bl.trans (hb.mono h.bl.size)⟩
theorem box1 {t : TypeId} {v : Value} {x : Nat} (h : w1.heap[x]? = some (.cells #[v] t (0, 0))) : w1.cell? ⟨x, 0, none⟩ = some v ∧ w1.frozen? ⟨x, 0, none⟩ = false :=
  ⟨by rw [cell_of_row _ _ 0 _ _ _ h]; rfl, by rw [World.frozen?, show w1.heap[(⟨x, 0, none⟩ : Addr).block]? = _ from h]; rfl⟩
theorem two_set {x : Nat} {v v' u u' : Value} (h1 : w1.cell? ⟨x, 0, none⟩ = some u) (h2 : w1.cell? ⟨x + 1, 0, none⟩ = some u') :
    ((w1.setCell ⟨x, 0, none⟩ v).setCell ⟨x + 1, 0, none⟩ v').cell? ⟨x, 0, none⟩ = some v ∧ ((w1.setCell ⟨x, 0, none⟩ v).setCell ⟨x + 1, 0, none⟩ v').cell? ⟨x + 1, 0, none⟩ = some v' := by
  have h3 : (w1.setCell ⟨x, 0, none⟩ v).cell? ⟨x + 1, 0, none⟩ = some u' := by rw [World.cell?_setCell_other _ _ _ _ (by simp)]; exact h2
  exact ⟨by rw [World.cell?_setCell_other _ _ _ _ (by simp)]; exact World.cell?_setCell_same' _ _ _ (by rw [h1]; rfl), World.cell?_setCell_same' _ _ _ (by rw [h3]; rfl)⟩
end
section
variable (a b c e : Int) (p : Option Addr) (len cap : Nat) (w : World)
set_option maxRecDepth 100000 in
theorem late_cfg (hc : cfgB a b c e = false) : Calls Try.prog 11 #[cfgV a b c e, .slice p len cap] w fun r w' => r = .returned (noV 1) ∧ Below w.heap.size w w' := by
  have HR := Lib.hid (fun W => reader_no a b c e W hc)
  clear hc
  go_enter Try.func11, Try.ntmps11
  go_wp2_with (go_at_call 7; refine (HR.out _).mono ?_; rintro r w1 ⟨rfl, hb⟩; have HX := Lib.hid ((bx_new (a := a) (b := b) (c := c) (e := e)).on hb); obtain ⟨u1, u2⟩ := box1 HX.out.r1; obtain ⟨u3, u4⟩ := box1 HX.out.r2; clear hb)
  refine bodyPost_ret (v := noV 1) (by simp [results, Try.results11, go_sem, u1, u3]) rfl ?_
  exact ⟨rfl, (HX.out.bl.setCell (p := ⟨w.heap.size + 1, 0, none⟩) (by simp) _).setCell (p := ⟨w.heap.size + 1 + 1, 0, none⟩) (by simp; omega) _⟩
set_option maxRecDepth 100000 in
theorem late_his (hc : cfgB a b c e = true) (ds : List Dn) (hmx : ds.length ≤ 9223372036854775807) (hD : DnL w.heap.size w (.slice p len cap) ds) (hz : allD (cnL ds) = false) :
    Calls Try.prog 11 #[cfgV a b c e, .slice p len cap] w fun r w' => r = .returned (noV 170) ∧ Below w.heap.size w w' := by
  have HR := Lib.hid (fun W => reader_yes a b c e W hc)
  have HW := Lib.hid (fun W => writer_yes a b c e W hc)
  have HM := Lib.hid (fun W h => may18_any p len cap ds hmx W h)
  have HD := Lib.hid hD
  have HZ := Lib.hid hz
  clear hc hD hz
  go_enter Try.func11, Try.ntmps11
  go_wp2_with (first
    | (go_at_call 7; refine (HR.out _).mono ?_; rintro r w1 ⟨rfl, hb⟩; have HX1 := Lib.hid ((bx_new (a := a) (b := b) (c := c) (e := e)).on hb); obtain ⟨q0, q1, q2, q3, q4⟩ := cells4 HX1.out.cfg; clear hb)
    | (go_at_call 9; refine (HW.out _).mono ?_; rintro r w2 ⟨rfl, hb⟩; have HX2 := Lib.hid (HX1.out.on hb); clear hb q0 q1 q2 q3)
    | (go_at_call 15; refine (HM.out _ ((HD.out.below HX2.out.bl).mono HX2.out.bl.size)).mono ?_; rintro r w3 ⟨rfl, hb⟩; rw [HZ.out]; have HX := Lib.hid (HX2.out.on hb); obtain ⟨u1, u2⟩ := box1 HX.out.r1; obtain ⟨u3, u4⟩ := box1 HX.out.r2; clear hb))
  refine bodyPost_ret (v := noV 170) (by simp [results, Try.results11, go_sem, u1, u3]) rfl ?_
  exact ⟨rfl, (HX.out.bl.setCell (p := ⟨w.heap.size + 1, 0, none⟩) (by simp) _).setCell (p := ⟨w.heap.size + 1 + 1, 0, none⟩) (by simp; omega) _⟩
set_option maxRecDepth 100000 in
set_option maxHeartbeats 4000000 in
theorem late_ok (hc : cfgB a b c e = true) (ds : List Dn) (hmx : ds.length ≤ 9223372036854775807) (hD : DnL w.heap.size w (.slice p len cap) ds) (hz : allD (cnL ds) = true) :
    Calls Try.prog 11 #[cfgV a b c e, .slice p len cap] w fun r w' => r = .returned (okV (fst0 (exF (rdN c) (wrN b c e) 0 ds))) ∧ Below w.heap.size w w' := by
  have HR := Lib.hid (fun W => reader_yes a b c e W hc)
  have HW := Lib.hid (fun W => writer_yes a b c e W hc)
  have HM := Lib.hid (fun W h => may18_any p len cap ds hmx W h)
  have HD := Lib.hid hD
  have HZ := Lib.hid hz
  clear hc hD hz
  refine (callsIn_wide (n := 3)).1 (callsIn_of_wp_marks Try.func11 rfl trivial ?_ rfl)
  simp only [Try.ntmps11, List.size_toArray, List.length_cons, List.length_nil, Nat.reduceAdd, Nat.reduceSub, Array.replicate_succ, Array.replicate_zero, List.push_toArray, List.append_toArray, List.nil_append, List.cons_append]
  gi_wp2_with (first
    | (refine ⟨trivial, ?_⟩; gi_at_call 7; refine (callsIn_wide.2 (HR.out _)).mono ?_; rintro r w1 ⟨rfl, hb⟩; have HX1 := Lib.hid ((bx_new (a := a) (b := b) (c := c) (e := e)).on hb); obtain ⟨q0, q1, q2, q3, q4⟩ := cells4 HX1.out.cfg; clear hb)
    | (refine ⟨trivial, ?_⟩; gi_at_call 9; refine (callsIn_wide.2 (HW.out _)).mono ?_; rintro r w2 ⟨rfl, hb⟩; have HX2 := Lib.hid (HX1.out.on hb); clear hb q0 q1 q2 q3)
    | (refine ⟨trivial, ?_⟩; gi_at_call 15; refine (callsIn_wide.2 (HM.out _ ((HD.out.below HX2.out.bl).mono HX2.out.bl.size))).mono ?_; rintro r w3 ⟨rfl, hb⟩; rw [HZ.out]; have HX3 := Lib.hid (HX2.out.on hb); clear hb)
    | (refine ⟨trivial, ?_⟩; gi_at_call 16; refine (callsIn_wide.2 (excesses_any p len cap (rdN c) (wrN b c e) _)).mono ?_; rintro r w4 ⟨rfl, rfl⟩; have HX := Lib.hid (HX3.out.on (show Below w3.heap.size w3 (exW w3 p len cap (rdN c) (wrN b c e)) from (((Below.refl _ _).alloc (Nat.le_refl _) _).alloc (by simp) _).alloc (by simp; omega) _))))
  have hs : (exW w3 p len cap (rdN c) (wrN b c e)).heap.size = w3.heap.size + 3 := by simp
  have h3 : w.heap.size + 1 + 1 < w3.heap.size := lt_of_block HX3.out.r2
  obtain ⟨u1, u2⟩ := box1 HX.out.r1
  obtain ⟨u3, u4⟩ := box1 HX.out.r2
  refine wpIn_rangeFunc_ownF rfl (by omega) (gf := 20) (lb := #[.pointer (some ⟨w3.heap.size, 0, none⟩), .pointer (some ⟨w3.heap.size + 1, 0, none⟩), .pointer (some ⟨w3.heap.size + 1 + 1, 0, none⟩)]) rfl trivial (enters_of Try.func20 (by kernel_rfl) rfl)
    (excesses_stops _ (by omega) (fun x => x = w.heap.size + 1 ∨ x = w.heap.size + 1 + 1) w.heap.size p len cap (rdN c) (wrN b c e) ds hmx w3 (by omega) (HD.out.below HX3.out.bl) (fun x h => by rcases h with rfl | rfl <;> exact ⟨by omega, by omega⟩)) KC.trans (fun W l o o' _ h hc _ => KC.put W l o o' h hc) (Below.refl _ _) (fun _ => rfl)
    (fun pre W => (noneB pre = true ∧ (W.cell? ⟨w.heap.size + 1, 0, none⟩ = some (.int .i64 0) ∧ W.frozen? ⟨w.heap.size + 1, 0, none⟩ = false) ∧ W.cell? ⟨w.heap.size + 1 + 1, 0, none⟩ = some (.int .i64 0) ∧ W.frozen? ⟨w.heap.size + 1 + 1, 0, none⟩ = false) ∧ Below w.heap.size w W)
    (fun c pre W => (c = .ret ∧ (∃ q x, pre = q ++ [x] ∧ noneB q = true ∧ 0 < x.2 ∧ W.cell? ⟨w.heap.size + 1, 0, none⟩ = some (.int .i64 x.1) ∧ W.cell? ⟨w.heap.size + 1 + 1, 0, none⟩ = some (.int .i64 0))) ∧ Below w.heap.size w W)
    (OwnFrom.and (Own.from (fun s A B row hs hg hr => ⟨hs.1, ⟨cell_kept hs.2.1.1 hg hr, (frozen_kept hs.2.1.1 hg hr).trans hs.2.1.2⟩, cell_kept hs.2.2.1 hg hr, (frozen_kept hs.2.2.1 hg hr).trans hs.2.2.2⟩) _) (ownFrom_below (Nat.le_refl _) (by rw [hs]; omega)))
    (fun c => OwnFrom.and (Own.from (fun s A B row hs hg hr => by
      obtain ⟨e1, q, x, e2, e3, e4, e5, e6⟩ := hs
      exact ⟨e1, q, x, e2, e3, e4, cell_kept e5 hg hr, cell_kept e6 hg hr⟩) _) (ownFrom_below (Nat.le_refl _) (by rw [hs]; omega)))
    ⟨⟨rfl, ⟨u1, u2⟩, u3, u4⟩, HX.out.bl⟩
    (fun x => { tmps := #[cfgV a b c e, .slice p len cap, .pointer (some ⟨w.heap.size, 0, none⟩), undef, .pointer (some ⟨w.heap.size + 1, 0, none⟩), .pointer (some ⟨w.heap.size + 1 + 1, 0, none⟩), .int .i64 (rdN c), .int .i64 0, .int .i64 (wrN b c e), .int .i64 0, .int .i64 x.1, .int .i64 x.2, okV (rdN c), cfgV a b c e, okV (rdN c), .int .i64 (rdN c), .int .i64 0, .int .i64 0, .bool false, undef, okV (wrN b c e), cfgV a b c e, okV (wrN b c e), .int .i64 (wrN b c e), .int .i64 0, .slice p len cap, .bool true, .bool false, .slice p len cap, .int .i64 (rdN c), .int .i64 (wrN b c e), .func (.func 20) #[] #[.pointer (some ⟨w3.heap.size, 0, none⟩), .pointer (some ⟨w3.heap.size + 1, 0, none⟩), .pointer (some ⟨w3.heap.size + 1 + 1, 0, none⟩)], .int .i64 x.1, .int .i64 x.2, undef, undef, undef], defers := [] }) ?assign ?body ?done ?stop
  case assign =>
    intro l x W K hK
    gi_wp2
    exact hK
  case body =>
    rintro l pre x W ⟨⟨hp, ⟨c1, f1⟩, c2, f2⟩, hB⟩ _
    by_cases h1 : 0 < x.2
    · gi_wp2
      refine ⟨(KeepsOthers.setCell _ _ _).trans (KeepsOthers.setCell _ _ _), ⟨rfl, pre, x, rfl, hp, h1, ?_, ?_⟩, (hB.setCell (p := ⟨w.heap.size + 1, 0, none⟩) (by simp) _).setCell (p := ⟨w.heap.size + 1 + 1, 0, none⟩) (by simp; omega) _⟩
      · exact (two_set c1 c2).1
      · exact (two_set c1 c2).2
    · gi_wp2
      exact ⟨KeepsOthers.refl _, KC.refl _ _, ⟨noneB_snoc hp (by omega), ⟨c1, f1⟩, c2, f2⟩, hB⟩
  case done =>
    rintro D ys W hD' rfl ⟨⟨hp, ⟨c1, f1⟩, c2, f2⟩, hB⟩ hK
    gi_wp2
    have hK' := ((KeepsOthers.setCell W ⟨w.heap.size + 1, 0, none⟩ (.int .i64 (-1))).trans (KeepsOthers.setCell _ ⟨w.heap.size + 1 + 1, 0, none⟩ (.int .i64 0))).same D _ hK rfl
    refine ⟨by simp, .inl ⟨_, _, rfl, run_takeDeferred hK', ?_⟩⟩
    have e12 := two_set (v := .int .i64 (-1)) (v' := .int .i64 0) c1 c2
    have d1 := cell_kept e12.1 (grownBy_putObj' _ D (.deferred none)) (fun r e => by cases e; exact ⟨_, hK', rfl⟩)
    have d2 := cell_kept e12.2 (grownBy_putObj' _ D (.deferred none)) (fun r e => by cases e; exact ⟨_, hK', rfl⟩)
    refine ⟨okV (-1), ?_, by rw [fst0_none hp], ((hB.setCell (p := ⟨w.heap.size + 1, 0, none⟩) (by simp) _).setCell (p := ⟨w.heap.size + 1 + 1, 0, none⟩) (by simp; omega) _).trans (belowK_b (w := w) (Nat.le_refl _) _ D _ _ (by rw [hs] at hD'; omega) hK' rfl rfl)⟩
    simp [results, Try.f11, go_sem, d1, d2]
  case stop =>
    rintro D cc pre W hD' hpre ⟨⟨rfl, q, x, rfl, hq, hx, c1, c2⟩, hB⟩ hK
    gi_wp2
    refine ⟨by simp, .inl ⟨_, _, rfl, run_takeDeferred hK, ?_⟩⟩
    have d1 := cell_kept c1 (grownBy_putObj' _ D (.deferred none)) (fun r e => by cases e; exact ⟨_, hK, rfl⟩)
    have d2 := cell_kept c2 (grownBy_putObj' _ D (.deferred none)) (fun r e => by cases e; exact ⟨_, hK, rfl⟩)
    refine ⟨okV x.1, ?_, by rw [fst0_some hq hx hpre], hB.trans (belowK_b (w := w) (Nat.le_refl _) W D _ _ (by rw [hs] at hD'; omega) hK rfl rfl)⟩
    simp [results, Try.f11, go_sem, d1, d2]
end
end Go.Proofs.Ytpimfhkigbcniaa.Bo
