import Derived.Test.YtjicnjncdmknmaaGreatDoorKU
namespace Go.Proofs.YtjicnjncdmknmaaGreatDoor
open Go.ChangeShapes Go.WideShapes Go.ChangeAt Go.RowKit Num
attribute [local go_sem] run_store_float

theorem and7 (b : Int) : ∃ q : Int, 0 ≤ q ∧ q ≤ 7 ∧ Go.bits .and .i64 b 7 = q := by
  refine ⟨_, ?_, ?_, rfl⟩ <;>
  · show _ ≤ _
    unfold Go.bits
    simp only []
    have h1 : (BitVec.ofInt IntKind.i64.bits b &&& BitVec.ofInt IntKind.i64.bits 7).toNat ≤ 7 := by
      rw [BitVec.toNat_and]
      exact Nat.le_trans Nat.and_le_right (by decide)
    rw [IntKind.wrap_i64]
    omega
/-- how many threads the other machine has -/
theorem threads_eight (b : Int) : 1 ≤ wrap64 (1 + (wrap64 (Go.bits .and .i64 b 7 + 3)).tmod 8) ∧ wrap64 (1 + (wrap64 (Go.bits .and .i64 b 7 + 3)).tmod 8) ≤ 8 := by
  obtain ⟨q, h1, h2, h3⟩ := and7 b
  rw [h3]
  have : q = 0 ∨ q = 1 ∨ q = 2 ∨ q = 3 ∨ q = 4 ∨ q = 5 ∨ q = 6 ∨ q = 7 := by omega
  rcases this with rfl | rfl | rfl | rfl | rfl | rfl | rfl | rfl <;> (unfold wrap64; decide)
theorem alike_boxes {W u0 u : World} {a b c e t d : Int} {ao : Option Addr} {n cap : Nat} (h : Below (newW W a b c e t ao n cap).heap.size (newW W a b c e t ao n cap) u0) (q : Below (u0.alloc (cfgO a d c e)).heap.size (u0.alloc (cfgO a d c e)) u) :
    (u.cell? ⟨W.heap.size, 0, none⟩ = some (.int .i64 a) ∧ u.cell? ⟨W.heap.size, 1, none⟩ = some (.int .i64 b) ∧ u.cell? ⟨W.heap.size, 2, none⟩ = some (.int .i64 c) ∧ u.cell? ⟨W.heap.size, 3, none⟩ = some (.int .i64 e) ∧ W.heap.size < u.heap.size) ∧
    (u.cell? ⟨W.heap.size + 1, 0, none⟩ = some (.int .i64 t) ∧ u.cell? ⟨W.heap.size + 1, 1, none⟩ = some (.slice ao n cap) ∧ W.heap.size + 1 < u.heap.size) ∧
    (u.cell? ⟨u0.heap.size, 0, none⟩ = some (.int .i64 a) ∧ u.cell? ⟨u0.heap.size, 1, none⟩ = some (.int .i64 d) ∧ u.cell? ⟨u0.heap.size, 2, none⟩ = some (.int .i64 c) ∧ u.cell? ⟨u0.heap.size, 3, none⟩ = some (.int .i64 e) ∧ u0.heap.size < u.heap.size) ∧
    Below (newW W a b c e t ao n cap).heap.size (newW W a b c e t ao n cap) u ∧ Below W.heap.size W u := by
  have h1 : Below (newW W a b c e t ao n cap).heap.size (newW W a b c e t ao n cap) u := h.trans (((below_alloc u0 _).trans (q.mono (by simp))).mono h.size)
  exact ⟨newW_boxes4 h1, (newW_boxes h1).2.1, Md.cells4 ((q.block _ (by simp)).trans (heap_alloc_new u0 _)), h1, (newW_boxes h1).2.2⟩
theorem TwoM.step_box {N wr : World} {b1 b2 : Nat} {K1 K2 : List Nat} {m1 m2 : Mac} (h : TwoM N wr b1 b2 K1 K2 m1 m2) (hI : Inv m2) (o : Obj) : Calls Tryz.prog 14 #[.pointer (some ⟨b2, 0, none⟩)] (wr.alloc o) fun e u => e = .returned (askV (stepM m2).2) ∧ TwoM N u b1 b2 K1 K2 m1 (stepM m2).1 ∧ u.heap[wr.heap.size]? = some o := by
  obtain ⟨⟨F1, F2, q1, q2, s, s1, s2, a1, a2⟩, hb, hs⟩ := h
  have hal := below_alloc wr o
  have hb' := hb.trans (hal.mono hb.size)
  refine (step_any (q2.on hal).gm ⟨hs.on hb', fun q => absurd (World.block_lt_of_cell? N _ (hs.shp 0 (by omega)).1) (Nat.not_lt.2 (a2 _ q))⟩ hI).mono fun e u ⟨r1, r2⟩ => ⟨r1, (two_turned (q1.on hal) (fun k hk z => s k z hk) s2 s1 a2 a1 hb' hs r2).swap, ?_⟩
  rw [r2.far (g := wr.heap.size) (by simp) (fun z => absurd (q2.blw _ z) (Nat.lt_irrefl _))]
  exact heap_alloc_new wr o
set_option maxHeartbeats 2000000 in
set_option maxRecDepth 100000 in
/-- where the first machine is none -/
theorem lawAlike_no {W : World} {a b c e t : Int} {ao : Option Addr} {cs : List Ins} {n cap : Nat} {po : Option Addr} {l : List Nat} {k co : Nat} {pf : Option Addr} {kf cf : Nat} (hT : Shaped5 W) (hn : cs.length = n) (hk : l.length = k) (hC : CodeAt W ao cs) (hL : FlAt W po l) (hnl : n ≤ 9223372036854775807) (hmay : (Md.cfgB a b c e && decide (k ≤ 8)) = false) : Calls Tryz.prog 8 #[cfgV a b c e, .agg #[.int .i64 t, .slice ao n cap], .slice po k co, .slice pf kf cf] W fun r W2 => r = .returned (.bool true) ∧ Below W.heap.size W W2 := by
  have HLV := Lib.hid (live_any (newW W a b c e t ao n cap) (hT.on (newW_below W a b c e t ao n cap)))
  obtain ⟨d, hd⟩ : ∃ d, wrap64 (1 + (wrap64 (Go.bits .and .i64 b 7 + 3)).tmod 8) = d := ⟨_, rfl⟩
  have HN := Lib.hid (fun w => mnew_nil (w := w) (t := t) (ao := ao) (n := n) (cap := cap) (po := po) (co := co) hmay)
  have HR := Lib.hid (fun w => rnew_nil (w := w) (t := t) (ao := ao) (n := n) (cap := cap) (po := po) (co := co) hmay)
  cases hmd : (Md.cfgB a d c e && decide (k ≤ 8))
  · have HN2 := Lib.hid (fun w => mnew_nil (w := w) (t := t) (ao := ao) (n := n) (cap := cap) (po := po) (co := co) hmd)
    have HR2 := Lib.hid (fun w => rnew_nil (w := w) (t := t) (ao := ao) (n := n) (cap := cap) (po := po) (co := co) hmd)
    clear hT hC hL hnl hmay hn hk hmd
    go_enter Tryz.func8, Tryz.ntmps8
    go_wp2_with (first
      | (go_at_call 21; have _g := B3; clear _g; refine (HR2.out _).mono ?_; rintro r u4 ⟨rfl, q⟩; have q1 := B3.out.trans (q.mono B3.out.size); have B4 := Lib.hid (alike_boxes B0.out q1).2.2.2.2; clear q q1)
      | (go_at_call 21; refine (HR.out _).mono ?_; rintro r u3 ⟨rfl, q⟩; have q1 := B2.out.trans (q.mono B2.out.size); obtain ⟨⟨v0, v1, v2, v3, v4⟩, ⟨y0, y1, y2⟩, ⟨z0, z1, z2, z3, z4⟩, _⟩ := alike_boxes B0.out q1; have B3 := Lib.hid q1; clear q q1)
      | (go_at_call 20; have _g := B1; clear _g; refine (HN2.out _).mono ?_; rintro r u2 ⟨rfl, q⟩; have q1 := B1.out.trans (q.mono B1.out.size); obtain ⟨⟨v0, v1, v2, v3, v4⟩, ⟨y0, y1, y2⟩, ⟨z0, z1, z2, z3, z4⟩, _⟩ := alike_boxes B0.out q1; have B2 := Lib.hid q1; clear q q1)
      | (go_at_call 20; refine (HN.out _).mono ?_; rintro r u1 ⟨rfl, q⟩; obtain ⟨⟨v0, v1, v2, v3, v4⟩, ⟨y0, y1, y2⟩, ⟨z0, z1, z2, z3, z4⟩, _⟩ := alike_boxes B0.out q; have B1 := Lib.hid q; clear q)
      | (go_at_call 9; refine HLV.out.mono ?_; rintro r u0 ⟨rfl, q⟩; obtain ⟨⟨x0, x1, x2, x3⟩, ⟨y0, y1, y2⟩, z0⟩ := newW_boxes q; obtain ⟨v0, v1, v2, v3, v4⟩ := newW_boxes4 q; have B0 := Lib.hid q; clear q z0))
    go_ret
    exact ⟨rfl, B4.out⟩
  · have hm : Md.cfgB a d c e = true ∧ k ≤ 8 := by simpa using hmd
    have HN2 : Hid (∀ u, Below W.heap.size W u → Calls Tryz.prog 20 #[cfgV a d c e, .agg #[.int .i64 t, .slice ao n cap], .slice po k co] u fun r w' => ∃ bm K, r = .returned (.pointer (some ⟨bm, 0, none⟩)) ∧ Gm u [] bm K w' (newM a c e t cs l) ∧ Abv u.heap.size K) := fun u hb => mnew_any hn hk (hT.on hb) (hC.on hb) (hL.on hb) hnl hm.1 hm.2
    have HR2 : Hid (∀ u, Below W.heap.size W u → Calls Tryz.prog 21 #[cfgV a d c e, .agg #[.int .i64 t, .slice ao n cap], .slice po k co] u fun r w' => ∃ br : Nat, r = .returned (.pointer (some ⟨br, 0, none⟩)) ∧ Below u.heap.size u w') := fun u hb => rnew_any hn hk (hC.on hb) (hL.on hb) hnl hm.1 hm.2
    clear hT hC hL hnl hmay hn hk hmd hm
    go_enter Tryz.func8, Tryz.ntmps8
    go_wp2_with (first
      | (go_at_call 21; have _g := B3; clear _g; refine (HR2.out _ (alike_boxes B0.out B3.out).2.2.2.2).mono ?_; rintro r u4 ⟨br, rfl, q⟩; have q1 := B3.out.trans (q.mono B3.out.size); have B4 := Lib.hid (alike_boxes B0.out q1).2.2.2.2; clear q q1)
      | (go_at_call 21; refine (HR.out _).mono ?_; rintro r u3 ⟨rfl, q⟩; have q1 := B2.out.trans (q.mono B2.out.size); obtain ⟨⟨v0, v1, v2, v3, v4⟩, ⟨y0, y1, y2⟩, ⟨z0, z1, z2, z3, z4⟩, _⟩ := alike_boxes B0.out q1; have B3 := Lib.hid q1; clear q q1)
      | (go_at_call 20; have _g := B1; clear _g; refine (HN2.out _ (alike_boxes B0.out B1.out).2.2.2.2).mono ?_; rintro r u2 ⟨bm, K, rfl, q, _⟩; have q1 := B1.out.trans (q.fresh.mono B1.out.size); obtain ⟨⟨v0, v1, v2, v3, v4⟩, ⟨y0, y1, y2⟩, ⟨z0, z1, z2, z3, z4⟩, _⟩ := alike_boxes B0.out q1; have B2 := Lib.hid q1; clear q q1)
      | (go_at_call 20; refine (HN.out _).mono ?_; rintro r u1 ⟨rfl, q⟩; obtain ⟨⟨v0, v1, v2, v3, v4⟩, ⟨y0, y1, y2⟩, ⟨z0, z1, z2, z3, z4⟩, _⟩ := alike_boxes B0.out q; have B1 := Lib.hid q; clear q)
      | (go_at_call 9; refine HLV.out.mono ?_; rintro r u0 ⟨rfl, q⟩; obtain ⟨⟨x0, x1, x2, x3⟩, ⟨y0, y1, y2⟩, z0⟩ := newW_boxes q; obtain ⟨v0, v1, v2, v3, v4⟩ := newW_boxes4 q; have B0 := Lib.hid q; clear q z0))
    go_ret
    exact ⟨rfl, B4.out⟩
end Go.Proofs.YtjicnjncdmknmaaGreatDoor
