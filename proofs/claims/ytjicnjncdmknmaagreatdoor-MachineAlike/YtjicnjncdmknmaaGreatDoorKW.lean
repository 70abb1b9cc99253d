import Derived.Test.YtjicnjncdmknmaaGreatDoorKV
namespace Go.Proofs.YtjicnjncdmknmaaGreatDoor
open Go.ChangeShapes Go.WideShapes Go.ChangeAt Go.RowKit Num
attribute [local go_sem] run_store_float

set_option maxHeartbeats 2000000 in
set_option maxRecDepth 100000 in
theorem lawAlike_any {W : World} {a b c e t : Int} {ao : Option Addr} {cs : List Ins} {n cap : Nat} {po : Option Addr} {l : List Nat} {k co : Nat} {pf : Option Addr} {f : List Nat} {kf cf : Nat} (hT : Shaped5 W) (hn : cs.length = n) (hk : l.length = k) (hkf : f.length = kf) (hC : CodeAt W ao cs) (hx : ∀ i ∈ cs, i.x < 18446744073709551616) (hL : FlAt W po l) (hl : ∀ x ∈ l, x < 18446744073709551616) (hF : FlAt W pf f) (hf : ∀ x ∈ f, x < 18446744073709551616) (hnl : n ≤ 9223372036854775807) : Calls Tryz.prog 8 #[cfgV a b c e, .agg #[.int .i64 t, .slice ao n cap], .slice po k co, .slice pf kf cf] W fun r W2 => r = .returned (.bool true) ∧ Below W.heap.size W W2 := by
  cases hmay : (Md.cfgB a b c e && decide (k ≤ 8))
  · exact lawAlike_no hT hn hk hC hL hnl hmay
  · have HLV := Lib.hid (live_any (newW W a b c e t ao n cap) (hT.on (newW_below W a b c e t ao n cap)))
    have hm : Md.cfgB a b c e = true ∧ k ≤ 8 := by simpa using hmay
    have hcf := Md.cfgB_iff.1 hm.1
    have ht8 := threads_eight b
    obtain ⟨d, hd⟩ : ∃ d, wrap64 (1 + (wrap64 (Go.bits .and .i64 b 7 + 3)).tmod 8) = d := ⟨_, rfl⟩
    rw [hd] at ht8
    have hmd : Md.cfgB a d c e = true := Md.cfgB_iff.2 ⟨hcf.1, ht8, hcf.2.2⟩
    have HN : Hid (∀ u, Below W.heap.size W u → Calls Tryz.prog 20 #[cfgV a b c e, .agg #[.int .i64 t, .slice ao n cap], .slice po k co] u fun r w' => ∃ bm K, r = .returned (.pointer (some ⟨bm, 0, none⟩)) ∧ Gm u [] bm K w' (newM a c e t cs l) ∧ Abv u.heap.size K) := fun u hb => mnew_any hn hk (hT.on hb) (hC.on hb) (hL.on hb) hnl hm.1 hm.2
    have HR : Hid (∀ u, Below W.heap.size W u → Calls Tryz.prog 21 #[cfgV a b c e, .agg #[.int .i64 t, .slice ao n cap], .slice po k co] u fun r w' => ∃ br : Nat, r = .returned (.pointer (some ⟨br, 0, none⟩)) ∧ Below u.heap.size u w') := fun u hb => rnew_any hn hk (hC.on hb) (hL.on hb) hnl hm.1 hm.2
    have HN2 : Hid (∀ u, Below W.heap.size W u → Calls Tryz.prog 20 #[cfgV a d c e, .agg #[.int .i64 t, .slice ao n cap], .slice po k co] u fun r w' => ∃ bm K, r = .returned (.pointer (some ⟨bm, 0, none⟩)) ∧ Gm u [] bm K w' (newM a c e t cs l) ∧ Abv u.heap.size K) := fun u hb => mnew_any hn hk (hT.on hb) (hC.on hb) (hL.on hb) hnl hmd hm.2
    have HR2 : Hid (∀ u, Below W.heap.size W u → Calls Tryz.prog 21 #[cfgV a d c e, .agg #[.int .i64 t, .slice ao n cap], .slice po k co] u fun r w' => ∃ br : Nat, r = .returned (.pointer (some ⟨br, 0, none⟩)) ∧ Below u.heap.size u w') := fun u hb => rnew_any hn hk (hC.on hb) (hL.on hb) hnl hmd hm.2
    have HI : Hid (Inv (newM a c e t cs l)) := inv_new hm.1 (fun j hj => hx _ (List.mem_of_getElem? (ci_lt hj))) hl
    have HFD : Hid (∀ u, Below W.heap.size W u → ∀ g : Nat, Calls Tryz.prog 27 #[.slice pf kf cf, .int .i64 (g : Int)] u fun r w' => r = .returned (.float .f64 (fedV f g)) ∧ w' = u) := fun u hb g => fed_any (hF.on hb) hkf g
    have HFL := Lib.hid (fedV_lt hf)
    have HTW := Lib.hid hT
    have HCF : Hid (1 ≤ c ∧ c ≤ 1024) := hcf.2.2.1
    clear hT hC hx hL hl hF hf hnl hmay hn hk hkf hm hcf hmd ht8
    generalize hm0 : newM a c e t cs l = m0 at HN HN2 HI
    have HM0 : Hid (m0.fuel = c) := by subst hm0; exact rfl
    have HM1 : Hid (¬ 0 ≤ m0.wait ∧ m0.how = 0 ∧ m0.used = 0) := by subst hm0; exact ⟨show ¬ (0 : Int) ≤ -1 by decide, rfl, rfl⟩
    clear hm0
    go_enter Tryz.func8, Tryz.ntmps8
    go_wp2_with (first
      | (go_at_call 21; have _g := B3; clear _g; refine (HR2.out _ (alike_boxes B0.out B3.out).2.2.2.2).mono ?_; rintro r u4 ⟨br2, rfl, q⟩; have q1 := B3.out.trans (q.mono B3.out.size); obtain ⟨⟨v0, v1, v2, v3, v4⟩, _⟩ := alike_boxes B0.out q1; have G4 := Lib.hid (G3.out.on q); clear q q1)
      | (go_at_call 21; refine (HR.out _ (alike_boxes B0.out B2.out).2.2.2.2).mono ?_; rintro r u3 ⟨br, rfl, q⟩; have q1 := B2.out.trans (q.mono B2.out.size); obtain ⟨⟨v0, v1, v2, v3, v4⟩, ⟨y0, y1, y2⟩, ⟨z0, z1, z2, z3, z4⟩, _⟩ := alike_boxes B0.out q1; have G3 := Lib.hid (G2.out.on q); have B3 := Lib.hid q1; clear q q1)
      | (go_at_call 20; have _g := B1; clear _g; refine (HN2.out _ (alike_boxes B0.out B1.out).2.2.2.2).mono ?_; rintro r u2 ⟨bm2, K2, rfl, q, qa⟩; have q1 := B1.out.trans (q.fresh.mono B1.out.size); obtain ⟨⟨v0, v1, v2, v3, v4⟩, ⟨y0, y1, y2⟩, ⟨z0, z1, z2, z3, z4⟩, _⟩ := alike_boxes B0.out q1; have G2 := Lib.hid (two_made G1.out q qa (HTW.out.on (alike_boxes B0.out (Below.refl _ _)).2.2.2.2)); have B2 := Lib.hid q1; clear q q1 qa)
      | (go_at_call 20; refine (HN.out _ (alike_boxes B0.out (Below.refl _ _)).2.2.2.2).mono ?_; rintro r u1 ⟨bm, K, rfl, q, _⟩; have q1 := q.fresh; obtain ⟨⟨v0, v1, v2, v3, v4⟩, ⟨y0, y1, y2⟩, ⟨z0, z1, z2, z3, z4⟩, _⟩ := alike_boxes B0.out q1; have G1 := Lib.hid q; have B1 := Lib.hid q1; clear q q1)
      | (go_at_call 9; refine HLV.out.mono ?_; rintro r u0 ⟨rfl, q⟩; obtain ⟨⟨x0, x1, x2, x3⟩, ⟨y0, y1, y2⟩, z0⟩ := newW_boxes q; obtain ⟨v0, v1, v2, v3, v4⟩ := newW_boxes4 q; have B0 := Lib.hid q; clear q z0))
    have HOB : Hid (∀ u, Below (u0.alloc (cfgO a d c e)).heap.size (u0.alloc (cfgO a d c e)) u → (u.cell? ⟨W.heap.size, 2, none⟩ = some (.int .i64 c) ∧ W.heap.size < u.heap.size) ∧ Below W.heap.size W u) := fun u hb => ⟨⟨(alike_boxes B0.out hb).1.2.2.1, (alike_boxes B0.out hb).1.2.2.2.2⟩, (alike_boxes B0.out hb).2.2.2.2⟩
    clear HN HR HN2 HR2 HLV G1 G2 G3 B1 B2 B3 v0 v1 v2 v3 v4 y0 y1 y2 z0 z1 z2 z3 z4 x0 x1 x2 x3
    generalize u0.alloc (cfgO a d c e) = V at HOB G4
    go_loopw [15, 16] (fun vg vi wr => ∃ g i : Nat, ∃ m, vg = .int .i64 g ∧ vi = .int .i64 i ∧ g ≤ i ∧ (i : Int) ≤ c + 1 ∧ Hid (TwoM V wr bm bm2 K K2 m m ∧ Inv m ∧ m.wait < 0 ∧ m.how = 0 ∧ m.used = i ∧ Like m0 m)) (fun _ vi _ => (c + 1 - intOf vi).toNat)
    case atStart => exact ⟨0, 0, m0, rfl, rfl, Nat.le_refl _, by have := HCF.out; simp; omega, ⟨G4.out, HI.out, by have := HM1.out.1; omega, HM1.out.2.1, HM1.out.2.2, Like.refl _⟩⟩
    case round =>
      obtain ⟨g, i, m, rfl, rfl, hgi, hic, HRN⟩ := hrel
      obtain ⟨ho, hinv, hnw, hhow, huse, hlike⟩ := HRN.out
      have hnw' : ¬ 0 ≤ m.wait := by omega
      have hus := hinv.used
      rw [huse, hlike.fuel, HM0.out] at hus
      have hic' : (i : Int) ≤ c := by omega
      obtain ⟨⟨v2, v4⟩, _⟩ := HOB.out _ ho.bl
      have HST := Lib.hid (ho.step hinv)
      have HIN := Lib.hid hinv
      have HI2 := Lib.hid (inv_step hinv)
      have ht := step_turns hinv hnw' hhow
      have HSB : Hid (∀ (wr : World) (m1 : Mac) (o : Obj), TwoM V wr bm bm2 K K2 m1 m → Calls Tryz.prog 14 #[.pointer (some ⟨bm2, 0, none⟩)] (wr.alloc o) fun e u => e = .returned (askV (stepM m).2) ∧ TwoM V u bm bm2 K K2 m1 (stepM m).1 ∧ u.heap[wr.heap.size]? = some o) := fun wr m1 o hh => hh.step_box HIN.out o
      generalize stepM m = r at HST HI2 ht HSB
      obtain ⟨m', ⟨kd, cl, xx, fi⟩⟩ := r
      obtain ⟨hlk, ht⟩ := ht
      replace HI2 : Hid (Inv m') := HI2.out
      have HLK : Hid (Like m0 m') := hlike.trans hlk
      have c1000 : c ≤ 1024 := HCF.out.2
      have HUS : Hid (m.used = i) := huse
      clear hlk hus HRN ho hinv hnw hnw' hhow huse hlike HIN
      have ht' : kd = 4 ∨ (kd = 1 ∧ 0 ≤ m'.wait ∧ m'.how = 0 ∧ m'.used = m.used + 1) ∨ (¬ kd = 4 ∧ ¬ kd = 1 ∧ m'.wait < 0 ∧ m'.how = 0 ∧ m'.used = m.used + 1) := by
        rcases ht with h | h | h
        · exact .inl h.1
        · exact .inr (.inl ⟨h.1, h.2.2.1, h.2.2.2.1, h.2.2.2.2⟩)
        · have h1 : kd = 0 ∨ kd = 2 ∨ kd = 3 := h.1
          exact .inr (.inr ⟨by omega, by omega, by have : ¬ 0 ≤ m'.wait := h.2.1; omega, h.2.2.1, h.2.2.2⟩)
      clear ht
      rcases ht' with hk4 | ⟨hk1, hwt⟩ | ⟨hk4, hk1, hgo⟩
      · subst hk4
        have HZ : Hid (m'.out.length ≤ 1024 ∧ m'.reads.length ≤ 1024 ∧ m'.buf.length ≤ 1024) := by
          have q1 := HI2.out.used
          have q2 := HI2.out.fuel
          have q3 := HI2.out.out
          have q4 := HI2.out.reads
          have q5 := HI2.out.few
          have q6 := HI2.out.wmax
          refine ⟨by omega, ?_, by omega⟩
          split at q4 <;> omega
        go_wp2_with (first
          | (go_at_call 23; have _g := U1; clear _g; obtain ⟨_, hg⟩ := GT2.out.swap.gm; refine (used_any hg).mono ?_; rintro r u ⟨rfl, hu⟩; subst u; clear hg)
          | (go_at_call 23; obtain ⟨_, hg⟩ := GT2.out.gm; refine (used_any hg).mono ?_; rintro r u ⟨rfl, hu⟩; subst u; have U1 := Lib.hid trivial; clear hg)
          | (go_at_call 33; have _g := GW2; clear _g; refine (touches_same rfl (by have := HZ.out; omega) RW1.out RW2.out).mono ?_; rintro r u14 ⟨rfl, q⟩; have GT2 := Lib.hid (GW2.out.on (q.below _)); clear q)
          | (go_at_call 24; have _g := GW1; clear _g; obtain ⟨_, hg⟩ := GW1.out.swap.gm; refine (writes_any hg).mono ?_; rintro r u13 ⟨rfl, q1, q2⟩; have RW2 := Lib.hid q1; have GW2 := Lib.hid (GW1.out.on q2); have RW1 := Lib.hid (RW0.out.on q2); clear q1 q2 hg)
          | (go_at_call 24; obtain ⟨_, hg⟩ := GT1.out.gm; refine (writes_any hg).mono ?_; rintro r u12 ⟨rfl, q1, q2⟩; have RW0 := Lib.hid q1; have GW1 := Lib.hid (GT1.out.on q2); clear q1 q2 hg)
          | (go_at_call 33; refine (touches_same rfl (by have := HZ.out; omega) RR1.out RR2.out).mono ?_; rintro r u11 ⟨rfl, q⟩; have GT1 := Lib.hid (GR2.out.on (q.below _)); clear q)
          | (go_at_call 34; have _g := GR1; clear _g; obtain ⟨_, hg⟩ := GR1.out.swap.gm; refine (reads_any hg HZ.out.2.1).mono ?_; rintro r u10 ⟨p4, c4, rfl, q1, _, q2⟩; have RR2 := Lib.hid q1; have GR2 := Lib.hid (GR1.out.on q2); have RR1 := Lib.hid (RR0.out.on q2); clear q1 q2 hg)
          | (go_at_call 34; obtain ⟨_, hg⟩ := GX1.out.gm; refine (reads_any hg HZ.out.2.1).mono ?_; rintro r u9 ⟨p3, c3, rfl, q1, _, q2⟩; have RR0 := Lib.hid q1; have GR1 := Lib.hid (GX1.out.on q2); clear q1 q2 hg)
          | (go_at_call 31; refine (exact_same rfl (by have := HZ.out; omega) RO1.out RO2.out).mono ?_; rintro r u8 ⟨rfl, q⟩; have GX1 := Lib.hid (GO2.out.on (q.below _)); clear q)
          | (go_at_call 32; have _g := GO1; clear _g; obtain ⟨_, hg⟩ := GO1.out.swap.gm; refine (out_any hg HZ.out.1).mono ?_; rintro r u7 ⟨p2, c2, rfl, q1, _, q2⟩; have RO2 := Lib.hid q1; have GO2 := Lib.hid (GO1.out.on q2); have RO1 := Lib.hid (RO0.out.on q2); clear q1 q2 hg)
          | (go_at_call 32; obtain ⟨_, hg⟩ := GE2.out.gm; refine (out_any hg HZ.out.1).mono ?_; rintro r u6 ⟨p1, c1, rfl, q1, _, q2⟩; have RO0 := Lib.hid q1; have GO1 := Lib.hid (GE2.out.on q2); clear q1 q2 hg)
          | (go_at_call 22; have _g := GE1; clear _g; obtain ⟨_, hg⟩ := GE1.out.swap.gm; refine (end_any hg).mono ?_; unfold endV; rintro r uB ⟨rfl, q⟩; have GE2 := Lib.hid (GE1.out.on q); clear q hg)
          | (go_at_call 22; obtain ⟨_, hg⟩ := G5.out.gm; refine (end_any hg).mono ?_; unfold endV; rintro r uA ⟨rfl, q⟩; have GE1 := Lib.hid (G5.out.on q); clear q hg)
          | (go_at_call 13; refine (sameAsk_any _ ⟨4, cl, xx, fi⟩).mono ?_; rintro r u5 ⟨rfl, qq⟩; have X1 := (qq.block _ (Nat.lt_trans (lt_of_block X0.out) (by simp))).trans ((heap_alloc_old _ _ (lt_of_block X0.out)).trans X0.out); obtain ⟨⟨e0, e1, e2, e3, e4⟩, _⟩ := askO_cells X1; have G5 := Lib.hid ((S4.out.alloc _).on qq); obtain ⟨⟨w2, w4⟩, _⟩ := HOB.out _ G5.out.bl; clear qq X1)
          | (go_at_call 14; have _g := S3; clear _g; refine (HSB.out _ _ (askO ⟨4, cl, xx, fi⟩) S3.out).mono ?_; rintro r u4 ⟨rfl, qq, qx⟩; obtain ⟨⟨e0, e1, e2, e3, e4⟩, _⟩ := askO_cells qx; have X0 := Lib.hid qx; have S4 := Lib.hid qq; clear qq qx; unfold askV)
          | (go_at_call 14; refine HST.out.mono ?_; rintro r u3 ⟨rfl, qq⟩; have S3 := Lib.hid qq; clear qq HST; unfold askV))
        go_ret
        exact ⟨rfl, (HOB.out _ GT2.out.bl).2⟩
      · subst hk1
        have HG0 : Hid (giveE m' = 0) := by unfold giveE; exact if_pos hwt.1
        have HGG := Lib.hid (give_goes hwt.1 (fedV f g))
        have HI3 := Lib.hid (inv_give HI2.out (HFL.out g))
        have HK : Hid (m'.how = 0 ∧ m'.used = m.used + 1) := ⟨hwt.2.1, hwt.2.2⟩
        clear hwt
        go_wp2_with (first
          | (go_at_call 16; have _g := G6; clear _g; refine (G6.out.give2 HI2.out (fedV f g)).mono ?_; rw [HG0.out]; rintro r u7 ⟨rfl, qq⟩; obtain ⟨⟨w2, w4⟩, _⟩ := HOB.out _ qq.bl; have G7 := Lib.hid qq; clear qq)
          | (go_at_call 16; refine (G5.out.give HI2.out (fedV f g)).mono ?_; rw [HG0.out]; rintro r u6 ⟨rfl, qq⟩; have G6 := Lib.hid qq; clear qq)
          | (go_at_call 27; refine (HFD.out _ (HOB.out _ G5.out.bl).2 g).mono ?_; rintro r u ⟨rfl, hu⟩; subst u)
          | (go_at_call 13; refine (sameAsk_any _ ⟨1, cl, xx, fi⟩).mono ?_; rintro r u5 ⟨rfl, qq⟩; have X1 := (qq.block _ (Nat.lt_trans (lt_of_block X0.out) (by simp))).trans ((heap_alloc_old _ _ (lt_of_block X0.out)).trans X0.out); obtain ⟨⟨e0, e1, e2, e3, e4⟩, _⟩ := askO_cells X1; have G5 := Lib.hid ((S4.out.alloc _).on qq); obtain ⟨⟨w2, w4⟩, _⟩ := HOB.out _ G5.out.bl; clear qq X1)
          | (go_at_call 14; have _g := S3; clear _g; refine (HSB.out _ _ (askO ⟨1, cl, xx, fi⟩) S3.out).mono ?_; rintro r u4 ⟨rfl, qq, qx⟩; obtain ⟨⟨e0, e1, e2, e3, e4⟩, _⟩ := askO_cells qx; have X0 := Lib.hid qx; have S4 := Lib.hid qq; clear qq qx; unfold askV)
          | (go_at_call 14; refine HST.out.mono ?_; rintro r u3 ⟨rfl, qq⟩; have S3 := Lib.hid qq; clear qq HST; unfold askV))
        refine ⟨⟨g + 1, i + 1, giveM m' (fedV f g), by first | rfl | (congr 1), by first | rfl | (congr 1), by omega, by omega, ?_⟩, by simp [intOf]; omega⟩
        exact ⟨G7.out, HI3.out, by have := HGG.out.1; omega, HGG.out.2.1.trans HK.out.1, by rw [HGG.out.2.2.1, HK.out.2, HUS.out]; rfl, HLK.out.trans HGG.out.2.2.2⟩
      · have HK := Lib.hid hgo
        clear hgo
        go_wp2_with (first
          | (go_at_call 13; refine (sameAsk_any _ ⟨kd, cl, xx, fi⟩).mono ?_; rintro r u5 ⟨rfl, qq⟩; have X1 := (qq.block _ (Nat.lt_trans (lt_of_block X0.out) (by simp))).trans ((heap_alloc_old _ _ (lt_of_block X0.out)).trans X0.out); obtain ⟨⟨e0, e1, e2, e3, e4⟩, _⟩ := askO_cells X1; have G5 := Lib.hid ((S4.out.alloc _).on qq); obtain ⟨⟨w2, w4⟩, _⟩ := HOB.out _ G5.out.bl; clear qq X1)
          | (go_at_call 14; have _g := S3; clear _g; refine (HSB.out _ _ (askO ⟨kd, cl, xx, fi⟩) S3.out).mono ?_; rintro r u4 ⟨rfl, qq, qx⟩; obtain ⟨⟨e0, e1, e2, e3, e4⟩, _⟩ := askO_cells qx; have X0 := Lib.hid qx; have S4 := Lib.hid qq; clear qq qx; unfold askV)
          | (go_at_call 14; refine HST.out.mono ?_; rintro r u3 ⟨rfl, qq⟩; have S3 := Lib.hid qq; clear qq HST; unfold askV))
        refine ⟨⟨g, i + 1, m', rfl, by first | rfl | (congr 1), by omega, by omega, ?_⟩, by simp [intOf]; omega⟩
        exact ⟨G5.out, HI2.out, HK.out.1, HK.out.2.1, HK.out.2.2.trans (by rw [HUS.out]; rfl), HLK.out⟩
end Go.Proofs.YtjicnjncdmknmaaGreatDoor
