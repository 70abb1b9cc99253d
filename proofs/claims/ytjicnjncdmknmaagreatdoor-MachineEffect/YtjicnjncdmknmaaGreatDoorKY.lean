import Derived.Test.YtjicnjncdmknmaaGreatDoorKX
namespace Go.Proofs.YtjicnjncdmknmaaGreatDoor
open Go.ChangeShapes Go.WideShapes Go.ChangeAt Go.RowKit Num
attribute [local go_sem] run_store_float

theorem shp_small {q : Nat} (h : q < 21) : (0 ≤ (shp q).takes ∧ (shp q).takes ≤ 2) ∧ 0 ≤ (shp q).lays ∧ (shp q).lays ≤ 2 := by
  have : ∀ k, k < 21 → (0 ≤ (shp k).takes ∧ (shp k).takes ≤ 2) ∧ 0 ≤ (shp k).lays ∧ (shp k).lays ≤ 2 := by decide
  exact this q h
/-- what was asked, and the instruction, each in a box -/
theorem boxes_eff (s : World) (a : Ask) (o n : Int) (x : Nat) : ∀ u, Below ((s.alloc (askO a)).alloc (.cells #[.int .i64 o, .int .i64 n, .float .f64 x] 63)).heap.size ((s.alloc (askO a)).alloc (.cells #[.int .i64 o, .int .i64 n, .float .f64 x] 63)) u →
    (u.cell? ⟨s.heap.size, 0, none⟩ = some (.int .i64 a.kind) ∧ u.cell? ⟨s.heap.size, 1, none⟩ = some (.int .i64 a.cell) ∧ u.cell? ⟨s.heap.size, 2, none⟩ = some (.float .f64 a.x) ∧ u.cell? ⟨s.heap.size, 3, none⟩ = some (.bool a.first) ∧ s.heap.size < u.heap.size) ∧ u.cell? ⟨s.heap.size + 1, 0, none⟩ = some (.int .i64 o) ∧ u.cell? ⟨s.heap.size + 1, 1, none⟩ = some (.int .i64 n) ∧ u.cell? ⟨s.heap.size + 1, 2, none⟩ = some (.float .f64 x) ∧ s.heap.size + 1 < u.heap.size := fun u hb =>
  ⟨Md.cells4 ((hb.block s.heap.size (by simp; omega)).trans ((heap_alloc_old _ _ (by simp)).trans (heap_alloc_new s _))), cells3_of ((hb.block (s.heap.size + 1) (by simp)).trans (heap_new (by simp)))⟩
set_option maxHeartbeats 2000000 in
set_option maxRecDepth 100000 in
theorem lawEffect_any {W : World} {a b c e t : Int} {ao : Option Addr} {cs : List Ins} {n cap : Nat} {po : Option Addr} {l : List Nat} {k co : Nat} {pf : Option Addr} {f : List Nat} {kf cf : Nat} (hT : Shaped5 W) (hn : cs.length = n) (hk : l.length = k) (hkf : f.length = kf) (hC : CodeAt W ao cs) (hx : ∀ i ∈ cs, i.x < 18446744073709551616) (hL : FlAt W po l) (hl : ∀ x ∈ l, x < 18446744073709551616) (hF : FlAt W pf f) (hf : ∀ x ∈ f, x < 18446744073709551616) (hnl : n ≤ 9223372036854775807) : Calls Tryz.prog 6 #[cfgV a b c e, .agg #[.int .i64 t, .slice ao n cap], .slice po k co, .slice pf kf cf] W fun r W2 => r = .returned (.bool true) ∧ Below W.heap.size W W2 := by
  have HLV := Lib.hid (live_any (newW W a b c e t ao n cap) (hT.on (newW_below W a b c e t ao n cap)))
  cases hmay : (Md.cfgB a b c e && decide (k ≤ 8))
  · have HN := Lib.hid (fun w => mnew_nil (w := w) (t := t) (ao := ao) (n := n) (cap := cap) (po := po) (co := co) hmay)
    have HR := Lib.hid (fun w => rnew_nil (w := w) (t := t) (ao := ao) (n := n) (cap := cap) (po := po) (co := co) hmay)
    clear hT hC hx hL hl hF hf hnl hmay hn hk hkf
    go_enter Tryz.func6, Tryz.ntmps6
    go_wp2_with (first
      | (go_at_call 21; refine (HR.out _).mono ?_; rintro r u2 ⟨rfl, q⟩; have B2 := Lib.hid (B1.out.trans (q.mono B1.out.size)); clear q)
      | (go_at_call 20; refine (HN.out _).mono ?_; rintro r u1 ⟨rfl, q⟩; have q1 := B0.out.trans (q.mono B0.out.size); obtain ⟨⟨x0, x1, x2, x3⟩, ⟨y0, y1, y2⟩, z0⟩ := newW_boxes q1; obtain ⟨v0, v1, v2, v3, v4⟩ := newW_boxes4 q1; have B1 := Lib.hid q1; clear q q1 z0)
      | (go_at_call 9; refine HLV.out.mono ?_; rintro r u0 ⟨rfl, q⟩; obtain ⟨⟨x0, x1, x2, x3⟩, ⟨y0, y1, y2⟩, z0⟩ := newW_boxes q; obtain ⟨v0, v1, v2, v3, v4⟩ := newW_boxes4 q; have B0 := Lib.hid q; clear q z0))
    go_ret
    exact ⟨rfl, (newW_boxes B2.out).2.2⟩
  · have hm : Md.cfgB a b c e = true ∧ k ≤ 8 := by simpa using hmay
    have hcf := Md.cfgB_iff.1 hm.1
    have HN : Hid (∀ u, Below W.heap.size W u → Calls Tryz.prog 20 #[cfgV a b c e, .agg #[.int .i64 t, .slice ao n cap], .slice po k co] u fun r w' => ∃ bm K, r = .returned (.pointer (some ⟨bm, 0, none⟩)) ∧ Gm u [] bm K w' (newM a c e t cs l) ∧ Abv u.heap.size K) := fun u hb => mnew_any hn hk (hT.on hb) (hC.on hb) (hL.on hb) hnl hm.1 hm.2
    have HR : Hid (∀ u, Below W.heap.size W u → Calls Tryz.prog 21 #[cfgV a b c e, .agg #[.int .i64 t, .slice ao n cap], .slice po k co] u fun r w' => ∃ br : Nat, r = .returned (.pointer (some ⟨br, 0, none⟩)) ∧ Below u.heap.size u w') := fun u hb => rnew_any hn hk (hC.on hb) (hL.on hb) hnl hm.1 hm.2
    have HI : Hid (Inv (newM a c e t cs l)) := inv_new hm.1 (fun j hj => hx _ (List.mem_of_getElem? (ci_lt hj))) hl
    have HFD : Hid (∀ u, Below W.heap.size W u → ∀ g : Nat, Calls Tryz.prog 27 #[.slice pf kf cf, .int .i64 (g : Int)] u fun r w' => r = .returned (.float .f64 (fedV f g)) ∧ w' = u) := fun u hb g => fed_any (hF.on hb) hkf g
    have HFL := Lib.hid (fedV_lt hf)
    have HTW := Lib.hid hT
    have HCW := Lib.hid (And.intro hC hn)
    have HCF : Hid ((1 ≤ c ∧ c ≤ 1024) ∧ 1 ≤ e ∧ e ≤ 32) := ⟨hcf.2.2.1, hcf.2.2.2⟩
    clear hT hC hx hL hl hF hf hnl hmay hn hk hkf hm hcf
    generalize hm0 : newM a c e t cs l = m0 at HN HI
    have HM0 : Hid (m0.fuel = c ∧ m0.wmax = e ∧ m0.upd = (t == 2)) := by subst hm0; exact ⟨rfl, rfl, rfl⟩
    have HM2 : Hid (m0.code = cs ∨ m0.code = []) := by subst hm0; show (if checkB t cs then cs else []) = cs ∨ (if checkB t cs then cs else []) = []; split; exact .inl rfl; exact .inr rfl
    have HM1 : Hid (¬ 0 ≤ m0.wait ∧ m0.how = 0 ∧ m0.used = 0) := by subst hm0; exact ⟨show ¬ (0 : Int) ≤ -1 by decide, rfl, rfl⟩
    clear hm0
    go_enter Tryz.func6, Tryz.ntmps6
    go_wp2_with (first
      | (go_at_call 21; refine (HR.out _ (newW_boxes B1.out).2.2).mono ?_; rintro r u2 ⟨br, rfl, q⟩; have G2 := Lib.hid (G1.out.on q); have q1 := B1.out.trans (q.mono B1.out.size); obtain ⟨v0, v1, v2, v3, v4⟩ := newW_boxes4 q1; clear q q1)
      | (go_at_call 20; refine (HN.out _ (newW_boxes B0.out).2.2).mono ?_; rintro r u1 ⟨bm, K, rfl, q, _⟩; have q1 := B0.out.trans (q.fresh.mono B0.out.size); obtain ⟨⟨x0, x1, x2, x3⟩, ⟨y0, y1, y2⟩, z0⟩ := newW_boxes q1; obtain ⟨v0, v1, v2, v3, v4⟩ := newW_boxes4 q1; have G1 := Lib.hid q; have B1 := Lib.hid q1; clear q q1 z0)
      | (go_at_call 9; refine HLV.out.mono ?_; rintro r u0 ⟨rfl, q⟩; obtain ⟨⟨x0, x1, x2, x3⟩, ⟨y0, y1, y2⟩, z0⟩ := newW_boxes q; obtain ⟨v0, v1, v2, v3, v4⟩ := newW_boxes4 q; have B0 := Lib.hid q; clear q z0))
    have T0 : Hid (TabAt u0 []) := ⟨HTW.out.on (newW_boxes B0.out).2.2, by simp⟩
    go_loopw [12, 13] (fun vg vi wr => ∃ g i : Nat, ∃ m, vg = .int .i64 g ∧ vi = .int .i64 i ∧ g ≤ i ∧ (i : Int) ≤ c + 1 ∧ Hid (Run u0 bm K wr m0 m i)) (fun _ vi _ => (c + 1 - intOf vi).toNat)
    case atStart => exact ⟨0, 0, m0, rfl, rfl, Nat.le_refl _, by have := HCF.out; simp; omega, ⟨G2.out, HI.out, by have := HM1.out.1; omega, HM1.out.2.1, HM1.out.2.2, Like.refl _⟩⟩
    case round =>
      obtain ⟨g, i, m, rfl, rfl, hgi, hic, HRN⟩ := hrel
      have hus := HRN.out.inv.used
      rw [HRN.out.used, HRN.out.like.fuel, HM0.out.1] at hus
      have hic' : (i : Int) ≤ c := by omega
      have HBW : Hid (Below (newW W a b c e t ao n cap).heap.size (newW W a b c e t ao n cap) wr) := B0.out.trans (HRN.out.gm.fresh.mono B0.out.size)
      have hca := HRN.out.inv.high
      rw [if_neg HRN.out.nw] at hca
      have hdp := HRN.out.inv.deep
      have hpl := HRN.out.inv.place
      have hmay := HRN.out.inv.may
      have hlen := HRN.out.inv.len
      have hcode : m.code = cs ∨ m.code = [] := by rw [HRN.out.like.code]; exact HM2.out
      have HS1 := Lib.hid (fun u (hg : Gm u0 [] bm K u m) => stack_any hg)
      have HP1 := Lib.hid (fun u (hg : Gm u0 [] bm K u m) => where_any hg)
      have HD1 := Lib.hid (fun u (hg : Gm u0 [] bm K u m) => depth_any hg)
      have HST := Lib.hid (fun u (hg : Gm u0 [] bm K u m) => step_any hg T0.out HRN.out.inv)
      have HI2 := Lib.hid (inv_step HRN.out.inv)
      have ht := step_turns HRN.out.inv HRN.out.nw HRN.out.how
      have hf := step_effs HRN.out.inv HRN.out.nw HRN.out.how
      have HG0 := Lib.hid HRN.out.gm
      have HUS := Lib.hid HRN.out.used
      have HLM := Lib.hid HRN.out.like
      have HZ : Hid (∀ u, Below u0.heap.size u0 u → u.cell? ⟨W.heap.size, 2, none⟩ = some (.int .i64 c) ∧ u.cell? ⟨W.heap.size + 1, 1, none⟩ = some (.slice ao n cap) ∧ W.heap.size < u.heap.size ∧ W.heap.size + 1 < u.heap.size ∧ Below W.heap.size W u) := fun u hg => by
        have hb := B0.out.trans (hg.mono B0.out.size)
        obtain ⟨_, _, z2, z3, z4⟩ := newW_boxes4 hb
        obtain ⟨_, ⟨z5, z6, z7⟩, z8⟩ := newW_boxes hb
        exact ⟨z2, z6, z4, z7, z8⟩
      obtain ⟨v0, v1, v2, v3, v4⟩ := HZ.out _ HRN.out.gm.fresh
      generalize hr : stepM m = r at HST HI2 ht hf
      obtain ⟨m', ⟨kd, cl, xx, fi⟩⟩ := r
      clear hr
      obtain ⟨hlk, ht⟩ := ht
      have HLK : Hid (Like m0 m') := HRN.out.like.trans hlk
      replace HI2 : Hid (Inv m') := HI2.out
      have c1000 : c ≤ 1024 := HCF.out.1.2
      have hhi : (m'.st.length : Int) ≤ 64 := by have h9 : (m'.st.length : Int) + (if 0 ≤ m'.wait then 1 else 0) ≤ 64 := HI2.out.high; split at h9 <;> omega
      obtain ⟨sl, hsl⟩ : ∃ sl, m.st.length = sl := ⟨_, rfl⟩
      obtain ⟨dp, hdpq⟩ : ∃ dp, m.calls.length = dp := ⟨_, rfl⟩
      obtain ⟨at1, hat⟩ : ∃ q : Nat, m.place = q := ⟨m.place.toNat, by omega⟩
      rw [hsl] at HS1 hca
      rw [hdpq] at HD1 hdp
      rw [hat] at HP1 hpl
      clear hlk HN HR HLV G2 G1 hus HBW HRN
      by_cases hk4 : kd = 4
      · subst hk4
        clear hf ht
        go_wp2_with (first
          | (go_at_call 14; refine (HST.out _ G1.out).mono ?_; rintro r s2 ⟨rfl, q⟩; have G2 := Lib.hid (q.alloc (askO ⟨4, cl, xx, fi⟩)); clear q; unfold askV)
          | (go_at_call 26; refine (HD1.out _ G1.out).mono ?_; rintro r u ⟨rfl, hu⟩; subst u)
          | (go_at_call 28; refine (HP1.out _ G1.out).mono ?_; rintro r u ⟨rfl, hu⟩; subst u)
          | (go_at_call 25; refine (HS1.out _ HG0.out).mono ?_; rintro r s1 ⟨rfl, _, q⟩; have G1 := Lib.hid (HG0.out.on q); clear q))
        go_ret
        exact ⟨rfl, (HZ.out _ G2.out.fresh).2.2.2.2⟩
      · obtain ⟨hp, hop, hst, hk16, hld⟩ := Or.resolve_left hf hk4
        rw [hat] at hp
        have hcs : m.code = cs := hcode.elim id (fun q => absurd hp (by rw [q]; simp))
        have hp2 : at1 < n := by rw [hcs, HCW.out.2] at hp; omega
        have hpi : (at1 : Int) < (n : Int) := by omega
        have hn2 : n ≤ 1024 := by rw [hcs, HCW.out.2] at hlen; exact hlen
        have hci : insM m = ci cs at1 := by unfold insM; rw [hat, hcs]; rfl
        rw [hci] at hop hst hk16 hld
        obtain ⟨b0, off, hao, hb0, j0, j1, j2⟩ := HCW.out.1 at1 (by rw [HCW.out.2]; exact hp2)
        have HJ : Hid (∀ u, Below W.heap.size W u → u.cell? ⟨b0, off + at1 * 3, none⟩ = some (.int .i64 (ci cs at1).op) ∧ u.cell? ⟨b0, off + at1 * 3 + 1, none⟩ = some (.int .i64 (ci cs at1).n) ∧ u.cell? ⟨b0, off + at1 * 3 + 2, none⟩ = some (.float .f64 (ci cs at1).x) ∧ b0 < u.heap.size) := fun u hb => ⟨(hb.cell (p := ⟨b0, off + at1 * 3, none⟩) hb0).trans j0, (hb.cell (p := ⟨b0, off + at1 * 3 + 1, none⟩) hb0).trans j1, (hb.cell (p := ⟨b0, off + at1 * 3 + 2, none⟩) hb0).trans j2, Nat.lt_of_lt_of_le hb0 hb.size⟩
        clear j0 j1 j2 hb0 hci hcs hcode hlen hmay hp
        unfold takesI laysI at hst
        unfold Leads at hld
        rw [hdpq, hat] at hld
        rw [hsl] at hst hk16
        generalize hcx : ci cs at1 = ins at HJ hop hst hk16 hld
        clear hcx HCW
        obtain ⟨op, n0, x0⟩ := ins
        obtain ⟨q, hq⟩ : ∃ q : Nat, op = q := ⟨op.toNat, by have := hop.1; simp at this; omega⟩
        subst hq
        have hq20 : 1 ≤ q ∧ q < 21 := by have := hop; simp at this; omega
        have HEF : Hid (∀ u, Below W.heap.size W u → Calls Tryz.prog 29 #[.int .i64 q] u fun e w' => e = .returned (.tuple #[.int .i64 (shp q).takes, .int .i64 (shp q).lays, .int .i64 0]) ∧ Same u w') := fun u hb => effect_some q u (HTW.out.on hb) hq20.2 hq20.1
        have hsb := shp_small hq20.2
        have HS2 := Lib.hid (fun u (hg : Gm u0 [] bm K u m') => stack_any hg)
        have HP2 := Lib.hid (fun u (hg : Gm u0 [] bm K u m') => where_any hg)
        have HD2 := Lib.hid (fun u (hg : Gm u0 [] bm K u m') => depth_any hg)
        have hst' : (m'.st.length : Int) = (sl : Int) - (shp q).takes + (shp q).lays - (if kd = 1 then 1 else 0) := hst
        clear hst hop
        subst hao
        have HGT := Lib.hid ht
        clear ht
        by_cases hk1 : kd = 1
        · subst hk1
          obtain ⟨hn1, hq16⟩ := hk16 rfl
          have hq16' : q = 16 := by have : (q : Int) = 16 := hq16; omega
          subst hq16'
          have hwt : 0 ≤ m'.wait ∧ m'.how = 0 ∧ m'.used = m.used + 1 := by
            rcases HGT.out with h | h | h
            · exact absurd h.1 (by show ¬ (1 : Int) = 4; decide)
            · exact ⟨h.2.2.1, h.2.2.2.1, h.2.2.2.2⟩
            · exact absurd h.1 (by show ¬ ((1 : Int) = 0 ∨ (1 : Int) = 2 ∨ (1 : Int) = 3); decide)
          have HGV := Lib.hid (fun u (hg : Gm u0 [] bm K u m') => give_any hg HI2.out (fedV f g))
          have HGE : Hid (giveE m' = 0) := by unfold giveE; exact if_pos hwt.1
          rw [HGE.out] at HGV
          have HS3 := Lib.hid (fun u (hg : Gm u0 [] bm K u (giveM m' (fedV f g))) => stack_any hg)
          rw [give_effs hwt.1, hn1] at HS3
          have HGG := Lib.hid (give_goes hwt.1 (fedV f g))
          have HI3 := Lib.hid (inv_give HI2.out (HFL.out g))
          have HW := Lib.hid hwt.2
          have hpd : m'.place = (at1 : Int) + 1 ∧ m'.calls.length = dp := by
            rcases hld with h | h | h | h
            · exact absurd h.1 (by show ¬ ((16 : Int) = 11 ∨ (16 : Int) = 12 ∨ (16 : Int) = 13); decide)
            · exact absurd h.1 (by show ¬ (16 : Int) = 14; decide)
            · exact absurd h.1 (by show ¬ (16 : Int) = 15; decide)
            · exact h.2
          rw [hpd.1] at HP2
          rw [hpd.2] at HD2
          replace hn1 : m'.st.length + 1 = sl := hn1
          have e1 : m'.st.length = sl - 1 := by omega
          have e2 : 1 ≤ sl := by omega
          obtain ⟨sl2, hs2⟩ : ∃ z, sl = z + 1 := ⟨sl - 1, by omega⟩
          subst hs2
          rw [show m'.st.length = sl2 by omega] at HS2
          have HTK : (shp 16).takes = 1 ∧ (shp 16).lays = 1 := ⟨rfl, rfl⟩
          rw [HTK.1, HTK.2] at HEF
          clear hwt hn1 hq16 hpd hld hst' e1 e2 hsb hhi HTK hq20
          go_wp2_with (first
            | (go_at_call 25; refine (HS3.out _ G6.out).mono ?_; rintro r s6 ⟨rfl, _, qq⟩; have G7 := Lib.hid (G6.out.on qq); clear qq G6)
            | (go_at_call 16; refine (HGV.out _ G5.out).mono ?_; rintro r s5 ⟨rfl, qq⟩; have G6 := Lib.hid qq; clear qq)
            | (go_at_call 27; refine (HFD.out _ (HZ.out _ G5.out.fresh).2.2.2.2 g).mono ?_; rintro r u ⟨rfl, hu⟩; subst u)
            | (go_at_call 26; refine (HD2.out _ G5.out).mono ?_; rintro r u ⟨rfl, hu⟩; subst u)
            | (go_at_call 28; refine (HP2.out _ G5.out).mono ?_; rintro r u ⟨rfl, hu⟩; subst u)
            | (go_at_call 25; refine (HS2.out _ G4.out).mono ?_; rintro r s4 ⟨rfl, _, qq⟩; have h5 := B4.out.trans (qq.mono B4.out.size); obtain ⟨⟨p0, p1, p2, p3, p4⟩, p5, p6, p7, p8⟩ := HX.out _ h5; have G5 := Lib.hid (G4.out.on qq); have B5 := Lib.hid h5; clear qq h5)
            | (go_at_call 29; refine (HEF.out _ (HZ.out _ G3.out.fresh).2.2.2.2).mono ?_; rintro r s3 ⟨rfl, qq⟩; have G4 := Lib.hid (G3.out.same qq); have h4 := qq.below ((s2.alloc (askO ⟨1, cl, xx, fi⟩)).alloc (.cells #[.int .i64 16, .int .i64 n0, .float .f64 x0] 63)).heap.size; obtain ⟨⟨p0, p1, p2, p3, p4⟩, p5, p6, p7, p8⟩ := HX.out _ h4; have B4 := Lib.hid h4; clear qq h4)
            | (go_at_call 14; refine (HST.out _ G1.out).mono ?_; rintro r s2 ⟨rfl, qq⟩; obtain ⟨_, o1, _, o3, o4⟩ := HZ.out _ qq.fresh; obtain ⟨i0, i1, i2, i3⟩ := HJ.out _ o4; have HX := Lib.hid (boxes_eff s2 (⟨1, cl, xx, fi⟩ : Ask) 16 n0 x0); have G3 := Lib.hid ((qq.alloc (askO ⟨1, cl, xx, fi⟩)).alloc (.cells #[.int .i64 16, .int .i64 n0, .float .f64 x0] 63)); clear qq o4; unfold askV)
            | (go_at_call 26; refine (HD1.out _ G1.out).mono ?_; rintro r u ⟨rfl, hu⟩; subst u)
            | (go_at_call 28; refine (HP1.out _ G1.out).mono ?_; rintro r u ⟨rfl, hu⟩; subst u)
            | (go_at_call 25; refine (HS1.out _ HG0.out).mono ?_; rintro r s1 ⟨rfl, _, qq⟩; have G1 := Lib.hid (HG0.out.on qq); clear qq))
          refine ⟨⟨g + 1, i + 1, giveM m' (fedV f g), by first | rfl | (congr 1), by first | rfl | (congr 1), by omega, by omega, ?_⟩, by simp [intOf]; omega⟩
          exact ⟨G7.out, HI3.out, by have := HGG.out.1; omega, HGG.out.2.1.trans HW.out.1, by rw [HGG.out.2.2.1, HW.out.2, HUS.out]; rfl, HLK.out.trans HGG.out.2.2.2⟩
        · rw [if_neg hk1] at hst'
          clear hk16
          have HW : Hid (m'.wait < 0 ∧ m'.how = 0 ∧ m'.used = m.used + 1) := by
            rcases HGT.out with h | h | h
            · exact absurd h.1 hk4
            · exact absurd h.1 hk1
            · exact ⟨by have : ¬ 0 ≤ m'.wait := h.2.1; omega, h.2.2.1, h.2.2.2⟩
          generalize m'.st.length = sl2 at HS2 hst' hhi
          have hst2 : (sl2 : Int) = (sl : Int) - (shp q).takes + (shp q).lays := by omega
          clear hst'
          have hk4' : ¬ kd = 4 := hk4
          rcases hld with ⟨h1, h2, h3⟩ | ⟨h1, h2, h3⟩ | ⟨h1, h2⟩ | ⟨h1, h2, h3⟩
          · rw [h3] at HD2
            have hq3 : q = 11 ∨ q = 12 ∨ q = 13 := by have h1' : (q : Int) = 11 ∨ (q : Int) = 12 ∨ (q : Int) = 13 := h1; omega
            by_cases hpp : m'.place = (at1 : Int) + 1
            · rw [hpp] at HP2
              clear h1 h2 h3
              rcases hq3 with rfl | rfl | rfl
              · generalize (shp 11).takes = tk at HEF hst2 hsb
                generalize (shp 11).lays = ly at HEF hst2 hsb
                go_wp2_with (first
                  | (go_at_call 26; refine (HD2.out _ G5.out).mono ?_; rintro r u ⟨rfl, hu⟩; subst u)
                  | (go_at_call 28; refine (HP2.out _ G5.out).mono ?_; rintro r u ⟨rfl, hu⟩; subst u)
                  | (go_at_call 25; refine (HS2.out _ G4.out).mono ?_; rintro r s4 ⟨rfl, _, qq⟩; have h5 := B4.out.trans (qq.mono B4.out.size); obtain ⟨⟨p0, p1, p2, p3, p4⟩, p5, p6, p7, p8⟩ := HX.out _ h5; have G5 := Lib.hid (G4.out.on qq); have B5 := Lib.hid h5; clear qq h5)
                  | (go_at_call 29; refine (HEF.out _ (HZ.out _ G3.out.fresh).2.2.2.2).mono ?_; rintro r s3 ⟨rfl, qq⟩; have G4 := Lib.hid (G3.out.same qq); have h4 := qq.below ((s2.alloc (askO ⟨kd, cl, xx, fi⟩)).alloc (.cells #[.int .i64 11, .int .i64 n0, .float .f64 x0] 63)).heap.size; obtain ⟨⟨p0, p1, p2, p3, p4⟩, p5, p6, p7, p8⟩ := HX.out _ h4; have B4 := Lib.hid h4; clear qq h4)
                  | (go_at_call 14; refine (HST.out _ G1.out).mono ?_; rintro r s2 ⟨rfl, qq⟩; obtain ⟨_, o1, _, o3, o4⟩ := HZ.out _ qq.fresh; obtain ⟨i0, i1, i2, i3⟩ := HJ.out _ o4; have HX := Lib.hid (boxes_eff s2 (⟨kd, cl, xx, fi⟩ : Ask) 11 n0 x0); have G3 := Lib.hid ((qq.alloc (askO ⟨kd, cl, xx, fi⟩)).alloc (.cells #[.int .i64 11, .int .i64 n0, .float .f64 x0] 63)); clear qq o4; unfold askV)
                  | (go_at_call 26; refine (HD1.out _ G1.out).mono ?_; rintro r u ⟨rfl, hu⟩; subst u)
                  | (go_at_call 28; refine (HP1.out _ G1.out).mono ?_; rintro r u ⟨rfl, hu⟩; subst u)
                  | (go_at_call 25; refine (HS1.out _ HG0.out).mono ?_; rintro r s1 ⟨rfl, _, qq⟩; have G1 := Lib.hid (HG0.out.on qq); clear qq))
                go_quiet (first | (go_at_call 26; exact Calls.quiet_of_same (HD2.out _ (G5.out.same (Same.drewN _ _)))) | (go_at_call 28; exact Calls.quiet_of_same (HP2.out _ (G5.out.same (Same.drewN _ _)))))
                go_wp2
                refine ⟨⟨g, i + 1, m', rfl, by first | rfl | (congr 1), by omega, by omega, ?_⟩, by simp [intOf]; omega⟩
                exact ⟨G5.out.same (Same.drewN _ _), HI2.out, by have := HW.out.1; omega, HW.out.2.1, HW.out.2.2.trans (by rw [HUS.out]; rfl), HLK.out⟩
              · generalize (shp 12).takes = tk at HEF hst2 hsb
                generalize (shp 12).lays = ly at HEF hst2 hsb
                go_wp2_with (first
                  | (go_at_call 26; refine (HD2.out _ G5.out).mono ?_; rintro r u ⟨rfl, hu⟩; subst u)
                  | (go_at_call 28; refine (HP2.out _ G5.out).mono ?_; rintro r u ⟨rfl, hu⟩; subst u)
                  | (go_at_call 25; refine (HS2.out _ G4.out).mono ?_; rintro r s4 ⟨rfl, _, qq⟩; have h5 := B4.out.trans (qq.mono B4.out.size); obtain ⟨⟨p0, p1, p2, p3, p4⟩, p5, p6, p7, p8⟩ := HX.out _ h5; have G5 := Lib.hid (G4.out.on qq); have B5 := Lib.hid h5; clear qq h5)
                  | (go_at_call 29; refine (HEF.out _ (HZ.out _ G3.out.fresh).2.2.2.2).mono ?_; rintro r s3 ⟨rfl, qq⟩; have G4 := Lib.hid (G3.out.same qq); have h4 := qq.below ((s2.alloc (askO ⟨kd, cl, xx, fi⟩)).alloc (.cells #[.int .i64 12, .int .i64 n0, .float .f64 x0] 63)).heap.size; obtain ⟨⟨p0, p1, p2, p3, p4⟩, p5, p6, p7, p8⟩ := HX.out _ h4; have B4 := Lib.hid h4; clear qq h4)
                  | (go_at_call 14; refine (HST.out _ G1.out).mono ?_; rintro r s2 ⟨rfl, qq⟩; obtain ⟨_, o1, _, o3, o4⟩ := HZ.out _ qq.fresh; obtain ⟨i0, i1, i2, i3⟩ := HJ.out _ o4; have HX := Lib.hid (boxes_eff s2 (⟨kd, cl, xx, fi⟩ : Ask) 12 n0 x0); have G3 := Lib.hid ((qq.alloc (askO ⟨kd, cl, xx, fi⟩)).alloc (.cells #[.int .i64 12, .int .i64 n0, .float .f64 x0] 63)); clear qq o4; unfold askV)
                  | (go_at_call 26; refine (HD1.out _ G1.out).mono ?_; rintro r u ⟨rfl, hu⟩; subst u)
                  | (go_at_call 28; refine (HP1.out _ G1.out).mono ?_; rintro r u ⟨rfl, hu⟩; subst u)
                  | (go_at_call 25; refine (HS1.out _ HG0.out).mono ?_; rintro r s1 ⟨rfl, _, qq⟩; have G1 := Lib.hid (HG0.out.on qq); clear qq))
                go_quiet (first | (go_at_call 26; exact Calls.quiet_of_same (HD2.out _ (G5.out.same (Same.drewN _ _)))) | (go_at_call 28; exact Calls.quiet_of_same (HP2.out _ (G5.out.same (Same.drewN _ _)))))
                go_wp2
                refine ⟨⟨g, i + 1, m', rfl, by first | rfl | (congr 1), by omega, by omega, ?_⟩, by simp [intOf]; omega⟩
                exact ⟨G5.out.same (Same.drewN _ _), HI2.out, by have := HW.out.1; omega, HW.out.2.1, HW.out.2.2.trans (by rw [HUS.out]; rfl), HLK.out⟩
              · generalize (shp 13).takes = tk at HEF hst2 hsb
                generalize (shp 13).lays = ly at HEF hst2 hsb
                go_wp2_with (first
                  | (go_at_call 26; refine (HD2.out _ G5.out).mono ?_; rintro r u ⟨rfl, hu⟩; subst u)
                  | (go_at_call 28; refine (HP2.out _ G5.out).mono ?_; rintro r u ⟨rfl, hu⟩; subst u)
                  | (go_at_call 25; refine (HS2.out _ G4.out).mono ?_; rintro r s4 ⟨rfl, _, qq⟩; have h5 := B4.out.trans (qq.mono B4.out.size); obtain ⟨⟨p0, p1, p2, p3, p4⟩, p5, p6, p7, p8⟩ := HX.out _ h5; have G5 := Lib.hid (G4.out.on qq); have B5 := Lib.hid h5; clear qq h5)
                  | (go_at_call 29; refine (HEF.out _ (HZ.out _ G3.out.fresh).2.2.2.2).mono ?_; rintro r s3 ⟨rfl, qq⟩; have G4 := Lib.hid (G3.out.same qq); have h4 := qq.below ((s2.alloc (askO ⟨kd, cl, xx, fi⟩)).alloc (.cells #[.int .i64 13, .int .i64 n0, .float .f64 x0] 63)).heap.size; obtain ⟨⟨p0, p1, p2, p3, p4⟩, p5, p6, p7, p8⟩ := HX.out _ h4; have B4 := Lib.hid h4; clear qq h4)
                  | (go_at_call 14; refine (HST.out _ G1.out).mono ?_; rintro r s2 ⟨rfl, qq⟩; obtain ⟨_, o1, _, o3, o4⟩ := HZ.out _ qq.fresh; obtain ⟨i0, i1, i2, i3⟩ := HJ.out _ o4; have HX := Lib.hid (boxes_eff s2 (⟨kd, cl, xx, fi⟩ : Ask) 13 n0 x0); have G3 := Lib.hid ((qq.alloc (askO ⟨kd, cl, xx, fi⟩)).alloc (.cells #[.int .i64 13, .int .i64 n0, .float .f64 x0] 63)); clear qq o4; unfold askV)
                  | (go_at_call 26; refine (HD1.out _ G1.out).mono ?_; rintro r u ⟨rfl, hu⟩; subst u)
                  | (go_at_call 28; refine (HP1.out _ G1.out).mono ?_; rintro r u ⟨rfl, hu⟩; subst u)
                  | (go_at_call 25; refine (HS1.out _ HG0.out).mono ?_; rintro r s1 ⟨rfl, _, qq⟩; have G1 := Lib.hid (HG0.out.on qq); clear qq))
                go_quiet (first | (go_at_call 26; exact Calls.quiet_of_same (HD2.out _ (G5.out.same (Same.drewN _ _)))) | (go_at_call 28; exact Calls.quiet_of_same (HP2.out _ (G5.out.same (Same.drewN _ _)))))
                go_wp2
                refine ⟨⟨g, i + 1, m', rfl, by first | rfl | (congr 1), by omega, by omega, ?_⟩, by simp [intOf]; omega⟩
                exact ⟨G5.out.same (Same.drewN _ _), HI2.out, by have := HW.out.1; omega, HW.out.2.1, HW.out.2.2.trans (by rw [HUS.out]; rfl), HLK.out⟩
            · have hpn : m'.place = n0 := h2.resolve_left hpp
              rw [hpn] at HP2 hpp
              have hdf : (n0 == (at1 : Int) + 1) = false := by simpa using hpp
              have hdg : (n0 != (at1 : Int) + 1) = true := by simpa using hpp
              clear hpn
              clear h1 h2 h3
              rcases hq3 with rfl | rfl | rfl
              · generalize (shp 11).takes = tk at HEF hst2 hsb
                generalize (shp 11).lays = ly at HEF hst2 hsb
                go_wp2_with (first
                  | (go_at_call 26; refine (HD2.out _ G5.out).mono ?_; rintro r u ⟨rfl, hu⟩; subst u)
                  | (go_at_call 28; refine (HP2.out _ G5.out).mono ?_; rintro r u ⟨rfl, hu⟩; subst u)
                  | (go_at_call 25; refine (HS2.out _ G4.out).mono ?_; rintro r s4 ⟨rfl, _, qq⟩; have h5 := B4.out.trans (qq.mono B4.out.size); obtain ⟨⟨p0, p1, p2, p3, p4⟩, p5, p6, p7, p8⟩ := HX.out _ h5; have G5 := Lib.hid (G4.out.on qq); have B5 := Lib.hid h5; clear qq h5)
                  | (go_at_call 29; refine (HEF.out _ (HZ.out _ G3.out.fresh).2.2.2.2).mono ?_; rintro r s3 ⟨rfl, qq⟩; have G4 := Lib.hid (G3.out.same qq); have h4 := qq.below ((s2.alloc (askO ⟨kd, cl, xx, fi⟩)).alloc (.cells #[.int .i64 11, .int .i64 n0, .float .f64 x0] 63)).heap.size; obtain ⟨⟨p0, p1, p2, p3, p4⟩, p5, p6, p7, p8⟩ := HX.out _ h4; have B4 := Lib.hid h4; clear qq h4)
                  | (go_at_call 14; refine (HST.out _ G1.out).mono ?_; rintro r s2 ⟨rfl, qq⟩; obtain ⟨_, o1, _, o3, o4⟩ := HZ.out _ qq.fresh; obtain ⟨i0, i1, i2, i3⟩ := HJ.out _ o4; have HX := Lib.hid (boxes_eff s2 (⟨kd, cl, xx, fi⟩ : Ask) 11 n0 x0); have G3 := Lib.hid ((qq.alloc (askO ⟨kd, cl, xx, fi⟩)).alloc (.cells #[.int .i64 11, .int .i64 n0, .float .f64 x0] 63)); clear qq o4; unfold askV)
                  | (go_at_call 26; refine (HD1.out _ G1.out).mono ?_; rintro r u ⟨rfl, hu⟩; subst u)
                  | (go_at_call 28; refine (HP1.out _ G1.out).mono ?_; rintro r u ⟨rfl, hu⟩; subst u)
                  | (go_at_call 25; refine (HS1.out _ HG0.out).mono ?_; rintro r s1 ⟨rfl, _, qq⟩; have G1 := Lib.hid (HG0.out.on qq); clear qq))
                go_quiet (first | (go_at_call 26; exact Calls.quiet_of_same (HD2.out _ (G5.out.same (Same.drewN _ _)))) | (go_at_call 28; exact Calls.quiet_of_same (HP2.out _ (G5.out.same (Same.drewN _ _)))))
                go_wp2
                refine ⟨⟨g, i + 1, m', rfl, by first | rfl | (congr 1), by omega, by omega, ?_⟩, by simp [intOf]; omega⟩
                exact ⟨G5.out.same (Same.drewN _ _), HI2.out, by have := HW.out.1; omega, HW.out.2.1, HW.out.2.2.trans (by rw [HUS.out]; rfl), HLK.out⟩
              · generalize (shp 12).takes = tk at HEF hst2 hsb
                generalize (shp 12).lays = ly at HEF hst2 hsb
                go_wp2_with (first
                  | (go_at_call 26; refine (HD2.out _ G5.out).mono ?_; rintro r u ⟨rfl, hu⟩; subst u)
                  | (go_at_call 28; refine (HP2.out _ G5.out).mono ?_; rintro r u ⟨rfl, hu⟩; subst u)
                  | (go_at_call 25; refine (HS2.out _ G4.out).mono ?_; rintro r s4 ⟨rfl, _, qq⟩; have h5 := B4.out.trans (qq.mono B4.out.size); obtain ⟨⟨p0, p1, p2, p3, p4⟩, p5, p6, p7, p8⟩ := HX.out _ h5; have G5 := Lib.hid (G4.out.on qq); have B5 := Lib.hid h5; clear qq h5)
                  | (go_at_call 29; refine (HEF.out _ (HZ.out _ G3.out.fresh).2.2.2.2).mono ?_; rintro r s3 ⟨rfl, qq⟩; have G4 := Lib.hid (G3.out.same qq); have h4 := qq.below ((s2.alloc (askO ⟨kd, cl, xx, fi⟩)).alloc (.cells #[.int .i64 12, .int .i64 n0, .float .f64 x0] 63)).heap.size; obtain ⟨⟨p0, p1, p2, p3, p4⟩, p5, p6, p7, p8⟩ := HX.out _ h4; have B4 := Lib.hid h4; clear qq h4)
                  | (go_at_call 14; refine (HST.out _ G1.out).mono ?_; rintro r s2 ⟨rfl, qq⟩; obtain ⟨_, o1, _, o3, o4⟩ := HZ.out _ qq.fresh; obtain ⟨i0, i1, i2, i3⟩ := HJ.out _ o4; have HX := Lib.hid (boxes_eff s2 (⟨kd, cl, xx, fi⟩ : Ask) 12 n0 x0); have G3 := Lib.hid ((qq.alloc (askO ⟨kd, cl, xx, fi⟩)).alloc (.cells #[.int .i64 12, .int .i64 n0, .float .f64 x0] 63)); clear qq o4; unfold askV)
                  | (go_at_call 26; refine (HD1.out _ G1.out).mono ?_; rintro r u ⟨rfl, hu⟩; subst u)
                  | (go_at_call 28; refine (HP1.out _ G1.out).mono ?_; rintro r u ⟨rfl, hu⟩; subst u)
                  | (go_at_call 25; refine (HS1.out _ HG0.out).mono ?_; rintro r s1 ⟨rfl, _, qq⟩; have G1 := Lib.hid (HG0.out.on qq); clear qq))
                go_quiet (first | (go_at_call 26; exact Calls.quiet_of_same (HD2.out _ (G5.out.same (Same.drewN _ _)))) | (go_at_call 28; exact Calls.quiet_of_same (HP2.out _ (G5.out.same (Same.drewN _ _)))))
                go_wp2
                refine ⟨⟨g, i + 1, m', rfl, by first | rfl | (congr 1), by omega, by omega, ?_⟩, by simp [intOf]; omega⟩
                exact ⟨G5.out.same (Same.drewN _ _), HI2.out, by have := HW.out.1; omega, HW.out.2.1, HW.out.2.2.trans (by rw [HUS.out]; rfl), HLK.out⟩
              · generalize (shp 13).takes = tk at HEF hst2 hsb
                generalize (shp 13).lays = ly at HEF hst2 hsb
                go_wp2_with (first
                  | (go_at_call 26; refine (HD2.out _ G5.out).mono ?_; rintro r u ⟨rfl, hu⟩; subst u)
                  | (go_at_call 28; refine (HP2.out _ G5.out).mono ?_; rintro r u ⟨rfl, hu⟩; subst u)
                  | (go_at_call 25; refine (HS2.out _ G4.out).mono ?_; rintro r s4 ⟨rfl, _, qq⟩; have h5 := B4.out.trans (qq.mono B4.out.size); obtain ⟨⟨p0, p1, p2, p3, p4⟩, p5, p6, p7, p8⟩ := HX.out _ h5; have G5 := Lib.hid (G4.out.on qq); have B5 := Lib.hid h5; clear qq h5)
                  | (go_at_call 29; refine (HEF.out _ (HZ.out _ G3.out.fresh).2.2.2.2).mono ?_; rintro r s3 ⟨rfl, qq⟩; have G4 := Lib.hid (G3.out.same qq); have h4 := qq.below ((s2.alloc (askO ⟨kd, cl, xx, fi⟩)).alloc (.cells #[.int .i64 13, .int .i64 n0, .float .f64 x0] 63)).heap.size; obtain ⟨⟨p0, p1, p2, p3, p4⟩, p5, p6, p7, p8⟩ := HX.out _ h4; have B4 := Lib.hid h4; clear qq h4)
                  | (go_at_call 14; refine (HST.out _ G1.out).mono ?_; rintro r s2 ⟨rfl, qq⟩; obtain ⟨_, o1, _, o3, o4⟩ := HZ.out _ qq.fresh; obtain ⟨i0, i1, i2, i3⟩ := HJ.out _ o4; have HX := Lib.hid (boxes_eff s2 (⟨kd, cl, xx, fi⟩ : Ask) 13 n0 x0); have G3 := Lib.hid ((qq.alloc (askO ⟨kd, cl, xx, fi⟩)).alloc (.cells #[.int .i64 13, .int .i64 n0, .float .f64 x0] 63)); clear qq o4; unfold askV)
                  | (go_at_call 26; refine (HD1.out _ G1.out).mono ?_; rintro r u ⟨rfl, hu⟩; subst u)
                  | (go_at_call 28; refine (HP1.out _ G1.out).mono ?_; rintro r u ⟨rfl, hu⟩; subst u)
                  | (go_at_call 25; refine (HS1.out _ HG0.out).mono ?_; rintro r s1 ⟨rfl, _, qq⟩; have G1 := Lib.hid (HG0.out.on qq); clear qq))
                go_quiet (first | (go_at_call 26; exact Calls.quiet_of_same (HD2.out _ (G5.out.same (Same.drewN _ _)))) | (go_at_call 28; exact Calls.quiet_of_same (HP2.out _ (G5.out.same (Same.drewN _ _)))))
                go_wp2
                refine ⟨⟨g, i + 1, m', rfl, by first | rfl | (congr 1), by omega, by omega, ?_⟩, by simp [intOf]; omega⟩
                exact ⟨G5.out.same (Same.drewN _ _), HI2.out, by have := HW.out.1; omega, HW.out.2.1, HW.out.2.2.trans (by rw [HUS.out]; rfl), HLK.out⟩
          · rw [h2] at HP2
            rw [h3] at HD2
            have hq' : q = 14 := by have h1' : (q : Int) = 14 := h1; omega
            subst hq'
            clear h1 h2 h3
            generalize (shp 14).takes = tk at HEF hst2 hsb
            generalize (shp 14).lays = ly at HEF hst2 hsb
            go_wp2_with (first
              | (go_at_call 26; refine (HD2.out _ G5.out).mono ?_; rintro r u ⟨rfl, hu⟩; subst u)
              | (go_at_call 28; refine (HP2.out _ G5.out).mono ?_; rintro r u ⟨rfl, hu⟩; subst u)
              | (go_at_call 25; refine (HS2.out _ G4.out).mono ?_; rintro r s4 ⟨rfl, _, qq⟩; have h5 := B4.out.trans (qq.mono B4.out.size); obtain ⟨⟨p0, p1, p2, p3, p4⟩, p5, p6, p7, p8⟩ := HX.out _ h5; have G5 := Lib.hid (G4.out.on qq); have B5 := Lib.hid h5; clear qq h5)
              | (go_at_call 29; refine (HEF.out _ (HZ.out _ G3.out.fresh).2.2.2.2).mono ?_; rintro r s3 ⟨rfl, qq⟩; have G4 := Lib.hid (G3.out.same qq); have h4 := qq.below ((s2.alloc (askO ⟨kd, cl, xx, fi⟩)).alloc (.cells #[.int .i64 14, .int .i64 n0, .float .f64 x0] 63)).heap.size; obtain ⟨⟨p0, p1, p2, p3, p4⟩, p5, p6, p7, p8⟩ := HX.out _ h4; have B4 := Lib.hid h4; clear qq h4)
              | (go_at_call 14; refine (HST.out _ G1.out).mono ?_; rintro r s2 ⟨rfl, qq⟩; obtain ⟨_, o1, _, o3, o4⟩ := HZ.out _ qq.fresh; obtain ⟨i0, i1, i2, i3⟩ := HJ.out _ o4; have HX := Lib.hid (boxes_eff s2 (⟨kd, cl, xx, fi⟩ : Ask) 14 n0 x0); have G3 := Lib.hid ((qq.alloc (askO ⟨kd, cl, xx, fi⟩)).alloc (.cells #[.int .i64 14, .int .i64 n0, .float .f64 x0] 63)); clear qq o4; unfold askV)
              | (go_at_call 26; refine (HD1.out _ G1.out).mono ?_; rintro r u ⟨rfl, hu⟩; subst u)
              | (go_at_call 28; refine (HP1.out _ G1.out).mono ?_; rintro r u ⟨rfl, hu⟩; subst u)
              | (go_at_call 25; refine (HS1.out _ HG0.out).mono ?_; rintro r s1 ⟨rfl, _, qq⟩; have G1 := Lib.hid (HG0.out.on qq); clear qq))
            go_quiet (first | (go_at_call 26; exact Calls.quiet_of_same (HD2.out _ (G5.out.same (Same.drewN _ _)))) | (go_at_call 28; exact Calls.quiet_of_same (HP2.out _ (G5.out.same (Same.drewN _ _)))))
            go_wp2
            refine ⟨⟨g, i + 1, m', rfl, by first | rfl | (congr 1), by omega, by omega, ?_⟩, by simp [intOf]; omega⟩
            exact ⟨G5.out.same (Same.drewN _ _), HI2.out, by have := HW.out.1; omega, HW.out.2.1, HW.out.2.2.trans (by rw [HUS.out]; rfl), HLK.out⟩
          · have hq' : q = 15 := by have h1' : (q : Int) = 15 := h1; omega
            subst hq'
            obtain ⟨d2, hd2⟩ : ∃ z, dp = z + 1 := ⟨m'.calls.length, h2.symm⟩
            subst hd2
            have h3 : m'.calls.length = d2 := by have h2' : m'.calls.length + 1 = d2 + 1 := h2; omega
            rw [h3] at HD2
            clear h1 h2 h3
            generalize (shp 15).takes = tk at HEF hst2 hsb
            generalize (shp 15).lays = ly at HEF hst2 hsb
            go_wp2_with (first
              | (go_at_call 26; refine (HD2.out _ G5.out).mono ?_; rintro r u ⟨rfl, hu⟩; subst u)
              | (go_at_call 28; refine (HP2.out _ G5.out).mono ?_; rintro r u ⟨rfl, hu⟩; subst u)
              | (go_at_call 25; refine (HS2.out _ G4.out).mono ?_; rintro r s4 ⟨rfl, _, qq⟩; have h5 := B4.out.trans (qq.mono B4.out.size); obtain ⟨⟨p0, p1, p2, p3, p4⟩, p5, p6, p7, p8⟩ := HX.out _ h5; have G5 := Lib.hid (G4.out.on qq); have B5 := Lib.hid h5; clear qq h5)
              | (go_at_call 29; refine (HEF.out _ (HZ.out _ G3.out.fresh).2.2.2.2).mono ?_; rintro r s3 ⟨rfl, qq⟩; have G4 := Lib.hid (G3.out.same qq); have h4 := qq.below ((s2.alloc (askO ⟨kd, cl, xx, fi⟩)).alloc (.cells #[.int .i64 15, .int .i64 n0, .float .f64 x0] 63)).heap.size; obtain ⟨⟨p0, p1, p2, p3, p4⟩, p5, p6, p7, p8⟩ := HX.out _ h4; have B4 := Lib.hid h4; clear qq h4)
              | (go_at_call 14; refine (HST.out _ G1.out).mono ?_; rintro r s2 ⟨rfl, qq⟩; obtain ⟨_, o1, _, o3, o4⟩ := HZ.out _ qq.fresh; obtain ⟨i0, i1, i2, i3⟩ := HJ.out _ o4; have HX := Lib.hid (boxes_eff s2 (⟨kd, cl, xx, fi⟩ : Ask) 15 n0 x0); have G3 := Lib.hid ((qq.alloc (askO ⟨kd, cl, xx, fi⟩)).alloc (.cells #[.int .i64 15, .int .i64 n0, .float .f64 x0] 63)); clear qq o4; unfold askV)
              | (go_at_call 26; refine (HD1.out _ G1.out).mono ?_; rintro r u ⟨rfl, hu⟩; subst u)
              | (go_at_call 28; refine (HP1.out _ G1.out).mono ?_; rintro r u ⟨rfl, hu⟩; subst u)
              | (go_at_call 25; refine (HS1.out _ HG0.out).mono ?_; rintro r s1 ⟨rfl, _, qq⟩; have G1 := Lib.hid (HG0.out.on qq); clear qq))
            refine ⟨⟨g, i + 1, m', rfl, by first | rfl | (congr 1), by omega, by omega, ?_⟩, by simp [intOf]; omega⟩
            exact ⟨G5.out, HI2.out, by have := HW.out.1; omega, HW.out.2.1, HW.out.2.2.trans (by rw [HUS.out]; rfl), HLK.out⟩
          · rw [h2] at HP2
            rw [h3] at HD2
            have n11 : ¬ (q : Int) = 11 := by have h1' : (q : Int) < 11 ∨ 15 < (q : Int) := h1; omega
            have n12 : ¬ (q : Int) = 12 := by have h1' : (q : Int) < 11 ∨ 15 < (q : Int) := h1; omega
            have n13 : ¬ (q : Int) = 13 := by have h1' : (q : Int) < 11 ∨ 15 < (q : Int) := h1; omega
            have n14 : ¬ (q : Int) = 14 := by have h1' : (q : Int) < 11 ∨ 15 < (q : Int) := h1; omega
            have n15 : ¬ (q : Int) = 15 := by have h1' : (q : Int) < 11 ∨ 15 < (q : Int) := h1; omega
            generalize (shp q).takes = tk at HEF hst2 hsb
            generalize (shp q).lays = ly at HEF hst2 hsb
            clear h1 h2 h3
            go_wp2_with (first
              | (go_at_call 26; refine (HD2.out _ G5.out).mono ?_; rintro r u ⟨rfl, hu⟩; subst u)
              | (go_at_call 28; refine (HP2.out _ G5.out).mono ?_; rintro r u ⟨rfl, hu⟩; subst u)
              | (go_at_call 25; refine (HS2.out _ G4.out).mono ?_; rintro r s4 ⟨rfl, _, qq⟩; have h5 := B4.out.trans (qq.mono B4.out.size); obtain ⟨⟨p0, p1, p2, p3, p4⟩, p5, p6, p7, p8⟩ := HX.out _ h5; have G5 := Lib.hid (G4.out.on qq); have B5 := Lib.hid h5; clear qq h5)
              | (go_at_call 29; refine (HEF.out _ (HZ.out _ G3.out.fresh).2.2.2.2).mono ?_; rintro r s3 ⟨rfl, qq⟩; have G4 := Lib.hid (G3.out.same qq); have h4 := qq.below ((s2.alloc (askO ⟨kd, cl, xx, fi⟩)).alloc (.cells #[.int .i64 q, .int .i64 n0, .float .f64 x0] 63)).heap.size; obtain ⟨⟨p0, p1, p2, p3, p4⟩, p5, p6, p7, p8⟩ := HX.out _ h4; have B4 := Lib.hid h4; clear qq h4)
              | (go_at_call 14; refine (HST.out _ G1.out).mono ?_; rintro r s2 ⟨rfl, qq⟩; obtain ⟨_, o1, _, o3, o4⟩ := HZ.out _ qq.fresh; obtain ⟨i0, i1, i2, i3⟩ := HJ.out _ o4; have HX := Lib.hid (boxes_eff s2 (⟨kd, cl, xx, fi⟩ : Ask) q n0 x0); have G3 := Lib.hid ((qq.alloc (askO ⟨kd, cl, xx, fi⟩)).alloc (.cells #[.int .i64 q, .int .i64 n0, .float .f64 x0] 63)); clear qq o4; unfold askV)
              | (go_at_call 26; refine (HD1.out _ G1.out).mono ?_; rintro r u ⟨rfl, hu⟩; subst u)
              | (go_at_call 28; refine (HP1.out _ G1.out).mono ?_; rintro r u ⟨rfl, hu⟩; subst u)
              | (go_at_call 25; refine (HS1.out _ HG0.out).mono ?_; rintro r s1 ⟨rfl, _, qq⟩; have G1 := Lib.hid (HG0.out.on qq); clear qq))
            refine ⟨⟨g, i + 1, m', rfl, by first | rfl | (congr 1), by omega, by omega, ?_⟩, by simp [intOf]; omega⟩
            exact ⟨G5.out, HI2.out, by have := HW.out.1; omega, HW.out.2.1, HW.out.2.2.trans (by rw [HUS.out]; rfl), HLK.out⟩
end Go.Proofs.YtjicnjncdmknmaaGreatDoor
