import Derived.Test.YtjicnjncdmknmaaGreatDoorKS
namespace Go.Proofs.YtjicnjncdmknmaaGreatDoor
open Go.ChangeShapes Go.WideShapes Go.ChangeAt Go.RowKit Num
attribute [local go_sem] run_store_float

theorem goes_of {m m' : Mac} {a : Ask} (ht : Ends m (m', a) ∨ Waits m (m', a) ∨ Goes m (m', a)) (h4 : ¬ a.kind = 4) (h1 : ¬ a.kind = 1) (hb : m'.buf = m.buf) : m'.wait < 0 ∧ m'.how = 0 ∧ m'.used = m.used + 1 ∧ m'.buf = m.buf := by
  rcases ht with h | h | h
  · exact absurd h.1 h4
  · exact absurd h.1 h1
  · exact ⟨by have : ¬ 0 ≤ m'.wait := h.2.1; omega, h.2.2.1, h.2.2.2, hb⟩
set_option maxHeartbeats 2000000 in
set_option maxRecDepth 100000 in
theorem lawOwn_any {W : World} {a b c e t : Int} {ao : Option Addr} {cs : List Ins} {n cap : Nat} {po : Option Addr} {l : List Nat} {k co : Nat} {pf : Option Addr} {f : List Nat} {kf cf : Nat} (hT : Shaped5 W) (hn : cs.length = n) (hk : l.length = k) (hkf : f.length = kf) (hC : CodeAt W ao cs) (hx : ∀ i ∈ cs, i.x < 18446744073709551616) (hL : FlAt W po l) (hl : ∀ x ∈ l, x < 18446744073709551616) (hF : FlAt W pf f) (hf : ∀ x ∈ f, x < 18446744073709551616) (hnl : n ≤ 9223372036854775807) : Calls Tryz.prog 7 #[cfgV a b c e, .agg #[.int .i64 t, .slice ao n cap], .slice po k co, .slice pf kf cf] W fun r W2 => r = .returned (.bool true) ∧ Below W.heap.size W W2 := by
  have HLV := Lib.hid (live_any (newW W a b c e t ao n cap) (hT.on (newW_below W a b c e t ao n cap)))
  cases hmay : (Md.cfgB a b c e && decide (k ≤ 8))
  · have HN := Lib.hid (fun w => mnew_nil (w := w) (t := t) (ao := ao) (n := n) (cap := cap) (po := po) (co := co) hmay)
    have HR := Lib.hid (fun w => rnew_nil (w := w) (t := t) (ao := ao) (n := n) (cap := cap) (po := po) (co := co) hmay)
    clear hT hC hx hL hl hF hf hnl hmay hn hk hkf
    go_enter Tryz.func7, Tryz.ntmps7
    go_wp2_with (first
      | (go_at_call 21; refine (HR.out _).mono ?_; rintro r u2 ⟨rfl, q⟩; have B2 := Lib.hid (B1.out.trans (q.mono B1.out.size)); clear q)
      | (go_at_call 20; refine (HN.out _).mono ?_; rintro r u1 ⟨rfl, q⟩; have q1 := B0.out.trans (q.mono B0.out.size); obtain ⟨⟨x0, x1, x2, x3⟩, ⟨y0, y1, y2⟩, z0⟩ := newW_boxes q1; obtain ⟨v0, v1, v2, v3, v4⟩ := newW_boxes4 q1; have B1 := Lib.hid q1; clear q q1 z0)
      | (go_at_call 9; refine HLV.out.mono ?_; rintro r u0 ⟨rfl, q⟩; obtain ⟨⟨x0, x1, x2, x3⟩, ⟨y0, y1, y2⟩, z0⟩ := newW_boxes q; obtain ⟨v0, v1, v2, v3, v4⟩ := newW_boxes4 q; have B0 := Lib.hid q; clear q z0))
    go_ret
    exact ⟨rfl, (newW_boxes B2.out).2.2⟩
  · have hm : Md.cfgB a b c e = true ∧ k ≤ 8 := by simpa using hmay
    have hcf := Md.cfgB_iff.1 hm.1
    have HN : Hid (∀ u, Below W.heap.size W u → Calls Tryz.prog 20 #[cfgV a b c e, .agg #[.int .i64 t, .slice ao n cap], .slice po k co] u fun r w' => ∃ bm K, r = .returned (.pointer (some ⟨bm, 0, none⟩)) ∧ Gm u [] bm K w' (newM a c e t cs l) ∧ Abv u.heap.size K) := fun u hb => mnew_any hn hk (hT.on hb) (hC.on hb) (hL.on hb) hnl hm.1 hm.2
    have HR : Hid (∀ u, Below W.heap.size W u → Calls Tryz.prog 21 #[cfgV a b c e, .agg #[.int .i64 t, .slice ao n cap], .slice po k co] u fun r w' => ∃ br : Nat, r = .returned (.pointer (some ⟨br, 0, none⟩)) ∧ Below u.heap.size u w') := fun u hb => rnew_any hn hk (hC.on hb) (hL.on hb) hnl hm.1 hm.2
    have HI : Hid (Inv (newM a c e t cs l)) := inv_new hm.1 (fun j hj => hx _ (List.mem_of_getElem? (ci_lt hj))) hl
    have HFD : Hid (∀ u, Below W.heap.size W u → ∀ g : Nat, Calls Tryz.prog 27 #[.slice pf kf cf, .int .i64 (g : Int)] u fun r w' => r = .returned (.float .f64 (fedV f g)) ∧ w' = u) := fun u hb g => fed_any (hF.on hb) hkf g
    have HFL := Lib.hid (fedV_lt hf)
    have HTW := Lib.hid hT
    have HCF : Hid ((1 ≤ c ∧ c ≤ 1024) ∧ 1 ≤ e ∧ e ≤ 32) := ⟨hcf.2.2.1, hcf.2.2.2⟩
    have HCA := Lib.hid hcf.1
    obtain ⟨AW, hAW⟩ : ∃ A, A = (fls (List.replicate 256 0)).toArray := ⟨_, rfl⟩
    obtain ⟨AH, hAH⟩ : ∃ A, A = (bls (List.replicate 256 false)).toArray := ⟨_, rfl⟩
    have hmw : ∀ w : World, (Instr.makeSlice 27 (.int .i64 256) (.int .i64 256)).run Tryz.prog w = .ok (.slice (some ⟨w.heap.size, 0, none⟩) 256 256) (w.alloc (.cells AW 40)) := fun w => by rw [hAW]; exact fMake 256 (by omega) w
    have hmh : ∀ w : World, (Instr.makeSlice 66 (.int .i64 256) (.int .i64 256)).run Tryz.prog w = .ok (.slice (some ⟨w.heap.size, 0, none⟩) 256 256) (w.alloc (.cells AH 4)) := fun w => by rw [hAH]; exact bMake 256 (by omega) w
    have HAW := Lib.hid (And.intro hAW hAH)
    clear hAW hAH
    clear hT hC hx hL hl hF hf hnl hmay hn hk hkf hm hcf
    generalize hm0 : newM a c e t cs l = m0 at HN HI
    have HM0 : Hid (m0.fuel = c ∧ m0.cells = a ∧ m0.buf = []) := by subst hm0; exact ⟨rfl, rfl, rfl⟩
    have HA : Hid (1 ≤ a ∧ a ≤ 256) := HCA.out
    have HM1 : Hid (¬ 0 ≤ m0.wait ∧ m0.how = 0 ∧ m0.used = 0) := by subst hm0; exact ⟨show ¬ (0 : Int) ≤ -1 by decide, rfl, rfl⟩
    clear hm0
    go_enter Tryz.func7, Tryz.ntmps7
    go_wp2_with (first
      | (go_at_call 21; refine (HR.out _ (newW_boxes B1.out).2.2).mono ?_; rintro r u2 ⟨br, rfl, q⟩; have G2 := Lib.hid (G1.out.on q); have q1 := B1.out.trans (q.mono B1.out.size); obtain ⟨v0, v1, v2, v3, v4⟩ := newW_boxes4 q1; clear q q1)
      | (go_at_call 20; refine (HN.out _ (newW_boxes B0.out).2.2).mono ?_; rintro r u1 ⟨bm, K, rfl, q, _⟩; have q1 := B0.out.trans (q.fresh.mono B0.out.size); obtain ⟨⟨x0, x1, x2, x3⟩, ⟨y0, y1, y2⟩, z0⟩ := newW_boxes q1; obtain ⟨v0, v1, v2, v3, v4⟩ := newW_boxes4 q1; have G1 := Lib.hid q; have B1 := Lib.hid q1; clear q q1 z0)
      | (go_at_call 9; refine HLV.out.mono ?_; rintro r u0 ⟨rfl, q⟩; obtain ⟨⟨x0, x1, x2, x3⟩, ⟨y0, y1, y2⟩, z0⟩ := newW_boxes q; obtain ⟨v0, v1, v2, v3, v4⟩ := newW_boxes4 q; have B0 := Lib.hid q; clear q z0))
    have HS0 : Hid (OwnM u0 ((u2.alloc (.cells AW 40)).alloc (.cells AH 4)) bm u2.heap.size (u2.heap.size + 1) K m0 (List.replicate 256 false) (List.replicate 256 0)) := by
      have hK : Blw u2 K := by obtain ⟨F, hM, _⟩ := G2.out.mc; exact hM.blwK
      have := own_made (xs0 := List.replicate 256 0) (hs0 := List.replicate 256 false) List.length_replicate List.length_replicate G2.out hK (HTW.out.on (newW_boxes B0.out).2.2)
      rw [← HAW.out.1, ← HAW.out.2] at this
      exact this
    have HT0 := Lib.hid tabled_nil
    generalize List.replicate 256 false = hs0 at HS0 HT0
    generalize List.replicate 256 0 = xs0 at HS0 HT0
    clear HAW hmw hmh HN HR HLV G1 G2
    go_loopw [14, 15] (fun vg vi wr => ∃ g i : Nat, ∃ m hs xs, vg = .int .i64 g ∧ vi = .int .i64 i ∧ g ≤ i ∧ (i : Int) ≤ c + 1 ∧ Hid (OwnM u0 wr bm u2.heap.size (u2.heap.size + 1) K m hs xs ∧ Inv m ∧ m.wait < 0 ∧ m.how = 0 ∧ m.used = i ∧ Like m0 m ∧ Tabled m.buf hs xs)) (fun _ vi _ => (c + 1 - intOf vi).toNat)
    case atStart => exact ⟨0, 0, m0, hs0, xs0, rfl, rfl, Nat.le_refl _, by have := HCF.out; simp; omega, ⟨HS0.out, HI.out, by have := HM1.out.1; omega, HM1.out.2.1, HM1.out.2.2, Like.refl _, by rw [HM0.out.2.2]; exact HT0.out⟩⟩
    case round =>
      obtain ⟨g, i, m, hs, xs, rfl, rfl, hgi, hic, HRN⟩ := hrel
      obtain ⟨ho, hinv, hnw, hhow, huse, hlike, htab⟩ := HRN.out
      have hnw' : ¬ 0 ≤ m.wait := by omega
      have hus := hinv.used
      rw [huse, hlike.fuel, HM0.out.1] at hus
      have hic' : (i : Int) ≤ c := by omega
      have HOB : Hid (∀ u, Below u0.heap.size u0 u → Below (newW W a b c e t ao n cap).heap.size (newW W a b c e t ao n cap) u) := fun u hb => B0.out.trans (hb.mono B0.out.size)
      obtain ⟨v0, v1, v2, v3, v4⟩ := newW_boxes4 (HOB.out _ ho.bl)
      have HST := Lib.hid (ho.step hinv)
      have HI2 := Lib.hid (inv_step hinv)
      have ht := step_turns hinv hnw' hhow
      have hb := step_bufs hinv hnw' hhow
      generalize stepM m = r at HST HI2 ht hb
      obtain ⟨m', ⟨kd, cl, xx, fi⟩⟩ := r
      obtain ⟨hlk, ht⟩ := ht
      replace HI2 : Hid (Inv m') := HI2.out
      have HLK : Hid (Like m0 m') := hlike.trans hlk
      have c1000 : c ≤ 1024 := HCF.out.1.2
      have hca : m.cells = a := hlike.cells.trans HM0.out.2.1
      have HUS : Hid (m.used = i ∧ Tabled m.buf hs xs) := ⟨huse, htab⟩
      have ha := HA.out
      unfold Bufs at hb
      rw [hca] at hb
      clear hlk hus HRN ho hinv hnw hnw' hhow huse hlike htab hca
      rcases hb with ⟨k1, k2⟩ | ⟨k1, k2⟩ | ⟨k1, k2, k3, k4, k5⟩ | ⟨k1, k2, k3, k4, k5, k6⟩ | ⟨k1, k2, k3, k4, k5⟩
      · have k1' : kd = 0 := k1
        subst k1'
        have HK : Hid (m'.wait < 0 ∧ m'.how = 0 ∧ m'.used = m.used + 1 ∧ m'.buf = m.buf) := goes_of ht (by show ¬ (0 : Int) = 4; decide) (by show ¬ (0 : Int) = 1; decide) k2
        clear k1 k2 ht
        go_wp2_with (go_at_call 14; refine HST.out.mono ?_; rintro r u3 ⟨rfl, q⟩; obtain ⟨w0, w1, w2, w3, w4⟩ := newW_boxes4 (HOB.out _ q.bl); have G3 := Lib.hid (q.alloc (askO ⟨0, cl, xx, fi⟩)); clear q HST; unfold askV)
        refine ⟨⟨g, i + 1, m', hs, xs, rfl, by first | rfl | (congr 1), by omega, by omega, ?_⟩, by simp [intOf]; omega⟩
        exact ⟨G3.out, HI2.out, HK.out.1, HK.out.2.1, HK.out.2.2.1.trans (by rw [HUS.out.1]; rfl), HLK.out, by rw [HK.out.2.2.2]; exact HUS.out.2⟩
      · have k1' : kd = 4 := k1
        subst k1'
        clear k1 k2 ht
        go_wp2_with (go_at_call 14; refine HST.out.mono ?_; rintro r u3 ⟨rfl, q⟩; obtain ⟨w0, w1, w2, w3, w4⟩ := newW_boxes4 (HOB.out _ q.bl); have G3 := Lib.hid (q.alloc (askO ⟨4, cl, xx, fi⟩)); clear q HST; unfold askV)
        go_ret
        exact ⟨rfl, (newW_boxes (HOB.out _ G3.out.bl)).2.2⟩
      · have k1' : kd = 1 := k1
        subst k1'
        obtain ⟨q, hq⟩ : ∃ q : Nat, cl = q := ⟨cl.toNat, by have : 0 ≤ cl := k4; omega⟩
        subst hq
        have q256 : q < 256 := by have h5 : (q : Int) < a := k5; omega
        have q256' : (q : Int) < 256 := by omega
        have nq0 : ¬ (q : Int) < 0 := by omega
        have nqa : ¬ a ≤ (q : Int) := by have h5 : (q : Int) < a := k5; omega
        obtain ⟨t1, t2, t3⟩ := HUS.out.2
        obtain ⟨t4, t5⟩ := t3 q q256
        have k3' : hasC m.buf (q : Int) = false := k3
        rw [k3'] at t4
        have HT1 := Lib.hid t1
        have HT2 := Lib.hid t2
        have HT4 := Lib.hid t4
        have hwt : 0 ≤ m'.wait ∧ m'.how = 0 ∧ m'.used = m.used + 1 := by
          rcases ht with h | h | h
          · exact absurd h.1 (by show ¬ (1 : Int) = 4; decide)
          · exact ⟨h.2.2.1, h.2.2.2.1, h.2.2.2.2⟩
          · exact absurd h.1 (by show ¬ ((1 : Int) = 0 ∨ (1 : Int) = 2 ∨ (1 : Int) = 3); decide)
        have HG0 : Hid (giveE m' = 0) := by unfold giveE; exact if_pos hwt.1
        have HGG := Lib.hid (give_goes hwt.1 (fedV f g))
        have HI3 := Lib.hid (inv_give HI2.out (HFL.out g))
        have HK : Hid (m'.how = 0 ∧ m'.used = m.used + 1 ∧ (giveM m' (fedV f g)).buf = m.buf) := ⟨hwt.2.1, hwt.2.2, (give_bufs _).trans k2⟩
        clear k1 k2 k3 k3' k4 k5 ht t1 t2 t3 t4 t5 hwt
        go_wp2_with (first
          | (go_at_call 16; refine ((G3.out.alloc (askO ⟨1, q, xx, fi⟩)).give HI2.out (fedV f g)).mono ?_; rw [HG0.out]; rintro r u5 ⟨rfl, qq⟩; have G4 := Lib.hid qq; clear qq)
          | (go_at_call 27; refine (HFD.out _ (newW_boxes (HOB.out _ (G3.out.alloc (askO ⟨1, q, xx, fi⟩)).bl)).2.2 g).mono ?_; rintro r u ⟨rfl, hu⟩; subst u)
          | (go_at_call 14; refine HST.out.mono ?_; rintro r u3 ⟨rfl, qq⟩; obtain ⟨w0, w1, w2, w3, w4⟩ := newW_boxes4 (HOB.out _ qq.bl); obtain ⟨h0, h1, h2⟩ := qq.getH (c := q) (by have := HT1.out; omega); obtain ⟨h3, h4, h5⟩ := qq.getW (c := q) (by have := HT2.out; omega); rw [HT4.out] at h0; have G3 := Lib.hid qq; clear qq HST; unfold askV))
        refine ⟨⟨g + 1, i + 1, giveM m' (fedV f g), hs, xs, by first | rfl | (congr 1), by first | rfl | (congr 1), by omega, by omega, ?_⟩, by simp [intOf]; omega⟩
        exact ⟨G4.out, HI3.out, by have := HGG.out.1; omega, HGG.out.2.1.trans HK.out.1, by rw [HGG.out.2.2.1, HK.out.2.1, HUS.out.1]; rfl, HLK.out.trans HGG.out.2.2.2, by rw [HK.out.2.2]; exact HUS.out.2⟩
      · have k1' : kd = 2 := k1
        subst k1'
        obtain ⟨q, hq⟩ : ∃ q : Nat, cl = q := ⟨cl.toNat, by have : 0 ≤ cl := k5; omega⟩
        subst hq
        have q256 : q < 256 := by have h5 : (q : Int) < a := k6; omega
        have q256' : (q : Int) < 256 := by omega
        have nq0 : ¬ (q : Int) < 0 := by omega
        have nqa : ¬ a ≤ (q : Int) := by have h5 : (q : Int) < a := k6; omega
        obtain ⟨t1, t2, t3⟩ := HUS.out.2
        obtain ⟨t4, t5⟩ := t3 q q256
        have k3' : hasC m.buf (q : Int) = true := k3
        have k4' : xx = getC m.buf (q : Int) := k4
        rw [k3'] at t4
        have t6 := t5 k3'
        rw [← k4'] at t6
        have HT1 := Lib.hid t1
        have HT2 := Lib.hid t2
        have HT4 := Lib.hid t4
        have HT6 := Lib.hid t6
        have HK : Hid (m'.wait < 0 ∧ m'.how = 0 ∧ m'.used = m.used + 1 ∧ m'.buf = m.buf) := goes_of ht (by show ¬ (2 : Int) = 4; decide) (by show ¬ (2 : Int) = 1; decide) k2
        clear k1 k2 k3 k3' k4 k4' k5 k6 ht t1 t2 t3 t4 t5 t6
        go_wp2_with (go_at_call 14; refine HST.out.mono ?_; rintro r u3 ⟨rfl, qq⟩; obtain ⟨w0, w1, w2, w3, w4⟩ := newW_boxes4 (HOB.out _ qq.bl); obtain ⟨h0, h1, h2⟩ := qq.getH (c := q) (by have := HT1.out; omega); obtain ⟨h3, h4, h5⟩ := qq.getW (c := q) (by have := HT2.out; omega); rw [HT4.out] at h0; rw [HT6.out] at h3; have G3 := Lib.hid qq; clear qq HST; unfold askV)
        go_quiet (first | (go_at_call 30; exact Calls.quiet_of_same (bits_same _ _)))
        go_wp2
        refine ⟨⟨g, i + 1, m', hs, xs, rfl, by first | rfl | (congr 1), by omega, by omega, ?_⟩, by simp [intOf]; omega⟩
        exact ⟨(G3.out.alloc _).on ((Same.drewN _ _).below _), HI2.out, HK.out.1, HK.out.2.1, HK.out.2.2.1.trans (by rw [HUS.out.1]; rfl), HLK.out, by rw [HK.out.2.2.2]; exact HUS.out.2⟩
      · have k1' : kd = 3 := k1
        subst k1'
        obtain ⟨q, hq⟩ : ∃ q : Nat, cl = q := ⟨cl.toNat, by have : 0 ≤ cl := k4; omega⟩
        subst hq
        have q256 : q < 256 := by have h5 : (q : Int) < a := k5; omega
        have q256' : (q : Int) < 256 := by omega
        have nq0 : ¬ (q : Int) < 0 := by omega
        have nqa : ¬ a ≤ (q : Int) := by have h5 : (q : Int) < a := k5; omega
        obtain ⟨t1, t2, t3⟩ := HUS.out.2
        obtain ⟨t4, t5⟩ := t3 q q256
        have k3' : fi = !hasC m.buf (q : Int) := k3
        have k2' : m'.buf = putC m.buf (q : Int) xx := k2
        have HT1 := Lib.hid t1
        have HT2 := Lib.hid t2
        have HT4 := Lib.hid t4
        have HK : Hid (m'.wait < 0 ∧ m'.how = 0 ∧ m'.used = m.used + 1) := by
          rcases ht with h | h | h
          · exact absurd h.1 (by show ¬ (3 : Int) = 4; decide)
          · exact absurd h.1 (by show ¬ (3 : Int) = 1; decide)
          · exact ⟨by have : ¬ 0 ≤ m'.wait := h.2.1; omega, h.2.2.1, h.2.2.2⟩
        have HTB : Hid (Tabled m'.buf (hs.set q true) (xs.set q xx)) := by rw [k2']; exact HUS.out.2.put q256 xx
        subst k3'
        clear k1 k2 k2' k3 k4 k5 ht t1 t2 t3 t4 t5
        generalize hasC m.buf (q : Int) = bb at *
        cases bb
        all_goals
          go_wp2_with (go_at_call 14; refine HST.out.mono ?_; rintro r u3 ⟨rfl, qq⟩; obtain ⟨w0, w1, w2, w3, w4⟩ := newW_boxes4 (HOB.out _ qq.bl); obtain ⟨h0, h1, h2⟩ := qq.getH (c := q) (by have := HT1.out; omega); obtain ⟨h3, h4, h5⟩ := qq.getW (c := q) (by have := HT2.out; omega); rw [HT4.out] at h0; have G3 := Lib.hid qq; clear qq HST; unfold askV)
          go_quiet (fail)
          go_wp2
          refine ⟨⟨g, i + 1, m', hs.set q true, xs.set q xx, rfl, by first | rfl | (congr 1), by omega, by omega, ?_⟩, by simp [intOf]; omega⟩
          exact ⟨((((G3.out.alloc _).on ((Same.drewN _ _).below _)).setH q true).setW q xx), HI2.out, HK.out.1, HK.out.2.1, HK.out.2.2.trans (by rw [HUS.out.1]; rfl), HLK.out, HTB.out⟩
end Go.Proofs.YtjicnjncdmknmaaGreatDoor
