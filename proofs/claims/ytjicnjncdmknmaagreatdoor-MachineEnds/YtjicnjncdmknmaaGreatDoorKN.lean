import Derived.Test.YtjicnjncdmknmaaGreatDoorKS
import Derived.Test.YtjicnjncdmknmaaGreatDoorSq
namespace Go.Proofs.YtjicnjncdmknmaaGreatDoor
open Go.ChangeShapes Go.WideShapes Go.ChangeAt Go.RowKit Num
attribute [local go_sem] run_store_float

set_option maxHeartbeats 2000000 in
set_option maxRecDepth 100000 in
theorem lawEnds_any {W : World} {a b c e t : Int} {ao : Option Addr} {cs : List Ins} {n cap : Nat} {po : Option Addr} {l : List Nat} {k co : Nat} {pf : Option Addr} {f : List Nat} {kf cf : Nat} (hT : Shaped5 W) (hn : cs.length = n) (hk : l.length = k) (hkf : f.length = kf) (hC : CodeAt W ao cs) (hx : ∀ i ∈ cs, i.x < 18446744073709551616) (hL : FlAt W po l) (hl : ∀ x ∈ l, x < 18446744073709551616) (hF : FlAt W pf f) (hf : ∀ x ∈ f, x < 18446744073709551616) (hnl : n ≤ 9223372036854775807) : Calls Tryz.prog 5 #[cfgV a b c e, .agg #[.int .i64 t, .slice ao n cap], .slice po k co, .slice pf kf cf] W fun r W2 => r = .returned (.bool true) ∧ Below W.heap.size W W2 := by
  have HLV := Lib.hid (live_any (newW W a b c e t ao n cap) (hT.on (newW_below W a b c e t ao n cap)))
  cases hmay : (Md.cfgB a b c e && decide (k ≤ 8))
  · have HN := Lib.hid (fun w => mnew_nil (w := w) (t := t) (ao := ao) (n := n) (cap := cap) (po := po) (co := co) hmay)
    have HR := Lib.hid (fun w => rnew_nil (w := w) (t := t) (ao := ao) (n := n) (cap := cap) (po := po) (co := co) hmay)
    clear hT hC hx hL hl hF hf hnl hmay hn hk hkf
    go_enter Tryz.func5, Tryz.ntmps5
    go_wp2_with (first
      | (go_at_call 21; refine (HR.out _).mono ?_; rintro r u2 ⟨rfl, q⟩; have B2 := Lib.hid (B1.out.trans (q.mono B1.out.size)); clear q)
      | (go_at_call 20; refine (HN.out _).mono ?_; rintro r u1 ⟨rfl, q⟩; have q1 := B0.out.trans (q.mono B0.out.size); obtain ⟨⟨x0, x1, x2, x3⟩, ⟨y0, y1, y2⟩, z0⟩ := newW_boxes q1; obtain ⟨v0, v1, v2, v3, v4⟩ := newW_boxes4 q1; have B1 := Lib.hid q1; clear q q1 z0)
      | (go_at_call 9; refine HLV.out.mono ?_; rintro r u0 ⟨rfl, q⟩; obtain ⟨⟨x0, x1, x2, x3⟩, ⟨y0, y1, y2⟩, z0⟩ := newW_boxes q; obtain ⟨v0, v1, v2, v3, v4⟩ := newW_boxes4 q; have B0 := Lib.hid q; clear q z0))
    go_ret
    exact ⟨rfl, (newW_boxes B2.out).2.2⟩
  · have hm : Md.cfgB a b c e = true ∧ k ≤ 8 := by simpa using hmay
    have hcf := Md.cfgB_iff.1 hm.1
    have HN : Hid (∀ u, Below W.heap.size W u → Calls Tryz.prog 20 #[cfgV a b c e, .agg #[.int .i64 t, .slice ao n cap], .slice po k co] u fun r w' => ∃ bm K, r = .returned (.pointer (some ⟨bm, 0, none⟩)) ∧ Gm u [] bm K w' (newM a c e t cs l) ∧ Abv u.heap.size K) := fun u hb => mnew_any hn hk (hT.on hb) (hC.on hb) (hL.on hb) hnl hm.1 hm.2
    have HR : Hid (∀ u, Below W.heap.size W u → Calls Tryz.prog 21 #[cfgV a b c e, .agg #[.int .i64 t, .slice ao n cap], .slice po k co] u fun r w' => ∃ br : Nat, r = .returned (.pointer (some ⟨br, 0, none⟩)) ∧ Below u.heap.size u w') := fun u hb => rnew_any hn hk (hC.on hb) (hL.on hb) hnl hm.1 hm.2
    have HI : Hid (Inv (newM a c e t cs l)) := inv_new hm.1 (fun j hj => hx _ (List.mem_of_getElem? (ci_lt hj))) hl
    have HFD : Hid (∀ u, Below W.heap.size W u → ∀ g : Nat, Calls Tryz.prog 27 #[.slice pf kf cf, .int .i64 (g : Int)] u fun r w' => r = .returned (.float .f64 (fedV f g)) ∧ w' = u) := fun u hb g => fed_any (hF.on hb) hkf g
    have HFL := Lib.hid (fedV_lt hf)
    have HTW := Lib.hid hT
    have HCF : Hid ((1 ≤ c ∧ c ≤ 1024) ∧ 1 ≤ e ∧ e ≤ 32) := ⟨hcf.2.2.1, hcf.2.2.2⟩
    clear hT hC hx hL hl hF hf hnl hmay hn hk hkf hm hcf
    generalize hm0 : newM a c e t cs l = m0 at HN HI
    have HM0 : Hid (m0.fuel = c ∧ m0.wmax = e ∧ m0.upd = (t == 2)) := by subst hm0; exact ⟨rfl, rfl, rfl⟩
    have HM1 : Hid (¬ 0 ≤ m0.wait ∧ m0.how = 0 ∧ m0.used = 0) := by subst hm0; exact ⟨show ¬ (0 : Int) ≤ -1 by decide, rfl, rfl⟩
    clear hm0
    go_enter Tryz.func5, Tryz.ntmps5
    go_wp2_with (first
      | (go_at_call 21; refine (HR.out _ (newW_boxes B1.out).2.2).mono ?_; rintro r u2 ⟨br, rfl, q⟩; have G2 := Lib.hid (G1.out.on q); have q1 := B1.out.trans (q.mono B1.out.size); obtain ⟨v0, v1, v2, v3, v4⟩ := newW_boxes4 q1; clear q q1)
      | (go_at_call 20; refine (HN.out _ (newW_boxes B0.out).2.2).mono ?_; rintro r u1 ⟨bm, K, rfl, q, _⟩; have q1 := B0.out.trans (q.fresh.mono B0.out.size); obtain ⟨⟨x0, x1, x2, x3⟩, ⟨y0, y1, y2⟩, z0⟩ := newW_boxes q1; obtain ⟨v0, v1, v2, v3, v4⟩ := newW_boxes4 q1; have G1 := Lib.hid q; have B1 := Lib.hid q1; clear q q1 z0)
      | (go_at_call 9; refine HLV.out.mono ?_; rintro r u0 ⟨rfl, q⟩; obtain ⟨⟨x0, x1, x2, x3⟩, ⟨y0, y1, y2⟩, z0⟩ := newW_boxes q; obtain ⟨v0, v1, v2, v3, v4⟩ := newW_boxes4 q; have B0 := Lib.hid q; clear q z0))
    have T0 : Hid (TabAt u0 []) := ⟨HTW.out.on (newW_boxes B0.out).2.2, by simp⟩
    go_loopw [12, 13] (fun vg vi wr => ∃ g i : Nat, ∃ m, vg = .int .i64 g ∧ vi = .int .i64 i ∧ g ≤ i ∧ (i : Int) ≤ c + 1 ∧ Hid (Run u0 bm K wr m0 m i)) (fun _ vi _ => (c + 1 - intOf vi).toNat)
    case atStart => exact ⟨0, 0, m0, rfl, rfl, Nat.le_refl _, by have := HCF.out; simp; omega, ⟨G2.out, HI.out, by have := HM1.out.1; omega, HM1.out.2.1, HM1.out.2.2, Like.refl _⟩⟩
    case round =>
      obtain ⟨g, i, m, rfl, rfl, hgi, hic, HRN⟩ := hrel
      have hus := HRN.out.inv.used
      rw [HRN.out.used, HRN.out.like.fuel, HM0.out.1] at hus
      have hic' : (i : Int) ≤ c := by omega
      have HBW : Hid (Below (newW W a b c e t ao n cap).heap.size (newW W a b c e t ao n cap) wr) := B0.out.trans (HRN.out.gm.fresh.mono B0.out.size)
      obtain ⟨v0, v1, v2, v3, v4⟩ := newW_boxes4 HBW.out
      obtain ⟨_, ⟨y0, y1, y2⟩, _⟩ := newW_boxes HBW.out
      have HST := Lib.hid (step_any HRN.out.gm T0.out HRN.out.inv)
      have HI2 := Lib.hid (inv_step HRN.out.inv)
      have ht := step_turns HRN.out.inv HRN.out.nw HRN.out.how
      generalize stepM m = r at HST HI2 ht
      obtain ⟨m', ⟨kd, cl, xx, fi⟩⟩ := r
      obtain ⟨hlk, ht⟩ := ht
      have HLK : Hid (Like m0 m') := HRN.out.like.trans hlk
      have c1000 : c ≤ 1024 := HCF.out.1.2
      clear hlk HN HR HLV G2 G1 hus
      rcases ht with ⟨k1, k2, k3⟩ | ⟨k1, k2, k3, k4, k5⟩ | ⟨k1, k2, k3, k4⟩
      · have k1' : kd = 4 := k1
        subst k1'
        replace HI2 : Hid (Inv m') := HI2.out
        have hh : 0 ≤ m'.how ∧ m'.how ≤ 3 := HI2.out.how
        have HF1 : Hid (m'.used ≤ c) := by have := HI2.out.used.2; rw [HLK.out.fuel, HM0.out.1] at this; exact this
        have HF2 : Hid ((m'.buf.length : Int) ≤ e) := by have := HI2.out.few; rw [HLK.out.wmax, HM0.out.2.1] at this; exact this
        have HF3 : Hid (¬ t = 2 → m'.buf.length = 0) := fun ht => by
          have : m'.buf = [] := HI2.out.none (by rw [HLK.out.upd, HM0.out.2.2]; simpa using ht)
          rw [this]; rfl
        have HF4 : Hid (m'.err = 80 → m'.used = c) := fun he => by have := HI2.out.full he; rw [HLK.out.fuel, HM0.out.1] at this; exact this
        have HF5 := Lib.hid HI2.out.fail
        have HF6 : Hid (m'.st.length ≤ 64 ∧ m'.calls.length ≤ 16) := ⟨by have h9 : (m'.st.length : Int) + (if 0 ≤ m'.wait then 1 else 0) ≤ 64 := HI2.out.high; split at h9 <;> omega, HI2.out.deep⟩
        have HE := Lib.hid (fun u (hg : Gm u0 [] bm K u m') => end_any hg)
        unfold endV at HE
        have HU := Lib.hid (fun u (hg : Gm u0 [] bm K u m') => used_any hg)
        have HWR := Lib.hid (fun u (hg : Gm u0 [] bm K u m') => writes_any hg)
        have HSK := Lib.hid (fun u (hg : Gm u0 [] bm K u m') => stack_any hg)
        have HDP := Lib.hid (fun u (hg : Gm u0 [] bm K u m') => depth_any hg)
        have hh3 : m'.how = 1 ∨ m'.how = 2 ∨ m'.how = 3 := by
          have k2' : m'.how ≠ 0 := k2
          omega
        have HZ : Hid (∀ u, Gm u0 [] bm K u m' → u.cell? ⟨W.heap.size, 2, none⟩ = some (.int .i64 c) ∧ u.cell? ⟨W.heap.size, 3, none⟩ = some (.int .i64 e) ∧ u.cell? ⟨W.heap.size + 1, 0, none⟩ = some (.int .i64 t) ∧ W.heap.size < u.heap.size ∧ W.heap.size + 1 < u.heap.size) := fun u hg => by
          have hb := B0.out.trans (hg.fresh.mono B0.out.size)
          obtain ⟨_, _, z2, z3, z4⟩ := newW_boxes4 hb
          obtain ⟨_, ⟨z5, _, z6⟩, _⟩ := newW_boxes hb
          exact ⟨z2, z3, z5, z4, z6⟩
        generalize m'.how = ho at HE hh3 HF5
        generalize m'.cod = co2 at HE
        generalize m'.err = er at HE HF4 HF5
        clear k1 k2 k3 hh HFD HFL
        go_wp2_with (first
          | (go_at_call 22; refine (HE.out _ G3.out).mono ?_; rintro r u4 ⟨rfl, q⟩; have g4 := (G3.out.on q).alloc (.cells #[.int .i64 ho, .int .i64 co2, .int .i64 er] 55); obtain ⟨z2, z3, z4, z5, z6⟩ := HZ.out _ (G3.out.on q); have G4 := Lib.hid g4; clear q g4)
          | (go_at_call 14; refine HST.out.mono ?_; rintro r u3 ⟨rfl, q⟩; have G3 := Lib.hid (q.alloc (askO ⟨4, cl, xx, fi⟩)); clear q HST; unfold askV))
        have HEB : Hid (∀ u, Below (u4.alloc (.cells #[.int .i64 ho, .int .i64 co2, .int .i64 er] 55)).heap.size (u4.alloc (.cells #[.int .i64 ho, .int .i64 co2, .int .i64 er] 55)) u → u.cell? ⟨u4.heap.size, 0, none⟩ = some (.int .i64 ho) ∧ u.cell? ⟨u4.heap.size, 2, none⟩ = some (.int .i64 er) ∧ u4.heap.size < u.heap.size) := fun u hb => by
          obtain ⟨c0, _, c2, c3⟩ := cells3_of ((hb.block u4.heap.size (by simp)).trans (heap_alloc_new u4 _))
          exact ⟨c0, c2, c3⟩
        have n1 : ¬ c < m'.used := by have := HF1.out; omega
        have n2 : ¬ e < (m'.buf.length : Int) := by have := HF2.out; omega
        have n3 : ¬ (64 : Int) < (m'.st.length : Int) := by have := HF6.out.1; omega
        have n4 : ¬ (16 : Int) < (m'.calls.length : Int) := by have := HF6.out.2; omega
        have hcase : ((ho = 1 ∨ ho = 2) ∧ er = 0) ∨ (ho = 3 ∧ er ≠ 0) := by
          have hf5 := HF5.out
          rcases hh3 with h | h | h
          · exact .inl ⟨.inl h, by by_cases he : er = 0; exact he; exact absurd (hf5.2 he) (by omega)⟩
          · exact .inl ⟨.inr h, by by_cases he : er = 0; exact he; exact absurd (hf5.2 he) (by omega)⟩
          · exact .inr ⟨h, hf5.1 h⟩
        generalize hbl : m'.buf.length = bl at n2 HF3 HWR
        generalize hsl : m'.st.length = sl at n3 HSK
        generalize hcl : m'.calls.length = cl2 at n4 HDP
        generalize hus : m'.used = us at n1 HF4 HU
        clear hbl hsl hcl hus hh3 HF1 HF2 HF6 HF5 HE HI2 HLK
        have hcase2 : (ho = 1 ∧ er = 0) ∨ (ho = 2 ∧ er = 0) ∨ (ho = 3 ∧ er = 80) ∨ (ho = 3 ∧ er ≠ 0 ∧ ¬ er = 80) := by
          rcases hcase with ⟨h | h, h2⟩ | ⟨h, h2⟩
          · exact .inl ⟨h, h2⟩
          · exact .inr (.inl ⟨h, h2⟩)
          · by_cases h3 : er = 80
            · exact .inr (.inr (.inl ⟨h, h3⟩))
            · exact .inr (.inr (.inr ⟨h, h2, h3⟩))
        clear hcase
        rcases hcase2 with ⟨rfl, rfl⟩ | ⟨rfl, rfl⟩ | ⟨rfl, rfl⟩ | ⟨rfl, her, h80⟩ <;> by_cases ht2 : t = 2
        · subst ht2
          have n3a : decide ((64 : Int) < (sl : Int)) = false := decide_eq_false n3
          have n3b : decide (64 < sl) = false := decide_eq_false (by omega)
          have n4a : decide ((16 : Int) < (cl2 : Int)) = false := decide_eq_false n4
          have n4b : decide (16 < cl2) = false := decide_eq_false (by omega)
          have HSS : Hid (∀ u, Gm u0 [] bm K u m' → Below (u4.alloc (.cells #[.int .i64 1, .int .i64 co2, .int .i64 0] 55)).heap.size (u4.alloc (.cells #[.int .i64 1, .int .i64 co2, .int .i64 0] 55)) u → (fun w' => w'.cell? ⟨u4.heap.size, 0, none⟩ = some (.int .i64 1) ∧ w'.cell? ⟨u4.heap.size, 2, none⟩ = some (.int .i64 0) ∧ w'.cell? ⟨W.heap.size, 2, none⟩ = some (.int .i64 c) ∧ w'.cell? ⟨W.heap.size, 3, none⟩ = some (.int .i64 e) ∧ w'.cell? ⟨W.heap.size + 1, 0, none⟩ = some (.int .i64 2)) u) := fun u hg hb => ⟨(HEB.out u hb).1, (HEB.out u hb).2.1, (HZ.out u hg).1, (HZ.out u hg).2.1, (HZ.out u hg).2.2.1⟩
          have G5 := Lib.hid (G4.out.same (Same.drew _))
          have Q5 := Lib.hid ((Same.drew (u4.alloc (.cells #[.int .i64 1, .int .i64 co2, .int .i64 0] 55))).below (u4.alloc (.cells #[.int .i64 1, .int .i64 co2, .int .i64 0] 55)).heap.size)
          refine wp_region_seq (fun w' => w'.cell? ⟨u4.heap.size, 0, none⟩ = some (.int .i64 1) ∧ w'.cell? ⟨u4.heap.size, 2, none⟩ = some (.int .i64 0) ∧ w'.cell? ⟨W.heap.size, 2, none⟩ = some (.int .i64 c) ∧ w'.cell? ⟨W.heap.size, 3, none⟩ = some (.int .i64 e) ∧ w'.cell? ⟨W.heap.size + 1, 0, none⟩ = some (.int .i64 2)) ((0, true) :: (1, true) :: (2, true) :: (3, true) :: (4, true) :: (5, true) :: (6, true) :: (7, true) :: (8, true) :: (9, true) :: (10, true) :: (11, true) :: (12, true) :: (13, true) :: (14, true) :: (16, true) :: (17, true) :: (15, false) :: (18, true) :: (19, true) :: (20, true) :: (21, true) :: (24, true) :: (25, true) :: (22, false) :: (23, true) :: (26, true) :: (27, true) :: (28, true) :: (29, true) :: (30, true) :: (31, true) :: (32, true) :: (33, true) :: (34, false) :: (35, true) :: (36, true) :: (37, true) :: (38, true) :: []) (by kernel_rfl) (by kernel_rfl) (fun _ _ _ _ _ h => h) (HSS.out _ G5.out Q5.out) ?_
          repeat (first
            | (refine wpSeq_skip rfl (by rfl) ?_; simp only [Act.put, List.setIfInBounds_toArray, List.set_cons_zero, List.set_cons_succ])
            | (refine wpSeq_take (v := ?_) rfl (by rfl) (fun wq hSq => ?_) ?_; rotate_left; (focus ((try dsimp only at hSq); go_simp; try with_reducible rfl)); simp only [Act.put, List.setIfInBounds_toArray, List.set_cons_zero, List.set_cons_succ]))
          refine wpSeq_do rfl (by rfl) (fun K hK => ?_)
          go_simp
          refine (HU.out _ G5.out).mono ?_
          rintro r u ⟨rfl, hu⟩; subst u
          refine hK.out _ _ ?_ ?_
          · exact HSS.out _ G5.out Q5.out
          clear hK K
          try simp only [Act.put, List.setIfInBounds_toArray, List.set_cons_zero, List.set_cons_succ]
          repeat (first
            | (refine wpSeq_skip rfl (by rfl) ?_; simp only [Act.put, List.setIfInBounds_toArray, List.set_cons_zero, List.set_cons_succ])
            | (refine wpSeq_take (v := ?_) rfl (by rfl) (fun wq hSq => ?_) ?_; rotate_left; (focus ((try dsimp only at hSq); go_simp; try with_reducible rfl)); simp only [Act.put, List.setIfInBounds_toArray, List.set_cons_zero, List.set_cons_succ]))
          refine wpSeq_do rfl (by rfl) (fun K hK => ?_)
          go_simp
          refine (HWR.out _ G5.out).mono ?_
          rintro r u5 ⟨rfl, _, q⟩; have G6 := Lib.hid (G5.out.on q); have Q6 := Lib.hid (Q5.out.trans (q.mono Q5.out.size)); clear q
          refine hK.out _ _ ?_ ?_
          · exact HSS.out _ G6.out Q6.out
          clear hK K
          try simp only [Act.put, List.setIfInBounds_toArray, List.set_cons_zero, List.set_cons_succ]
          repeat (first
            | (refine wpSeq_skip rfl (by rfl) ?_; simp only [Act.put, List.setIfInBounds_toArray, List.set_cons_zero, List.set_cons_succ])
            | (refine wpSeq_take (v := ?_) rfl (by rfl) (fun wq hSq => ?_) ?_; rotate_left; (focus ((try dsimp only at hSq); go_simp; try with_reducible rfl)); simp only [Act.put, List.setIfInBounds_toArray, List.set_cons_zero, List.set_cons_succ]))
          refine wpSeq_skip' rfl (by rfl) (HSS.out _ G6.out Q6.out) ?_
          simp only [Act.put, List.setIfInBounds_toArray, List.set_cons_zero, List.set_cons_succ]
          repeat (first
            | (refine wpSeq_skip rfl (by rfl) ?_; simp only [Act.put, List.setIfInBounds_toArray, List.set_cons_zero, List.set_cons_succ])
            | (refine wpSeq_take (v := ?_) rfl (by rfl) (fun wq hSq => ?_) ?_; rotate_left; (focus ((try dsimp only at hSq); go_simp; try with_reducible rfl)); simp only [Act.put, List.setIfInBounds_toArray, List.set_cons_zero, List.set_cons_succ]))
          refine wpSeq_nil ?_
          obtain ⟨y0, y2, y3, y4, y5⟩ := HSS.out _ G6.out Q6.out
          go_wp2
          have G7 := Lib.hid (G6.out.same (Same.drew _))
          have Q7 := Lib.hid (Q6.out.trans ((Same.drew u5).below _))
          refine wp_region_seq (fun w' => w'.cell? ⟨u4.heap.size, 0, none⟩ = some (.int .i64 1) ∧ w'.cell? ⟨u4.heap.size, 2, none⟩ = some (.int .i64 0) ∧ w'.cell? ⟨W.heap.size, 2, none⟩ = some (.int .i64 c) ∧ w'.cell? ⟨W.heap.size, 3, none⟩ = some (.int .i64 e) ∧ w'.cell? ⟨W.heap.size + 1, 0, none⟩ = some (.int .i64 2)) ((0, true) :: (1, true) :: (2, true) :: (3, true) :: (4, true) :: (6, true) :: (7, true) :: (5, false) :: (8, true) :: (9, true) :: (10, true) :: (11, true) :: (12, true) :: (13, true) :: (14, true) :: (15, true) :: (16, true) :: (17, true) :: (18, true) :: (19, true) :: (20, true) :: (21, false) :: (22, true) :: (23, true) :: (24, true) :: (25, true) :: (26, true) :: (27, false) :: (28, true) :: (29, true) :: []) (by kernel_rfl) (by kernel_rfl) (fun _ _ _ _ _ h => h) (HSS.out _ G7.out Q7.out) ?_
          repeat (first
            | (refine wpSeq_skip rfl (by rfl) ?_; simp only [Act.put, List.setIfInBounds_toArray, List.set_cons_zero, List.set_cons_succ])
            | (refine wpSeq_take (v := ?_) rfl (by rfl) (fun wq hSq => ?_) ?_; rotate_left; (focus ((try dsimp only at hSq); go_simp; try with_reducible rfl)); simp only [Act.put, List.setIfInBounds_toArray, List.set_cons_zero, List.set_cons_succ]))
          refine wpSeq_skip' rfl (by rfl) (HSS.out _ G7.out Q7.out) ?_
          simp only [Act.put, List.setIfInBounds_toArray, List.set_cons_zero, List.set_cons_succ]
          repeat (first
            | (refine wpSeq_skip rfl (by rfl) ?_; simp only [Act.put, List.setIfInBounds_toArray, List.set_cons_zero, List.set_cons_succ])
            | (refine wpSeq_take (v := ?_) rfl (by rfl) (fun wq hSq => ?_) ?_; rotate_left; (focus ((try dsimp only at hSq); go_simp; try with_reducible rfl)); simp only [Act.put, List.setIfInBounds_toArray, List.set_cons_zero, List.set_cons_succ]))
          refine wpSeq_do rfl (by rfl) (fun K hK => ?_)
          go_simp
          refine (HSK.out _ G7.out).mono ?_
          rintro r u7 ⟨rfl, _, q⟩; have G8 := Lib.hid (G7.out.on q); have Q8 := Lib.hid (Q7.out.trans (q.mono Q7.out.size)); clear q
          refine hK.out _ _ ?_ ?_
          · exact HSS.out _ G8.out Q8.out
          clear hK K
          try simp only [Act.put, List.setIfInBounds_toArray, List.set_cons_zero, List.set_cons_succ]
          repeat (first
            | (refine wpSeq_skip rfl (by rfl) ?_; simp only [Act.put, List.setIfInBounds_toArray, List.set_cons_zero, List.set_cons_succ])
            | (refine wpSeq_take (v := ?_) rfl (by rfl) (fun wq hSq => ?_) ?_; rotate_left; (focus ((try dsimp only at hSq); go_simp; try with_reducible rfl)); simp only [Act.put, List.setIfInBounds_toArray, List.set_cons_zero, List.set_cons_succ]))
          refine wpSeq_do rfl (by rfl) (fun K hK => ?_)
          go_simp
          refine (HDP.out _ G8.out).mono ?_
          rintro r u ⟨rfl, hu⟩; subst u
          refine hK.out _ _ ?_ ?_
          · exact HSS.out _ G8.out Q8.out
          clear hK K
          try simp only [Act.put, List.setIfInBounds_toArray, List.set_cons_zero, List.set_cons_succ]
          repeat (first
            | (refine wpSeq_skip rfl (by rfl) ?_; simp only [Act.put, List.setIfInBounds_toArray, List.set_cons_zero, List.set_cons_succ])
            | (refine wpSeq_take (v := ?_) rfl (by rfl) (fun wq hSq => ?_) ?_; rotate_left; (focus ((try dsimp only at hSq); go_simp; try with_reducible rfl)); simp only [Act.put, List.setIfInBounds_toArray, List.set_cons_zero, List.set_cons_succ]))
          refine wpSeq_nil ?_
          go_wp2
          go_ret
          exact ⟨rfl, (newW_boxes (B0.out.trans (G8.out.fresh.mono B0.out.size))).2.2⟩
        · have hb0 : bl = 0 := HF3.out ht2
          subst hb0
          have n2a : ¬ e < 0 := by simpa using n2
          have n2b : decide (e < 0) = false := decide_eq_false n2a
          have ht2a : (t == 2) = false := by simpa using ht2
          have ht2b : (t != 2) = true := by simpa using ht2
          have n3a : decide ((64 : Int) < (sl : Int)) = false := decide_eq_false n3
          have n3b : decide (64 < sl) = false := decide_eq_false (by omega)
          have n4a : decide ((16 : Int) < (cl2 : Int)) = false := decide_eq_false n4
          have n4b : decide (16 < cl2) = false := decide_eq_false (by omega)
          have HSS : Hid (∀ u, Gm u0 [] bm K u m' → Below (u4.alloc (.cells #[.int .i64 1, .int .i64 co2, .int .i64 0] 55)).heap.size (u4.alloc (.cells #[.int .i64 1, .int .i64 co2, .int .i64 0] 55)) u → (fun w' => w'.cell? ⟨u4.heap.size, 0, none⟩ = some (.int .i64 1) ∧ w'.cell? ⟨u4.heap.size, 2, none⟩ = some (.int .i64 0) ∧ w'.cell? ⟨W.heap.size, 2, none⟩ = some (.int .i64 c) ∧ w'.cell? ⟨W.heap.size, 3, none⟩ = some (.int .i64 e) ∧ w'.cell? ⟨W.heap.size + 1, 0, none⟩ = some (.int .i64 t)) u) := fun u hg hb => ⟨(HEB.out u hb).1, (HEB.out u hb).2.1, (HZ.out u hg).1, (HZ.out u hg).2.1, (HZ.out u hg).2.2.1⟩
          have G5 := Lib.hid (G4.out.same (Same.drew _))
          have Q5 := Lib.hid ((Same.drew (u4.alloc (.cells #[.int .i64 1, .int .i64 co2, .int .i64 0] 55))).below (u4.alloc (.cells #[.int .i64 1, .int .i64 co2, .int .i64 0] 55)).heap.size)
          refine wp_region_seq (fun w' => w'.cell? ⟨u4.heap.size, 0, none⟩ = some (.int .i64 1) ∧ w'.cell? ⟨u4.heap.size, 2, none⟩ = some (.int .i64 0) ∧ w'.cell? ⟨W.heap.size, 2, none⟩ = some (.int .i64 c) ∧ w'.cell? ⟨W.heap.size, 3, none⟩ = some (.int .i64 e) ∧ w'.cell? ⟨W.heap.size + 1, 0, none⟩ = some (.int .i64 t)) ((0, true) :: (1, true) :: (2, true) :: (3, true) :: (4, true) :: (5, true) :: (6, true) :: (7, true) :: (8, true) :: (9, true) :: (10, true) :: (11, true) :: (12, true) :: (13, true) :: (14, true) :: (16, true) :: (17, true) :: (15, false) :: (18, true) :: (19, true) :: (20, true) :: (21, true) :: (24, true) :: (25, true) :: (22, false) :: (23, true) :: (26, true) :: (27, true) :: (28, true) :: (29, true) :: (30, true) :: (31, true) :: (32, true) :: (33, true) :: (34, false) :: (35, true) :: (36, true) :: (37, true) :: (38, true) :: []) (by kernel_rfl) (by kernel_rfl) (fun _ _ _ _ _ h => h) (HSS.out _ G5.out Q5.out) ?_
          repeat (first
            | (refine wpSeq_skip rfl (by rfl) ?_; simp only [Act.put, List.setIfInBounds_toArray, List.set_cons_zero, List.set_cons_succ])
            | (refine wpSeq_take (v := ?_) rfl (by rfl) (fun wq hSq => ?_) ?_; rotate_left; (focus ((try dsimp only at hSq); go_simp; try with_reducible rfl)); simp only [Act.put, List.setIfInBounds_toArray, List.set_cons_zero, List.set_cons_succ]))
          refine wpSeq_do rfl (by rfl) (fun K hK => ?_)
          go_simp
          refine (HU.out _ G5.out).mono ?_
          rintro r u ⟨rfl, hu⟩; subst u
          refine hK.out _ _ ?_ ?_
          · exact HSS.out _ G5.out Q5.out
          clear hK K
          try simp only [Act.put, List.setIfInBounds_toArray, List.set_cons_zero, List.set_cons_succ]
          repeat (first
            | (refine wpSeq_skip rfl (by rfl) ?_; simp only [Act.put, List.setIfInBounds_toArray, List.set_cons_zero, List.set_cons_succ])
            | (refine wpSeq_take (v := ?_) rfl (by rfl) (fun wq hSq => ?_) ?_; rotate_left; (focus ((try dsimp only at hSq); go_simp; try with_reducible rfl)); simp only [Act.put, List.setIfInBounds_toArray, List.set_cons_zero, List.set_cons_succ]))
          refine wpSeq_do rfl (by rfl) (fun K hK => ?_)
          go_simp
          refine (HWR.out _ G5.out).mono ?_
          rintro r u5 ⟨rfl, _, q⟩; have G6 := Lib.hid (G5.out.on q); have Q6 := Lib.hid (Q5.out.trans (q.mono Q5.out.size)); clear q
          refine hK.out _ _ ?_ ?_
          · exact HSS.out _ G6.out Q6.out
          clear hK K
          try simp only [Act.put, List.setIfInBounds_toArray, List.set_cons_zero, List.set_cons_succ]
          repeat (first
            | (refine wpSeq_skip rfl (by rfl) ?_; simp only [Act.put, List.setIfInBounds_toArray, List.set_cons_zero, List.set_cons_succ])
            | (refine wpSeq_take (v := ?_) rfl (by rfl) (fun wq hSq => ?_) ?_; rotate_left; (focus ((try dsimp only at hSq); go_simp; try with_reducible rfl)); simp only [Act.put, List.setIfInBounds_toArray, List.set_cons_zero, List.set_cons_succ]))
          refine wpSeq_do rfl (by rfl) (fun K hK => ?_)
          go_simp
          refine (HWR.out _ G6.out).mono ?_
          rintro r u6 ⟨rfl, _, q⟩; have G7 := Lib.hid (G6.out.on q); have Q7 := Lib.hid (Q6.out.trans (q.mono Q6.out.size)); clear q
          refine hK.out _ _ ?_ ?_
          · exact HSS.out _ G7.out Q7.out
          clear hK K
          try simp only [Act.put, List.setIfInBounds_toArray, List.set_cons_zero, List.set_cons_succ]
          repeat (first
            | (refine wpSeq_skip rfl (by rfl) ?_; simp only [Act.put, List.setIfInBounds_toArray, List.set_cons_zero, List.set_cons_succ])
            | (refine wpSeq_take (v := ?_) rfl (by rfl) (fun wq hSq => ?_) ?_; rotate_left; (focus ((try dsimp only at hSq); go_simp; try with_reducible rfl)); simp only [Act.put, List.setIfInBounds_toArray, List.set_cons_zero, List.set_cons_succ]))
          refine wpSeq_nil ?_
          obtain ⟨y0, y2, y3, y4, y5⟩ := HSS.out _ G7.out Q7.out
          go_wp2
          have G8 := Lib.hid (G7.out.same (Same.drew _))
          have Q8 := Lib.hid (Q7.out.trans ((Same.drew u6).below _))
          refine wp_region_seq (fun w' => w'.cell? ⟨u4.heap.size, 0, none⟩ = some (.int .i64 1) ∧ w'.cell? ⟨u4.heap.size, 2, none⟩ = some (.int .i64 0) ∧ w'.cell? ⟨W.heap.size, 2, none⟩ = some (.int .i64 c) ∧ w'.cell? ⟨W.heap.size, 3, none⟩ = some (.int .i64 e) ∧ w'.cell? ⟨W.heap.size + 1, 0, none⟩ = some (.int .i64 t)) ((0, true) :: (1, true) :: (2, true) :: (3, true) :: (4, true) :: (6, true) :: (7, true) :: (5, false) :: (8, true) :: (9, true) :: (10, true) :: (11, true) :: (12, true) :: (13, true) :: (14, true) :: (15, true) :: (16, true) :: (17, true) :: (18, true) :: (19, true) :: (20, true) :: (21, false) :: (22, true) :: (23, true) :: (24, true) :: (25, true) :: (26, true) :: (27, false) :: (28, true) :: (29, true) :: []) (by kernel_rfl) (by kernel_rfl) (fun _ _ _ _ _ h => h) (HSS.out _ G8.out Q8.out) ?_
          repeat (first
            | (refine wpSeq_skip rfl (by rfl) ?_; simp only [Act.put, List.setIfInBounds_toArray, List.set_cons_zero, List.set_cons_succ])
            | (refine wpSeq_take (v := ?_) rfl (by rfl) (fun wq hSq => ?_) ?_; rotate_left; (focus ((try dsimp only at hSq); go_simp; try with_reducible rfl)); simp only [Act.put, List.setIfInBounds_toArray, List.set_cons_zero, List.set_cons_succ]))
          refine wpSeq_skip' rfl (by rfl) (HSS.out _ G8.out Q8.out) ?_
          simp only [Act.put, List.setIfInBounds_toArray, List.set_cons_zero, List.set_cons_succ]
          repeat (first
            | (refine wpSeq_skip rfl (by rfl) ?_; simp only [Act.put, List.setIfInBounds_toArray, List.set_cons_zero, List.set_cons_succ])
            | (refine wpSeq_take (v := ?_) rfl (by rfl) (fun wq hSq => ?_) ?_; rotate_left; (focus ((try dsimp only at hSq); go_simp; try with_reducible rfl)); simp only [Act.put, List.setIfInBounds_toArray, List.set_cons_zero, List.set_cons_succ]))
          refine wpSeq_do rfl (by rfl) (fun K hK => ?_)
          go_simp
          refine (HSK.out _ G8.out).mono ?_
          rintro r u8 ⟨rfl, _, q⟩; have G9 := Lib.hid (G8.out.on q); have Q9 := Lib.hid (Q8.out.trans (q.mono Q8.out.size)); clear q
          refine hK.out _ _ ?_ ?_
          · exact HSS.out _ G9.out Q9.out
          clear hK K
          try simp only [Act.put, List.setIfInBounds_toArray, List.set_cons_zero, List.set_cons_succ]
          repeat (first
            | (refine wpSeq_skip rfl (by rfl) ?_; simp only [Act.put, List.setIfInBounds_toArray, List.set_cons_zero, List.set_cons_succ])
            | (refine wpSeq_take (v := ?_) rfl (by rfl) (fun wq hSq => ?_) ?_; rotate_left; (focus ((try dsimp only at hSq); go_simp; try with_reducible rfl)); simp only [Act.put, List.setIfInBounds_toArray, List.set_cons_zero, List.set_cons_succ]))
          refine wpSeq_do rfl (by rfl) (fun K hK => ?_)
          go_simp
          refine (HDP.out _ G9.out).mono ?_
          rintro r u ⟨rfl, hu⟩; subst u
          refine hK.out _ _ ?_ ?_
          · exact HSS.out _ G9.out Q9.out
          clear hK K
          try simp only [Act.put, List.setIfInBounds_toArray, List.set_cons_zero, List.set_cons_succ]
          repeat (first
            | (refine wpSeq_skip rfl (by rfl) ?_; simp only [Act.put, List.setIfInBounds_toArray, List.set_cons_zero, List.set_cons_succ])
            | (refine wpSeq_take (v := ?_) rfl (by rfl) (fun wq hSq => ?_) ?_; rotate_left; (focus ((try dsimp only at hSq); go_simp; try with_reducible rfl)); simp only [Act.put, List.setIfInBounds_toArray, List.set_cons_zero, List.set_cons_succ]))
          refine wpSeq_nil ?_
          go_wp2
          go_ret
          exact ⟨rfl, (newW_boxes (B0.out.trans (G9.out.fresh.mono B0.out.size))).2.2⟩
        · subst ht2
          have n3a : decide ((64 : Int) < (sl : Int)) = false := decide_eq_false n3
          have n3b : decide (64 < sl) = false := decide_eq_false (by omega)
          have n4a : decide ((16 : Int) < (cl2 : Int)) = false := decide_eq_false n4
          have n4b : decide (16 < cl2) = false := decide_eq_false (by omega)
          have HSS : Hid (∀ u, Gm u0 [] bm K u m' → Below (u4.alloc (.cells #[.int .i64 2, .int .i64 co2, .int .i64 0] 55)).heap.size (u4.alloc (.cells #[.int .i64 2, .int .i64 co2, .int .i64 0] 55)) u → (fun w' => w'.cell? ⟨u4.heap.size, 0, none⟩ = some (.int .i64 2) ∧ w'.cell? ⟨u4.heap.size, 2, none⟩ = some (.int .i64 0) ∧ w'.cell? ⟨W.heap.size, 2, none⟩ = some (.int .i64 c) ∧ w'.cell? ⟨W.heap.size, 3, none⟩ = some (.int .i64 e) ∧ w'.cell? ⟨W.heap.size + 1, 0, none⟩ = some (.int .i64 2)) u) := fun u hg hb => ⟨(HEB.out u hb).1, (HEB.out u hb).2.1, (HZ.out u hg).1, (HZ.out u hg).2.1, (HZ.out u hg).2.2.1⟩
          have G5 := Lib.hid (G4.out.same (Same.drew _))
          have Q5 := Lib.hid ((Same.drew (u4.alloc (.cells #[.int .i64 2, .int .i64 co2, .int .i64 0] 55))).below (u4.alloc (.cells #[.int .i64 2, .int .i64 co2, .int .i64 0] 55)).heap.size)
          refine wp_region_seq (fun w' => w'.cell? ⟨u4.heap.size, 0, none⟩ = some (.int .i64 2) ∧ w'.cell? ⟨u4.heap.size, 2, none⟩ = some (.int .i64 0) ∧ w'.cell? ⟨W.heap.size, 2, none⟩ = some (.int .i64 c) ∧ w'.cell? ⟨W.heap.size, 3, none⟩ = some (.int .i64 e) ∧ w'.cell? ⟨W.heap.size + 1, 0, none⟩ = some (.int .i64 2)) ((0, true) :: (1, true) :: (2, true) :: (3, true) :: (4, true) :: (5, true) :: (6, true) :: (7, true) :: (8, true) :: (9, true) :: (10, true) :: (11, true) :: (12, true) :: (13, true) :: (14, true) :: (16, true) :: (17, true) :: (15, false) :: (18, true) :: (19, true) :: (20, true) :: (21, true) :: (24, true) :: (25, true) :: (22, false) :: (23, true) :: (26, true) :: (27, true) :: (28, true) :: (29, true) :: (30, true) :: (31, true) :: (32, true) :: (33, true) :: (34, false) :: (35, true) :: (36, true) :: (37, true) :: (38, true) :: []) (by kernel_rfl) (by kernel_rfl) (fun _ _ _ _ _ h => h) (HSS.out _ G5.out Q5.out) ?_
          repeat (first
            | (refine wpSeq_skip rfl (by rfl) ?_; simp only [Act.put, List.setIfInBounds_toArray, List.set_cons_zero, List.set_cons_succ])
            | (refine wpSeq_take (v := ?_) rfl (by rfl) (fun wq hSq => ?_) ?_; rotate_left; (focus ((try dsimp only at hSq); go_simp; try with_reducible rfl)); simp only [Act.put, List.setIfInBounds_toArray, List.set_cons_zero, List.set_cons_succ]))
          refine wpSeq_do rfl (by rfl) (fun K hK => ?_)
          go_simp
          refine (HU.out _ G5.out).mono ?_
          rintro r u ⟨rfl, hu⟩; subst u
          refine hK.out _ _ ?_ ?_
          · exact HSS.out _ G5.out Q5.out
          clear hK K
          try simp only [Act.put, List.setIfInBounds_toArray, List.set_cons_zero, List.set_cons_succ]
          repeat (first
            | (refine wpSeq_skip rfl (by rfl) ?_; simp only [Act.put, List.setIfInBounds_toArray, List.set_cons_zero, List.set_cons_succ])
            | (refine wpSeq_take (v := ?_) rfl (by rfl) (fun wq hSq => ?_) ?_; rotate_left; (focus ((try dsimp only at hSq); go_simp; try with_reducible rfl)); simp only [Act.put, List.setIfInBounds_toArray, List.set_cons_zero, List.set_cons_succ]))
          refine wpSeq_do rfl (by rfl) (fun K hK => ?_)
          go_simp
          refine (HWR.out _ G5.out).mono ?_
          rintro r u5 ⟨rfl, _, q⟩; have G6 := Lib.hid (G5.out.on q); have Q6 := Lib.hid (Q5.out.trans (q.mono Q5.out.size)); clear q
          refine hK.out _ _ ?_ ?_
          · exact HSS.out _ G6.out Q6.out
          clear hK K
          try simp only [Act.put, List.setIfInBounds_toArray, List.set_cons_zero, List.set_cons_succ]
          repeat (first
            | (refine wpSeq_skip rfl (by rfl) ?_; simp only [Act.put, List.setIfInBounds_toArray, List.set_cons_zero, List.set_cons_succ])
            | (refine wpSeq_take (v := ?_) rfl (by rfl) (fun wq hSq => ?_) ?_; rotate_left; (focus ((try dsimp only at hSq); go_simp; try with_reducible rfl)); simp only [Act.put, List.setIfInBounds_toArray, List.set_cons_zero, List.set_cons_succ]))
          refine wpSeq_skip' rfl (by rfl) (HSS.out _ G6.out Q6.out) ?_
          simp only [Act.put, List.setIfInBounds_toArray, List.set_cons_zero, List.set_cons_succ]
          repeat (first
            | (refine wpSeq_skip rfl (by rfl) ?_; simp only [Act.put, List.setIfInBounds_toArray, List.set_cons_zero, List.set_cons_succ])
            | (refine wpSeq_take (v := ?_) rfl (by rfl) (fun wq hSq => ?_) ?_; rotate_left; (focus ((try dsimp only at hSq); go_simp; try with_reducible rfl)); simp only [Act.put, List.setIfInBounds_toArray, List.set_cons_zero, List.set_cons_succ]))
          refine wpSeq_nil ?_
          obtain ⟨y0, y2, y3, y4, y5⟩ := HSS.out _ G6.out Q6.out
          go_wp2
          have G7 := Lib.hid (G6.out.same (Same.drew _))
          have Q7 := Lib.hid (Q6.out.trans ((Same.drew u5).below _))
          refine wp_region_seq (fun w' => w'.cell? ⟨u4.heap.size, 0, none⟩ = some (.int .i64 2) ∧ w'.cell? ⟨u4.heap.size, 2, none⟩ = some (.int .i64 0) ∧ w'.cell? ⟨W.heap.size, 2, none⟩ = some (.int .i64 c) ∧ w'.cell? ⟨W.heap.size, 3, none⟩ = some (.int .i64 e) ∧ w'.cell? ⟨W.heap.size + 1, 0, none⟩ = some (.int .i64 2)) ((0, true) :: (1, true) :: (2, true) :: (3, true) :: (4, true) :: (6, true) :: (7, true) :: (5, false) :: (8, true) :: (9, true) :: (10, true) :: (11, true) :: (12, true) :: (13, true) :: (14, true) :: (15, true) :: (16, true) :: (17, true) :: (18, true) :: (19, true) :: (20, true) :: (21, false) :: (22, true) :: (23, true) :: (24, true) :: (25, true) :: (26, true) :: (27, false) :: (28, true) :: (29, true) :: []) (by kernel_rfl) (by kernel_rfl) (fun _ _ _ _ _ h => h) (HSS.out _ G7.out Q7.out) ?_
          repeat (first
            | (refine wpSeq_skip rfl (by rfl) ?_; simp only [Act.put, List.setIfInBounds_toArray, List.set_cons_zero, List.set_cons_succ])
            | (refine wpSeq_take (v := ?_) rfl (by rfl) (fun wq hSq => ?_) ?_; rotate_left; (focus ((try dsimp only at hSq); go_simp; try with_reducible rfl)); simp only [Act.put, List.setIfInBounds_toArray, List.set_cons_zero, List.set_cons_succ]))
          refine wpSeq_skip' rfl (by rfl) (HSS.out _ G7.out Q7.out) ?_
          simp only [Act.put, List.setIfInBounds_toArray, List.set_cons_zero, List.set_cons_succ]
          repeat (first
            | (refine wpSeq_skip rfl (by rfl) ?_; simp only [Act.put, List.setIfInBounds_toArray, List.set_cons_zero, List.set_cons_succ])
            | (refine wpSeq_take (v := ?_) rfl (by rfl) (fun wq hSq => ?_) ?_; rotate_left; (focus ((try dsimp only at hSq); go_simp; try with_reducible rfl)); simp only [Act.put, List.setIfInBounds_toArray, List.set_cons_zero, List.set_cons_succ]))
          refine wpSeq_do rfl (by rfl) (fun K hK => ?_)
          go_simp
          refine (HSK.out _ G7.out).mono ?_
          rintro r u7 ⟨rfl, _, q⟩; have G8 := Lib.hid (G7.out.on q); have Q8 := Lib.hid (Q7.out.trans (q.mono Q7.out.size)); clear q
          refine hK.out _ _ ?_ ?_
          · exact HSS.out _ G8.out Q8.out
          clear hK K
          try simp only [Act.put, List.setIfInBounds_toArray, List.set_cons_zero, List.set_cons_succ]
          repeat (first
            | (refine wpSeq_skip rfl (by rfl) ?_; simp only [Act.put, List.setIfInBounds_toArray, List.set_cons_zero, List.set_cons_succ])
            | (refine wpSeq_take (v := ?_) rfl (by rfl) (fun wq hSq => ?_) ?_; rotate_left; (focus ((try dsimp only at hSq); go_simp; try with_reducible rfl)); simp only [Act.put, List.setIfInBounds_toArray, List.set_cons_zero, List.set_cons_succ]))
          refine wpSeq_do rfl (by rfl) (fun K hK => ?_)
          go_simp
          refine (HDP.out _ G8.out).mono ?_
          rintro r u ⟨rfl, hu⟩; subst u
          refine hK.out _ _ ?_ ?_
          · exact HSS.out _ G8.out Q8.out
          clear hK K
          try simp only [Act.put, List.setIfInBounds_toArray, List.set_cons_zero, List.set_cons_succ]
          repeat (first
            | (refine wpSeq_skip rfl (by rfl) ?_; simp only [Act.put, List.setIfInBounds_toArray, List.set_cons_zero, List.set_cons_succ])
            | (refine wpSeq_take (v := ?_) rfl (by rfl) (fun wq hSq => ?_) ?_; rotate_left; (focus ((try dsimp only at hSq); go_simp; try with_reducible rfl)); simp only [Act.put, List.setIfInBounds_toArray, List.set_cons_zero, List.set_cons_succ]))
          refine wpSeq_nil ?_
          go_wp2
          go_ret
          exact ⟨rfl, (newW_boxes (B0.out.trans (G8.out.fresh.mono B0.out.size))).2.2⟩
        · have hb0 : bl = 0 := HF3.out ht2
          subst hb0
          have n2a : ¬ e < 0 := by simpa using n2
          have n2b : decide (e < 0) = false := decide_eq_false n2a
          have ht2a : (t == 2) = false := by simpa using ht2
          have ht2b : (t != 2) = true := by simpa using ht2
          have n3a : decide ((64 : Int) < (sl : Int)) = false := decide_eq_false n3
          have n3b : decide (64 < sl) = false := decide_eq_false (by omega)
          have n4a : decide ((16 : Int) < (cl2 : Int)) = false := decide_eq_false n4
          have n4b : decide (16 < cl2) = false := decide_eq_false (by omega)
          have HSS : Hid (∀ u, Gm u0 [] bm K u m' → Below (u4.alloc (.cells #[.int .i64 2, .int .i64 co2, .int .i64 0] 55)).heap.size (u4.alloc (.cells #[.int .i64 2, .int .i64 co2, .int .i64 0] 55)) u → (fun w' => w'.cell? ⟨u4.heap.size, 0, none⟩ = some (.int .i64 2) ∧ w'.cell? ⟨u4.heap.size, 2, none⟩ = some (.int .i64 0) ∧ w'.cell? ⟨W.heap.size, 2, none⟩ = some (.int .i64 c) ∧ w'.cell? ⟨W.heap.size, 3, none⟩ = some (.int .i64 e) ∧ w'.cell? ⟨W.heap.size + 1, 0, none⟩ = some (.int .i64 t)) u) := fun u hg hb => ⟨(HEB.out u hb).1, (HEB.out u hb).2.1, (HZ.out u hg).1, (HZ.out u hg).2.1, (HZ.out u hg).2.2.1⟩
          have G5 := Lib.hid (G4.out.same (Same.drew _))
          have Q5 := Lib.hid ((Same.drew (u4.alloc (.cells #[.int .i64 2, .int .i64 co2, .int .i64 0] 55))).below (u4.alloc (.cells #[.int .i64 2, .int .i64 co2, .int .i64 0] 55)).heap.size)
          refine wp_region_seq (fun w' => w'.cell? ⟨u4.heap.size, 0, none⟩ = some (.int .i64 2) ∧ w'.cell? ⟨u4.heap.size, 2, none⟩ = some (.int .i64 0) ∧ w'.cell? ⟨W.heap.size, 2, none⟩ = some (.int .i64 c) ∧ w'.cell? ⟨W.heap.size, 3, none⟩ = some (.int .i64 e) ∧ w'.cell? ⟨W.heap.size + 1, 0, none⟩ = some (.int .i64 t)) ((0, true) :: (1, true) :: (2, true) :: (3, true) :: (4, true) :: (5, true) :: (6, true) :: (7, true) :: (8, true) :: (9, true) :: (10, true) :: (11, true) :: (12, true) :: (13, true) :: (14, true) :: (16, true) :: (17, true) :: (15, false) :: (18, true) :: (19, true) :: (20, true) :: (21, true) :: (24, true) :: (25, true) :: (22, false) :: (23, true) :: (26, true) :: (27, true) :: (28, true) :: (29, true) :: (30, true) :: (31, true) :: (32, true) :: (33, true) :: (34, false) :: (35, true) :: (36, true) :: (37, true) :: (38, true) :: []) (by kernel_rfl) (by kernel_rfl) (fun _ _ _ _ _ h => h) (HSS.out _ G5.out Q5.out) ?_
          repeat (first
            | (refine wpSeq_skip rfl (by rfl) ?_; simp only [Act.put, List.setIfInBounds_toArray, List.set_cons_zero, List.set_cons_succ])
            | (refine wpSeq_take (v := ?_) rfl (by rfl) (fun wq hSq => ?_) ?_; rotate_left; (focus ((try dsimp only at hSq); go_simp; try with_reducible rfl)); simp only [Act.put, List.setIfInBounds_toArray, List.set_cons_zero, List.set_cons_succ]))
          refine wpSeq_do rfl (by rfl) (fun K hK => ?_)
          go_simp
          refine (HU.out _ G5.out).mono ?_
          rintro r u ⟨rfl, hu⟩; subst u
          refine hK.out _ _ ?_ ?_
          · exact HSS.out _ G5.out Q5.out
          clear hK K
          try simp only [Act.put, List.setIfInBounds_toArray, List.set_cons_zero, List.set_cons_succ]
          repeat (first
            | (refine wpSeq_skip rfl (by rfl) ?_; simp only [Act.put, List.setIfInBounds_toArray, List.set_cons_zero, List.set_cons_succ])
            | (refine wpSeq_take (v := ?_) rfl (by rfl) (fun wq hSq => ?_) ?_; rotate_left; (focus ((try dsimp only at hSq); go_simp; try with_reducible rfl)); simp only [Act.put, List.setIfInBounds_toArray, List.set_cons_zero, List.set_cons_succ]))
          refine wpSeq_do rfl (by rfl) (fun K hK => ?_)
          go_simp
          refine (HWR.out _ G5.out).mono ?_
          rintro r u5 ⟨rfl, _, q⟩; have G6 := Lib.hid (G5.out.on q); have Q6 := Lib.hid (Q5.out.trans (q.mono Q5.out.size)); clear q
          refine hK.out _ _ ?_ ?_
          · exact HSS.out _ G6.out Q6.out
          clear hK K
          try simp only [Act.put, List.setIfInBounds_toArray, List.set_cons_zero, List.set_cons_succ]
          repeat (first
            | (refine wpSeq_skip rfl (by rfl) ?_; simp only [Act.put, List.setIfInBounds_toArray, List.set_cons_zero, List.set_cons_succ])
            | (refine wpSeq_take (v := ?_) rfl (by rfl) (fun wq hSq => ?_) ?_; rotate_left; (focus ((try dsimp only at hSq); go_simp; try with_reducible rfl)); simp only [Act.put, List.setIfInBounds_toArray, List.set_cons_zero, List.set_cons_succ]))
          refine wpSeq_do rfl (by rfl) (fun K hK => ?_)
          go_simp
          refine (HWR.out _ G6.out).mono ?_
          rintro r u6 ⟨rfl, _, q⟩; have G7 := Lib.hid (G6.out.on q); have Q7 := Lib.hid (Q6.out.trans (q.mono Q6.out.size)); clear q
          refine hK.out _ _ ?_ ?_
          · exact HSS.out _ G7.out Q7.out
          clear hK K
          try simp only [Act.put, List.setIfInBounds_toArray, List.set_cons_zero, List.set_cons_succ]
          repeat (first
            | (refine wpSeq_skip rfl (by rfl) ?_; simp only [Act.put, List.setIfInBounds_toArray, List.set_cons_zero, List.set_cons_succ])
            | (refine wpSeq_take (v := ?_) rfl (by rfl) (fun wq hSq => ?_) ?_; rotate_left; (focus ((try dsimp only at hSq); go_simp; try with_reducible rfl)); simp only [Act.put, List.setIfInBounds_toArray, List.set_cons_zero, List.set_cons_succ]))
          refine wpSeq_nil ?_
          obtain ⟨y0, y2, y3, y4, y5⟩ := HSS.out _ G7.out Q7.out
          go_wp2
          have G8 := Lib.hid (G7.out.same (Same.drew _))
          have Q8 := Lib.hid (Q7.out.trans ((Same.drew u6).below _))
          refine wp_region_seq (fun w' => w'.cell? ⟨u4.heap.size, 0, none⟩ = some (.int .i64 2) ∧ w'.cell? ⟨u4.heap.size, 2, none⟩ = some (.int .i64 0) ∧ w'.cell? ⟨W.heap.size, 2, none⟩ = some (.int .i64 c) ∧ w'.cell? ⟨W.heap.size, 3, none⟩ = some (.int .i64 e) ∧ w'.cell? ⟨W.heap.size + 1, 0, none⟩ = some (.int .i64 t)) ((0, true) :: (1, true) :: (2, true) :: (3, true) :: (4, true) :: (6, true) :: (7, true) :: (5, false) :: (8, true) :: (9, true) :: (10, true) :: (11, true) :: (12, true) :: (13, true) :: (14, true) :: (15, true) :: (16, true) :: (17, true) :: (18, true) :: (19, true) :: (20, true) :: (21, false) :: (22, true) :: (23, true) :: (24, true) :: (25, true) :: (26, true) :: (27, false) :: (28, true) :: (29, true) :: []) (by kernel_rfl) (by kernel_rfl) (fun _ _ _ _ _ h => h) (HSS.out _ G8.out Q8.out) ?_
          repeat (first
            | (refine wpSeq_skip rfl (by rfl) ?_; simp only [Act.put, List.setIfInBounds_toArray, List.set_cons_zero, List.set_cons_succ])
            | (refine wpSeq_take (v := ?_) rfl (by rfl) (fun wq hSq => ?_) ?_; rotate_left; (focus ((try dsimp only at hSq); go_simp; try with_reducible rfl)); simp only [Act.put, List.setIfInBounds_toArray, List.set_cons_zero, List.set_cons_succ]))
          refine wpSeq_skip' rfl (by rfl) (HSS.out _ G8.out Q8.out) ?_
          simp only [Act.put, List.setIfInBounds_toArray, List.set_cons_zero, List.set_cons_succ]
          repeat (first
            | (refine wpSeq_skip rfl (by rfl) ?_; simp only [Act.put, List.setIfInBounds_toArray, List.set_cons_zero, List.set_cons_succ])
            | (refine wpSeq_take (v := ?_) rfl (by rfl) (fun wq hSq => ?_) ?_; rotate_left; (focus ((try dsimp only at hSq); go_simp; try with_reducible rfl)); simp only [Act.put, List.setIfInBounds_toArray, List.set_cons_zero, List.set_cons_succ]))
          refine wpSeq_do rfl (by rfl) (fun K hK => ?_)
          go_simp
          refine (HSK.out _ G8.out).mono ?_
          rintro r u8 ⟨rfl, _, q⟩; have G9 := Lib.hid (G8.out.on q); have Q9 := Lib.hid (Q8.out.trans (q.mono Q8.out.size)); clear q
          refine hK.out _ _ ?_ ?_
          · exact HSS.out _ G9.out Q9.out
          clear hK K
          try simp only [Act.put, List.setIfInBounds_toArray, List.set_cons_zero, List.set_cons_succ]
          repeat (first
            | (refine wpSeq_skip rfl (by rfl) ?_; simp only [Act.put, List.setIfInBounds_toArray, List.set_cons_zero, List.set_cons_succ])
            | (refine wpSeq_take (v := ?_) rfl (by rfl) (fun wq hSq => ?_) ?_; rotate_left; (focus ((try dsimp only at hSq); go_simp; try with_reducible rfl)); simp only [Act.put, List.setIfInBounds_toArray, List.set_cons_zero, List.set_cons_succ]))
          refine wpSeq_do rfl (by rfl) (fun K hK => ?_)
          go_simp
          refine (HDP.out _ G9.out).mono ?_
          rintro r u ⟨rfl, hu⟩; subst u
          refine hK.out _ _ ?_ ?_
          · exact HSS.out _ G9.out Q9.out
          clear hK K
          try simp only [Act.put, List.setIfInBounds_toArray, List.set_cons_zero, List.set_cons_succ]
          repeat (first
            | (refine wpSeq_skip rfl (by rfl) ?_; simp only [Act.put, List.setIfInBounds_toArray, List.set_cons_zero, List.set_cons_succ])
            | (refine wpSeq_take (v := ?_) rfl (by rfl) (fun wq hSq => ?_) ?_; rotate_left; (focus ((try dsimp only at hSq); go_simp; try with_reducible rfl)); simp only [Act.put, List.setIfInBounds_toArray, List.set_cons_zero, List.set_cons_succ]))
          refine wpSeq_nil ?_
          go_wp2
          go_ret
          exact ⟨rfl, (newW_boxes (B0.out.trans (G9.out.fresh.mono B0.out.size))).2.2⟩
        · subst ht2
          have hfc : c = us := (HF4.out rfl).symm
          subst hfc
          have n3a : decide ((64 : Int) < (sl : Int)) = false := decide_eq_false n3
          have n3b : decide (64 < sl) = false := decide_eq_false (by omega)
          have n4a : decide ((16 : Int) < (cl2 : Int)) = false := decide_eq_false n4
          have n4b : decide (16 < cl2) = false := decide_eq_false (by omega)
          have HSS : Hid (∀ u, Gm u0 [] bm K u m' → Below (u4.alloc (.cells #[.int .i64 3, .int .i64 co2, .int .i64 80] 55)).heap.size (u4.alloc (.cells #[.int .i64 3, .int .i64 co2, .int .i64 80] 55)) u → (fun w' => w'.cell? ⟨u4.heap.size, 0, none⟩ = some (.int .i64 3) ∧ w'.cell? ⟨u4.heap.size, 2, none⟩ = some (.int .i64 80) ∧ w'.cell? ⟨W.heap.size, 2, none⟩ = some (.int .i64 c) ∧ w'.cell? ⟨W.heap.size, 3, none⟩ = some (.int .i64 e) ∧ w'.cell? ⟨W.heap.size + 1, 0, none⟩ = some (.int .i64 2)) u) := fun u hg hb => ⟨(HEB.out u hb).1, (HEB.out u hb).2.1, (HZ.out u hg).1, (HZ.out u hg).2.1, (HZ.out u hg).2.2.1⟩
          have G5 := Lib.hid (G4.out.same (Same.drew _))
          have Q5 := Lib.hid ((Same.drew (u4.alloc (.cells #[.int .i64 3, .int .i64 co2, .int .i64 80] 55))).below (u4.alloc (.cells #[.int .i64 3, .int .i64 co2, .int .i64 80] 55)).heap.size)
          refine wp_region_seq (fun w' => w'.cell? ⟨u4.heap.size, 0, none⟩ = some (.int .i64 3) ∧ w'.cell? ⟨u4.heap.size, 2, none⟩ = some (.int .i64 80) ∧ w'.cell? ⟨W.heap.size, 2, none⟩ = some (.int .i64 c) ∧ w'.cell? ⟨W.heap.size, 3, none⟩ = some (.int .i64 e) ∧ w'.cell? ⟨W.heap.size + 1, 0, none⟩ = some (.int .i64 2)) ((0, true) :: (1, true) :: (2, true) :: (3, true) :: (4, true) :: (5, true) :: (6, true) :: (7, true) :: (8, true) :: (9, true) :: (10, true) :: (11, true) :: (12, true) :: (13, true) :: (14, true) :: (16, true) :: (17, true) :: (15, false) :: (18, true) :: (19, true) :: (20, true) :: (21, true) :: (24, true) :: (25, true) :: (22, false) :: (23, true) :: (26, true) :: (27, true) :: (28, true) :: (29, true) :: (30, true) :: (31, true) :: (32, true) :: (33, true) :: (34, false) :: (35, true) :: (36, true) :: (37, true) :: (38, true) :: []) (by kernel_rfl) (by kernel_rfl) (fun _ _ _ _ _ h => h) (HSS.out _ G5.out Q5.out) ?_
          repeat (first
            | (refine wpSeq_skip rfl (by rfl) ?_; simp only [Act.put, List.setIfInBounds_toArray, List.set_cons_zero, List.set_cons_succ])
            | (refine wpSeq_take (v := ?_) rfl (by rfl) (fun wq hSq => ?_) ?_; rotate_left; (focus ((try dsimp only at hSq); go_simp; try with_reducible rfl)); simp only [Act.put, List.setIfInBounds_toArray, List.set_cons_zero, List.set_cons_succ]))
          refine wpSeq_do rfl (by rfl) (fun K hK => ?_)
          go_simp
          refine (HU.out _ G5.out).mono ?_
          rintro r u ⟨rfl, hu⟩; subst u
          refine hK.out _ _ ?_ ?_
          · exact HSS.out _ G5.out Q5.out
          clear hK K
          try simp only [Act.put, List.setIfInBounds_toArray, List.set_cons_zero, List.set_cons_succ]
          repeat (first
            | (refine wpSeq_skip rfl (by rfl) ?_; simp only [Act.put, List.setIfInBounds_toArray, List.set_cons_zero, List.set_cons_succ])
            | (refine wpSeq_take (v := ?_) rfl (by rfl) (fun wq hSq => ?_) ?_; rotate_left; (focus ((try dsimp only at hSq); go_simp; try with_reducible rfl)); simp only [Act.put, List.setIfInBounds_toArray, List.set_cons_zero, List.set_cons_succ]))
          refine wpSeq_do rfl (by rfl) (fun K hK => ?_)
          go_simp
          refine (HWR.out _ G5.out).mono ?_
          rintro r u5 ⟨rfl, _, q⟩; have G6 := Lib.hid (G5.out.on q); have Q6 := Lib.hid (Q5.out.trans (q.mono Q5.out.size)); clear q
          refine hK.out _ _ ?_ ?_
          · exact HSS.out _ G6.out Q6.out
          clear hK K
          try simp only [Act.put, List.setIfInBounds_toArray, List.set_cons_zero, List.set_cons_succ]
          repeat (first
            | (refine wpSeq_skip rfl (by rfl) ?_; simp only [Act.put, List.setIfInBounds_toArray, List.set_cons_zero, List.set_cons_succ])
            | (refine wpSeq_take (v := ?_) rfl (by rfl) (fun wq hSq => ?_) ?_; rotate_left; (focus ((try dsimp only at hSq); go_simp; try with_reducible rfl)); simp only [Act.put, List.setIfInBounds_toArray, List.set_cons_zero, List.set_cons_succ]))
          refine wpSeq_skip' rfl (by rfl) (HSS.out _ G6.out Q6.out) ?_
          simp only [Act.put, List.setIfInBounds_toArray, List.set_cons_zero, List.set_cons_succ]
          repeat (first
            | (refine wpSeq_skip rfl (by rfl) ?_; simp only [Act.put, List.setIfInBounds_toArray, List.set_cons_zero, List.set_cons_succ])
            | (refine wpSeq_take (v := ?_) rfl (by rfl) (fun wq hSq => ?_) ?_; rotate_left; (focus ((try dsimp only at hSq); go_simp; try with_reducible rfl)); simp only [Act.put, List.setIfInBounds_toArray, List.set_cons_zero, List.set_cons_succ]))
          refine wpSeq_nil ?_
          obtain ⟨y0, y2, y3, y4, y5⟩ := HSS.out _ G6.out Q6.out
          go_wp2
          have G7 := Lib.hid (G6.out.same (Same.drew _))
          have Q7 := Lib.hid (Q6.out.trans ((Same.drew u5).below _))
          refine wp_region_seq (fun w' => w'.cell? ⟨u4.heap.size, 0, none⟩ = some (.int .i64 3) ∧ w'.cell? ⟨u4.heap.size, 2, none⟩ = some (.int .i64 80) ∧ w'.cell? ⟨W.heap.size, 2, none⟩ = some (.int .i64 c) ∧ w'.cell? ⟨W.heap.size, 3, none⟩ = some (.int .i64 e) ∧ w'.cell? ⟨W.heap.size + 1, 0, none⟩ = some (.int .i64 2)) ((0, true) :: (1, true) :: (2, true) :: (3, true) :: (4, true) :: (6, true) :: (7, true) :: (5, false) :: (8, true) :: (9, true) :: (10, true) :: (11, true) :: (12, true) :: (13, true) :: (14, true) :: (15, true) :: (16, true) :: (17, true) :: (18, true) :: (19, true) :: (20, true) :: (21, false) :: (22, true) :: (23, true) :: (24, true) :: (25, true) :: (26, true) :: (27, false) :: (28, true) :: (29, true) :: []) (by kernel_rfl) (by kernel_rfl) (fun _ _ _ _ _ h => h) (HSS.out _ G7.out Q7.out) ?_
          repeat (first
            | (refine wpSeq_skip rfl (by rfl) ?_; simp only [Act.put, List.setIfInBounds_toArray, List.set_cons_zero, List.set_cons_succ])
            | (refine wpSeq_take (v := ?_) rfl (by rfl) (fun wq hSq => ?_) ?_; rotate_left; (focus ((try dsimp only at hSq); go_simp; try with_reducible rfl)); simp only [Act.put, List.setIfInBounds_toArray, List.set_cons_zero, List.set_cons_succ]))
          refine wpSeq_do rfl (by rfl) (fun K hK => ?_)
          go_simp
          refine (HU.out _ G7.out).mono ?_
          rintro r u ⟨rfl, hu⟩; subst u
          refine hK.out _ _ ?_ ?_
          · exact HSS.out _ G7.out Q7.out
          clear hK K
          try simp only [Act.put, List.setIfInBounds_toArray, List.set_cons_zero, List.set_cons_succ]
          repeat (first
            | (refine wpSeq_skip rfl (by rfl) ?_; simp only [Act.put, List.setIfInBounds_toArray, List.set_cons_zero, List.set_cons_succ])
            | (refine wpSeq_take (v := ?_) rfl (by rfl) (fun wq hSq => ?_) ?_; rotate_left; (focus ((try dsimp only at hSq); go_simp; try with_reducible rfl)); simp only [Act.put, List.setIfInBounds_toArray, List.set_cons_zero, List.set_cons_succ]))
          refine wpSeq_do rfl (by rfl) (fun K hK => ?_)
          go_simp
          refine (HSK.out _ G7.out).mono ?_
          rintro r u7 ⟨rfl, _, q⟩; have G8 := Lib.hid (G7.out.on q); have Q8 := Lib.hid (Q7.out.trans (q.mono Q7.out.size)); clear q
          refine hK.out _ _ ?_ ?_
          · exact HSS.out _ G8.out Q8.out
          clear hK K
          try simp only [Act.put, List.setIfInBounds_toArray, List.set_cons_zero, List.set_cons_succ]
          repeat (first
            | (refine wpSeq_skip rfl (by rfl) ?_; simp only [Act.put, List.setIfInBounds_toArray, List.set_cons_zero, List.set_cons_succ])
            | (refine wpSeq_take (v := ?_) rfl (by rfl) (fun wq hSq => ?_) ?_; rotate_left; (focus ((try dsimp only at hSq); go_simp; try with_reducible rfl)); simp only [Act.put, List.setIfInBounds_toArray, List.set_cons_zero, List.set_cons_succ]))
          refine wpSeq_do rfl (by rfl) (fun K hK => ?_)
          go_simp
          refine (HDP.out _ G8.out).mono ?_
          rintro r u ⟨rfl, hu⟩; subst u
          refine hK.out _ _ ?_ ?_
          · exact HSS.out _ G8.out Q8.out
          clear hK K
          try simp only [Act.put, List.setIfInBounds_toArray, List.set_cons_zero, List.set_cons_succ]
          repeat (first
            | (refine wpSeq_skip rfl (by rfl) ?_; simp only [Act.put, List.setIfInBounds_toArray, List.set_cons_zero, List.set_cons_succ])
            | (refine wpSeq_take (v := ?_) rfl (by rfl) (fun wq hSq => ?_) ?_; rotate_left; (focus ((try dsimp only at hSq); go_simp; try with_reducible rfl)); simp only [Act.put, List.setIfInBounds_toArray, List.set_cons_zero, List.set_cons_succ]))
          refine wpSeq_nil ?_
          go_wp2
          go_ret
          exact ⟨rfl, (newW_boxes (B0.out.trans (G8.out.fresh.mono B0.out.size))).2.2⟩
        · have hb0 : bl = 0 := HF3.out ht2
          subst hb0
          have n2a : ¬ e < 0 := by simpa using n2
          have n2b : decide (e < 0) = false := decide_eq_false n2a
          have ht2a : (t == 2) = false := by simpa using ht2
          have ht2b : (t != 2) = true := by simpa using ht2
          have hfc : c = us := (HF4.out rfl).symm
          subst hfc
          have n3a : decide ((64 : Int) < (sl : Int)) = false := decide_eq_false n3
          have n3b : decide (64 < sl) = false := decide_eq_false (by omega)
          have n4a : decide ((16 : Int) < (cl2 : Int)) = false := decide_eq_false n4
          have n4b : decide (16 < cl2) = false := decide_eq_false (by omega)
          have HSS : Hid (∀ u, Gm u0 [] bm K u m' → Below (u4.alloc (.cells #[.int .i64 3, .int .i64 co2, .int .i64 80] 55)).heap.size (u4.alloc (.cells #[.int .i64 3, .int .i64 co2, .int .i64 80] 55)) u → (fun w' => w'.cell? ⟨u4.heap.size, 0, none⟩ = some (.int .i64 3) ∧ w'.cell? ⟨u4.heap.size, 2, none⟩ = some (.int .i64 80) ∧ w'.cell? ⟨W.heap.size, 2, none⟩ = some (.int .i64 c) ∧ w'.cell? ⟨W.heap.size, 3, none⟩ = some (.int .i64 e) ∧ w'.cell? ⟨W.heap.size + 1, 0, none⟩ = some (.int .i64 t)) u) := fun u hg hb => ⟨(HEB.out u hb).1, (HEB.out u hb).2.1, (HZ.out u hg).1, (HZ.out u hg).2.1, (HZ.out u hg).2.2.1⟩
          have G5 := Lib.hid (G4.out.same (Same.drew _))
          have Q5 := Lib.hid ((Same.drew (u4.alloc (.cells #[.int .i64 3, .int .i64 co2, .int .i64 80] 55))).below (u4.alloc (.cells #[.int .i64 3, .int .i64 co2, .int .i64 80] 55)).heap.size)
          refine wp_region_seq (fun w' => w'.cell? ⟨u4.heap.size, 0, none⟩ = some (.int .i64 3) ∧ w'.cell? ⟨u4.heap.size, 2, none⟩ = some (.int .i64 80) ∧ w'.cell? ⟨W.heap.size, 2, none⟩ = some (.int .i64 c) ∧ w'.cell? ⟨W.heap.size, 3, none⟩ = some (.int .i64 e) ∧ w'.cell? ⟨W.heap.size + 1, 0, none⟩ = some (.int .i64 t)) ((0, true) :: (1, true) :: (2, true) :: (3, true) :: (4, true) :: (5, true) :: (6, true) :: (7, true) :: (8, true) :: (9, true) :: (10, true) :: (11, true) :: (12, true) :: (13, true) :: (14, true) :: (16, true) :: (17, true) :: (15, false) :: (18, true) :: (19, true) :: (20, true) :: (21, true) :: (24, true) :: (25, true) :: (22, false) :: (23, true) :: (26, true) :: (27, true) :: (28, true) :: (29, true) :: (30, true) :: (31, true) :: (32, true) :: (33, true) :: (34, false) :: (35, true) :: (36, true) :: (37, true) :: (38, true) :: []) (by kernel_rfl) (by kernel_rfl) (fun _ _ _ _ _ h => h) (HSS.out _ G5.out Q5.out) ?_
          repeat (first
            | (refine wpSeq_skip rfl (by rfl) ?_; simp only [Act.put, List.setIfInBounds_toArray, List.set_cons_zero, List.set_cons_succ])
            | (refine wpSeq_take (v := ?_) rfl (by rfl) (fun wq hSq => ?_) ?_; rotate_left; (focus ((try dsimp only at hSq); go_simp; try with_reducible rfl)); simp only [Act.put, List.setIfInBounds_toArray, List.set_cons_zero, List.set_cons_succ]))
          refine wpSeq_do rfl (by rfl) (fun K hK => ?_)
          go_simp
          refine (HU.out _ G5.out).mono ?_
          rintro r u ⟨rfl, hu⟩; subst u
          refine hK.out _ _ ?_ ?_
          · exact HSS.out _ G5.out Q5.out
          clear hK K
          try simp only [Act.put, List.setIfInBounds_toArray, List.set_cons_zero, List.set_cons_succ]
          repeat (first
            | (refine wpSeq_skip rfl (by rfl) ?_; simp only [Act.put, List.setIfInBounds_toArray, List.set_cons_zero, List.set_cons_succ])
            | (refine wpSeq_take (v := ?_) rfl (by rfl) (fun wq hSq => ?_) ?_; rotate_left; (focus ((try dsimp only at hSq); go_simp; try with_reducible rfl)); simp only [Act.put, List.setIfInBounds_toArray, List.set_cons_zero, List.set_cons_succ]))
          refine wpSeq_do rfl (by rfl) (fun K hK => ?_)
          go_simp
          refine (HWR.out _ G5.out).mono ?_
          rintro r u5 ⟨rfl, _, q⟩; have G6 := Lib.hid (G5.out.on q); have Q6 := Lib.hid (Q5.out.trans (q.mono Q5.out.size)); clear q
          refine hK.out _ _ ?_ ?_
          · exact HSS.out _ G6.out Q6.out
          clear hK K
          try simp only [Act.put, List.setIfInBounds_toArray, List.set_cons_zero, List.set_cons_succ]
          repeat (first
            | (refine wpSeq_skip rfl (by rfl) ?_; simp only [Act.put, List.setIfInBounds_toArray, List.set_cons_zero, List.set_cons_succ])
            | (refine wpSeq_take (v := ?_) rfl (by rfl) (fun wq hSq => ?_) ?_; rotate_left; (focus ((try dsimp only at hSq); go_simp; try with_reducible rfl)); simp only [Act.put, List.setIfInBounds_toArray, List.set_cons_zero, List.set_cons_succ]))
          refine wpSeq_do rfl (by rfl) (fun K hK => ?_)
          go_simp
          refine (HWR.out _ G6.out).mono ?_
          rintro r u6 ⟨rfl, _, q⟩; have G7 := Lib.hid (G6.out.on q); have Q7 := Lib.hid (Q6.out.trans (q.mono Q6.out.size)); clear q
          refine hK.out _ _ ?_ ?_
          · exact HSS.out _ G7.out Q7.out
          clear hK K
          try simp only [Act.put, List.setIfInBounds_toArray, List.set_cons_zero, List.set_cons_succ]
          repeat (first
            | (refine wpSeq_skip rfl (by rfl) ?_; simp only [Act.put, List.setIfInBounds_toArray, List.set_cons_zero, List.set_cons_succ])
            | (refine wpSeq_take (v := ?_) rfl (by rfl) (fun wq hSq => ?_) ?_; rotate_left; (focus ((try dsimp only at hSq); go_simp; try with_reducible rfl)); simp only [Act.put, List.setIfInBounds_toArray, List.set_cons_zero, List.set_cons_succ]))
          refine wpSeq_nil ?_
          obtain ⟨y0, y2, y3, y4, y5⟩ := HSS.out _ G7.out Q7.out
          go_wp2
          have G8 := Lib.hid (G7.out.same (Same.drew _))
          have Q8 := Lib.hid (Q7.out.trans ((Same.drew u6).below _))
          refine wp_region_seq (fun w' => w'.cell? ⟨u4.heap.size, 0, none⟩ = some (.int .i64 3) ∧ w'.cell? ⟨u4.heap.size, 2, none⟩ = some (.int .i64 80) ∧ w'.cell? ⟨W.heap.size, 2, none⟩ = some (.int .i64 c) ∧ w'.cell? ⟨W.heap.size, 3, none⟩ = some (.int .i64 e) ∧ w'.cell? ⟨W.heap.size + 1, 0, none⟩ = some (.int .i64 t)) ((0, true) :: (1, true) :: (2, true) :: (3, true) :: (4, true) :: (6, true) :: (7, true) :: (5, false) :: (8, true) :: (9, true) :: (10, true) :: (11, true) :: (12, true) :: (13, true) :: (14, true) :: (15, true) :: (16, true) :: (17, true) :: (18, true) :: (19, true) :: (20, true) :: (21, false) :: (22, true) :: (23, true) :: (24, true) :: (25, true) :: (26, true) :: (27, false) :: (28, true) :: (29, true) :: []) (by kernel_rfl) (by kernel_rfl) (fun _ _ _ _ _ h => h) (HSS.out _ G8.out Q8.out) ?_
          repeat (first
            | (refine wpSeq_skip rfl (by rfl) ?_; simp only [Act.put, List.setIfInBounds_toArray, List.set_cons_zero, List.set_cons_succ])
            | (refine wpSeq_take (v := ?_) rfl (by rfl) (fun wq hSq => ?_) ?_; rotate_left; (focus ((try dsimp only at hSq); go_simp; try with_reducible rfl)); simp only [Act.put, List.setIfInBounds_toArray, List.set_cons_zero, List.set_cons_succ]))
          refine wpSeq_do rfl (by rfl) (fun K hK => ?_)
          go_simp
          refine (HU.out _ G8.out).mono ?_
          rintro r u ⟨rfl, hu⟩; subst u
          refine hK.out _ _ ?_ ?_
          · exact HSS.out _ G8.out Q8.out
          clear hK K
          try simp only [Act.put, List.setIfInBounds_toArray, List.set_cons_zero, List.set_cons_succ]
          repeat (first
            | (refine wpSeq_skip rfl (by rfl) ?_; simp only [Act.put, List.setIfInBounds_toArray, List.set_cons_zero, List.set_cons_succ])
            | (refine wpSeq_take (v := ?_) rfl (by rfl) (fun wq hSq => ?_) ?_; rotate_left; (focus ((try dsimp only at hSq); go_simp; try with_reducible rfl)); simp only [Act.put, List.setIfInBounds_toArray, List.set_cons_zero, List.set_cons_succ]))
          refine wpSeq_do rfl (by rfl) (fun K hK => ?_)
          go_simp
          refine (HSK.out _ G8.out).mono ?_
          rintro r u8 ⟨rfl, _, q⟩; have G9 := Lib.hid (G8.out.on q); have Q9 := Lib.hid (Q8.out.trans (q.mono Q8.out.size)); clear q
          refine hK.out _ _ ?_ ?_
          · exact HSS.out _ G9.out Q9.out
          clear hK K
          try simp only [Act.put, List.setIfInBounds_toArray, List.set_cons_zero, List.set_cons_succ]
          repeat (first
            | (refine wpSeq_skip rfl (by rfl) ?_; simp only [Act.put, List.setIfInBounds_toArray, List.set_cons_zero, List.set_cons_succ])
            | (refine wpSeq_take (v := ?_) rfl (by rfl) (fun wq hSq => ?_) ?_; rotate_left; (focus ((try dsimp only at hSq); go_simp; try with_reducible rfl)); simp only [Act.put, List.setIfInBounds_toArray, List.set_cons_zero, List.set_cons_succ]))
          refine wpSeq_do rfl (by rfl) (fun K hK => ?_)
          go_simp
          refine (HDP.out _ G9.out).mono ?_
          rintro r u ⟨rfl, hu⟩; subst u
          refine hK.out _ _ ?_ ?_
          · exact HSS.out _ G9.out Q9.out
          clear hK K
          try simp only [Act.put, List.setIfInBounds_toArray, List.set_cons_zero, List.set_cons_succ]
          repeat (first
            | (refine wpSeq_skip rfl (by rfl) ?_; simp only [Act.put, List.setIfInBounds_toArray, List.set_cons_zero, List.set_cons_succ])
            | (refine wpSeq_take (v := ?_) rfl (by rfl) (fun wq hSq => ?_) ?_; rotate_left; (focus ((try dsimp only at hSq); go_simp; try with_reducible rfl)); simp only [Act.put, List.setIfInBounds_toArray, List.set_cons_zero, List.set_cons_succ]))
          refine wpSeq_nil ?_
          go_wp2
          go_ret
          exact ⟨rfl, (newW_boxes (B0.out.trans (G9.out.fresh.mono B0.out.size))).2.2⟩
        · subst ht2
          have n3a : decide ((64 : Int) < (sl : Int)) = false := decide_eq_false n3
          have n3b : decide (64 < sl) = false := decide_eq_false (by omega)
          have n4a : decide ((16 : Int) < (cl2 : Int)) = false := decide_eq_false n4
          have n4b : decide (16 < cl2) = false := decide_eq_false (by omega)
          have h80a : (er == 80) = false := by simpa using h80
          have hera : (er == 0) = false := by simpa using her
          have herb : (er != 0) = true := by simpa using her
          have HSS : Hid (∀ u, Gm u0 [] bm K u m' → Below (u4.alloc (.cells #[.int .i64 3, .int .i64 co2, .int .i64 er] 55)).heap.size (u4.alloc (.cells #[.int .i64 3, .int .i64 co2, .int .i64 er] 55)) u → (fun w' => w'.cell? ⟨u4.heap.size, 0, none⟩ = some (.int .i64 3) ∧ w'.cell? ⟨u4.heap.size, 2, none⟩ = some (.int .i64 er) ∧ w'.cell? ⟨W.heap.size, 2, none⟩ = some (.int .i64 c) ∧ w'.cell? ⟨W.heap.size, 3, none⟩ = some (.int .i64 e) ∧ w'.cell? ⟨W.heap.size + 1, 0, none⟩ = some (.int .i64 2)) u) := fun u hg hb => ⟨(HEB.out u hb).1, (HEB.out u hb).2.1, (HZ.out u hg).1, (HZ.out u hg).2.1, (HZ.out u hg).2.2.1⟩
          have G5 := Lib.hid (G4.out.same (Same.drew _))
          have Q5 := Lib.hid ((Same.drew (u4.alloc (.cells #[.int .i64 3, .int .i64 co2, .int .i64 er] 55))).below (u4.alloc (.cells #[.int .i64 3, .int .i64 co2, .int .i64 er] 55)).heap.size)
          refine wp_region_seq (fun w' => w'.cell? ⟨u4.heap.size, 0, none⟩ = some (.int .i64 3) ∧ w'.cell? ⟨u4.heap.size, 2, none⟩ = some (.int .i64 er) ∧ w'.cell? ⟨W.heap.size, 2, none⟩ = some (.int .i64 c) ∧ w'.cell? ⟨W.heap.size, 3, none⟩ = some (.int .i64 e) ∧ w'.cell? ⟨W.heap.size + 1, 0, none⟩ = some (.int .i64 2)) ((0, true) :: (1, true) :: (2, true) :: (3, true) :: (4, true) :: (5, true) :: (6, true) :: (7, true) :: (8, true) :: (9, true) :: (10, true) :: (11, true) :: (12, true) :: (13, true) :: (14, true) :: (16, true) :: (17, true) :: (15, false) :: (18, true) :: (19, true) :: (20, true) :: (21, true) :: (24, true) :: (25, true) :: (22, false) :: (23, true) :: (26, true) :: (27, true) :: (28, true) :: (29, true) :: (30, true) :: (31, true) :: (32, true) :: (33, true) :: (34, false) :: (35, true) :: (36, true) :: (37, true) :: (38, true) :: []) (by kernel_rfl) (by kernel_rfl) (fun _ _ _ _ _ h => h) (HSS.out _ G5.out Q5.out) ?_
          repeat (first
            | (refine wpSeq_skip rfl (by rfl) ?_; simp only [Act.put, List.setIfInBounds_toArray, List.set_cons_zero, List.set_cons_succ])
            | (refine wpSeq_take (v := ?_) rfl (by rfl) (fun wq hSq => ?_) ?_; rotate_left; (focus ((try dsimp only at hSq); go_simp; try with_reducible rfl)); simp only [Act.put, List.setIfInBounds_toArray, List.set_cons_zero, List.set_cons_succ]))
          refine wpSeq_do rfl (by rfl) (fun K hK => ?_)
          go_simp
          refine (HU.out _ G5.out).mono ?_
          rintro r u ⟨rfl, hu⟩; subst u
          refine hK.out _ _ ?_ ?_
          · exact HSS.out _ G5.out Q5.out
          clear hK K
          try simp only [Act.put, List.setIfInBounds_toArray, List.set_cons_zero, List.set_cons_succ]
          repeat (first
            | (refine wpSeq_skip rfl (by rfl) ?_; simp only [Act.put, List.setIfInBounds_toArray, List.set_cons_zero, List.set_cons_succ])
            | (refine wpSeq_take (v := ?_) rfl (by rfl) (fun wq hSq => ?_) ?_; rotate_left; (focus ((try dsimp only at hSq); go_simp; try with_reducible rfl)); simp only [Act.put, List.setIfInBounds_toArray, List.set_cons_zero, List.set_cons_succ]))
          refine wpSeq_do rfl (by rfl) (fun K hK => ?_)
          go_simp
          refine (HWR.out _ G5.out).mono ?_
          rintro r u5 ⟨rfl, _, q⟩; have G6 := Lib.hid (G5.out.on q); have Q6 := Lib.hid (Q5.out.trans (q.mono Q5.out.size)); clear q
          refine hK.out _ _ ?_ ?_
          · exact HSS.out _ G6.out Q6.out
          clear hK K
          try simp only [Act.put, List.setIfInBounds_toArray, List.set_cons_zero, List.set_cons_succ]
          repeat (first
            | (refine wpSeq_skip rfl (by rfl) ?_; simp only [Act.put, List.setIfInBounds_toArray, List.set_cons_zero, List.set_cons_succ])
            | (refine wpSeq_take (v := ?_) rfl (by rfl) (fun wq hSq => ?_) ?_; rotate_left; (focus ((try dsimp only at hSq); go_simp; try with_reducible rfl)); simp only [Act.put, List.setIfInBounds_toArray, List.set_cons_zero, List.set_cons_succ]))
          refine wpSeq_skip' rfl (by rfl) (HSS.out _ G6.out Q6.out) ?_
          simp only [Act.put, List.setIfInBounds_toArray, List.set_cons_zero, List.set_cons_succ]
          repeat (first
            | (refine wpSeq_skip rfl (by rfl) ?_; simp only [Act.put, List.setIfInBounds_toArray, List.set_cons_zero, List.set_cons_succ])
            | (refine wpSeq_take (v := ?_) rfl (by rfl) (fun wq hSq => ?_) ?_; rotate_left; (focus ((try dsimp only at hSq); go_simp; try with_reducible rfl)); simp only [Act.put, List.setIfInBounds_toArray, List.set_cons_zero, List.set_cons_succ]))
          refine wpSeq_nil ?_
          obtain ⟨y0, y2, y3, y4, y5⟩ := HSS.out _ G6.out Q6.out
          go_wp2
          have G7 := Lib.hid (G6.out.same (Same.drew _))
          have Q7 := Lib.hid (Q6.out.trans ((Same.drew u5).below _))
          refine wp_region_seq (fun w' => w'.cell? ⟨u4.heap.size, 0, none⟩ = some (.int .i64 3) ∧ w'.cell? ⟨u4.heap.size, 2, none⟩ = some (.int .i64 er) ∧ w'.cell? ⟨W.heap.size, 2, none⟩ = some (.int .i64 c) ∧ w'.cell? ⟨W.heap.size, 3, none⟩ = some (.int .i64 e) ∧ w'.cell? ⟨W.heap.size + 1, 0, none⟩ = some (.int .i64 2)) ((0, true) :: (1, true) :: (2, true) :: (3, true) :: (4, true) :: (6, true) :: (7, true) :: (5, false) :: (8, true) :: (9, true) :: (10, true) :: (11, true) :: (12, true) :: (13, true) :: (14, true) :: (15, true) :: (16, true) :: (17, true) :: (18, true) :: (19, true) :: (20, true) :: (21, false) :: (22, true) :: (23, true) :: (24, true) :: (25, true) :: (26, true) :: (27, false) :: (28, true) :: (29, true) :: []) (by kernel_rfl) (by kernel_rfl) (fun _ _ _ _ _ h => h) (HSS.out _ G7.out Q7.out) ?_
          repeat (first
            | (refine wpSeq_skip rfl (by rfl) ?_; simp only [Act.put, List.setIfInBounds_toArray, List.set_cons_zero, List.set_cons_succ])
            | (refine wpSeq_take (v := ?_) rfl (by rfl) (fun wq hSq => ?_) ?_; rotate_left; (focus ((try dsimp only at hSq); go_simp; try with_reducible rfl)); simp only [Act.put, List.setIfInBounds_toArray, List.set_cons_zero, List.set_cons_succ]))
          refine wpSeq_skip' rfl (by rfl) (HSS.out _ G7.out Q7.out) ?_
          simp only [Act.put, List.setIfInBounds_toArray, List.set_cons_zero, List.set_cons_succ]
          repeat (first
            | (refine wpSeq_skip rfl (by rfl) ?_; simp only [Act.put, List.setIfInBounds_toArray, List.set_cons_zero, List.set_cons_succ])
            | (refine wpSeq_take (v := ?_) rfl (by rfl) (fun wq hSq => ?_) ?_; rotate_left; (focus ((try dsimp only at hSq); go_simp; try with_reducible rfl)); simp only [Act.put, List.setIfInBounds_toArray, List.set_cons_zero, List.set_cons_succ]))
          refine wpSeq_do rfl (by rfl) (fun K hK => ?_)
          go_simp
          refine (HSK.out _ G7.out).mono ?_
          rintro r u7 ⟨rfl, _, q⟩; have G8 := Lib.hid (G7.out.on q); have Q8 := Lib.hid (Q7.out.trans (q.mono Q7.out.size)); clear q
          refine hK.out _ _ ?_ ?_
          · exact HSS.out _ G8.out Q8.out
          clear hK K
          try simp only [Act.put, List.setIfInBounds_toArray, List.set_cons_zero, List.set_cons_succ]
          repeat (first
            | (refine wpSeq_skip rfl (by rfl) ?_; simp only [Act.put, List.setIfInBounds_toArray, List.set_cons_zero, List.set_cons_succ])
            | (refine wpSeq_take (v := ?_) rfl (by rfl) (fun wq hSq => ?_) ?_; rotate_left; (focus ((try dsimp only at hSq); go_simp; try with_reducible rfl)); simp only [Act.put, List.setIfInBounds_toArray, List.set_cons_zero, List.set_cons_succ]))
          refine wpSeq_do rfl (by rfl) (fun K hK => ?_)
          go_simp
          refine (HDP.out _ G8.out).mono ?_
          rintro r u ⟨rfl, hu⟩; subst u
          refine hK.out _ _ ?_ ?_
          · exact HSS.out _ G8.out Q8.out
          clear hK K
          try simp only [Act.put, List.setIfInBounds_toArray, List.set_cons_zero, List.set_cons_succ]
          repeat (first
            | (refine wpSeq_skip rfl (by rfl) ?_; simp only [Act.put, List.setIfInBounds_toArray, List.set_cons_zero, List.set_cons_succ])
            | (refine wpSeq_take (v := ?_) rfl (by rfl) (fun wq hSq => ?_) ?_; rotate_left; (focus ((try dsimp only at hSq); go_simp; try with_reducible rfl)); simp only [Act.put, List.setIfInBounds_toArray, List.set_cons_zero, List.set_cons_succ]))
          refine wpSeq_nil ?_
          go_wp2
          go_ret
          exact ⟨rfl, (newW_boxes (B0.out.trans (G8.out.fresh.mono B0.out.size))).2.2⟩
        · have hb0 : bl = 0 := HF3.out ht2
          subst hb0
          have n2a : ¬ e < 0 := by simpa using n2
          have n2b : decide (e < 0) = false := decide_eq_false n2a
          have ht2a : (t == 2) = false := by simpa using ht2
          have ht2b : (t != 2) = true := by simpa using ht2
          have n3a : decide ((64 : Int) < (sl : Int)) = false := decide_eq_false n3
          have n3b : decide (64 < sl) = false := decide_eq_false (by omega)
          have n4a : decide ((16 : Int) < (cl2 : Int)) = false := decide_eq_false n4
          have n4b : decide (16 < cl2) = false := decide_eq_false (by omega)
          have h80a : (er == 80) = false := by simpa using h80
          have hera : (er == 0) = false := by simpa using her
          have herb : (er != 0) = true := by simpa using her
          have HSS : Hid (∀ u, Gm u0 [] bm K u m' → Below (u4.alloc (.cells #[.int .i64 3, .int .i64 co2, .int .i64 er] 55)).heap.size (u4.alloc (.cells #[.int .i64 3, .int .i64 co2, .int .i64 er] 55)) u → (fun w' => w'.cell? ⟨u4.heap.size, 0, none⟩ = some (.int .i64 3) ∧ w'.cell? ⟨u4.heap.size, 2, none⟩ = some (.int .i64 er) ∧ w'.cell? ⟨W.heap.size, 2, none⟩ = some (.int .i64 c) ∧ w'.cell? ⟨W.heap.size, 3, none⟩ = some (.int .i64 e) ∧ w'.cell? ⟨W.heap.size + 1, 0, none⟩ = some (.int .i64 t)) u) := fun u hg hb => ⟨(HEB.out u hb).1, (HEB.out u hb).2.1, (HZ.out u hg).1, (HZ.out u hg).2.1, (HZ.out u hg).2.2.1⟩
          have G5 := Lib.hid (G4.out.same (Same.drew _))
          have Q5 := Lib.hid ((Same.drew (u4.alloc (.cells #[.int .i64 3, .int .i64 co2, .int .i64 er] 55))).below (u4.alloc (.cells #[.int .i64 3, .int .i64 co2, .int .i64 er] 55)).heap.size)
          refine wp_region_seq (fun w' => w'.cell? ⟨u4.heap.size, 0, none⟩ = some (.int .i64 3) ∧ w'.cell? ⟨u4.heap.size, 2, none⟩ = some (.int .i64 er) ∧ w'.cell? ⟨W.heap.size, 2, none⟩ = some (.int .i64 c) ∧ w'.cell? ⟨W.heap.size, 3, none⟩ = some (.int .i64 e) ∧ w'.cell? ⟨W.heap.size + 1, 0, none⟩ = some (.int .i64 t)) ((0, true) :: (1, true) :: (2, true) :: (3, true) :: (4, true) :: (5, true) :: (6, true) :: (7, true) :: (8, true) :: (9, true) :: (10, true) :: (11, true) :: (12, true) :: (13, true) :: (14, true) :: (16, true) :: (17, true) :: (15, false) :: (18, true) :: (19, true) :: (20, true) :: (21, true) :: (24, true) :: (25, true) :: (22, false) :: (23, true) :: (26, true) :: (27, true) :: (28, true) :: (29, true) :: (30, true) :: (31, true) :: (32, true) :: (33, true) :: (34, false) :: (35, true) :: (36, true) :: (37, true) :: (38, true) :: []) (by kernel_rfl) (by kernel_rfl) (fun _ _ _ _ _ h => h) (HSS.out _ G5.out Q5.out) ?_
          repeat (first
            | (refine wpSeq_skip rfl (by rfl) ?_; simp only [Act.put, List.setIfInBounds_toArray, List.set_cons_zero, List.set_cons_succ])
            | (refine wpSeq_take (v := ?_) rfl (by rfl) (fun wq hSq => ?_) ?_; rotate_left; (focus ((try dsimp only at hSq); go_simp; try with_reducible rfl)); simp only [Act.put, List.setIfInBounds_toArray, List.set_cons_zero, List.set_cons_succ]))
          refine wpSeq_do rfl (by rfl) (fun K hK => ?_)
          go_simp
          refine (HU.out _ G5.out).mono ?_
          rintro r u ⟨rfl, hu⟩; subst u
          refine hK.out _ _ ?_ ?_
          · exact HSS.out _ G5.out Q5.out
          clear hK K
          try simp only [Act.put, List.setIfInBounds_toArray, List.set_cons_zero, List.set_cons_succ]
          repeat (first
            | (refine wpSeq_skip rfl (by rfl) ?_; simp only [Act.put, List.setIfInBounds_toArray, List.set_cons_zero, List.set_cons_succ])
            | (refine wpSeq_take (v := ?_) rfl (by rfl) (fun wq hSq => ?_) ?_; rotate_left; (focus ((try dsimp only at hSq); go_simp; try with_reducible rfl)); simp only [Act.put, List.setIfInBounds_toArray, List.set_cons_zero, List.set_cons_succ]))
          refine wpSeq_do rfl (by rfl) (fun K hK => ?_)
          go_simp
          refine (HWR.out _ G5.out).mono ?_
          rintro r u5 ⟨rfl, _, q⟩; have G6 := Lib.hid (G5.out.on q); have Q6 := Lib.hid (Q5.out.trans (q.mono Q5.out.size)); clear q
          refine hK.out _ _ ?_ ?_
          · exact HSS.out _ G6.out Q6.out
          clear hK K
          try simp only [Act.put, List.setIfInBounds_toArray, List.set_cons_zero, List.set_cons_succ]
          repeat (first
            | (refine wpSeq_skip rfl (by rfl) ?_; simp only [Act.put, List.setIfInBounds_toArray, List.set_cons_zero, List.set_cons_succ])
            | (refine wpSeq_take (v := ?_) rfl (by rfl) (fun wq hSq => ?_) ?_; rotate_left; (focus ((try dsimp only at hSq); go_simp; try with_reducible rfl)); simp only [Act.put, List.setIfInBounds_toArray, List.set_cons_zero, List.set_cons_succ]))
          refine wpSeq_do rfl (by rfl) (fun K hK => ?_)
          go_simp
          refine (HWR.out _ G6.out).mono ?_
          rintro r u6 ⟨rfl, _, q⟩; have G7 := Lib.hid (G6.out.on q); have Q7 := Lib.hid (Q6.out.trans (q.mono Q6.out.size)); clear q
          refine hK.out _ _ ?_ ?_
          · exact HSS.out _ G7.out Q7.out
          clear hK K
          try simp only [Act.put, List.setIfInBounds_toArray, List.set_cons_zero, List.set_cons_succ]
          repeat (first
            | (refine wpSeq_skip rfl (by rfl) ?_; simp only [Act.put, List.setIfInBounds_toArray, List.set_cons_zero, List.set_cons_succ])
            | (refine wpSeq_take (v := ?_) rfl (by rfl) (fun wq hSq => ?_) ?_; rotate_left; (focus ((try dsimp only at hSq); go_simp; try with_reducible rfl)); simp only [Act.put, List.setIfInBounds_toArray, List.set_cons_zero, List.set_cons_succ]))
          refine wpSeq_nil ?_
          obtain ⟨y0, y2, y3, y4, y5⟩ := HSS.out _ G7.out Q7.out
          go_wp2
          have G8 := Lib.hid (G7.out.same (Same.drew _))
          have Q8 := Lib.hid (Q7.out.trans ((Same.drew u6).below _))
          refine wp_region_seq (fun w' => w'.cell? ⟨u4.heap.size, 0, none⟩ = some (.int .i64 3) ∧ w'.cell? ⟨u4.heap.size, 2, none⟩ = some (.int .i64 er) ∧ w'.cell? ⟨W.heap.size, 2, none⟩ = some (.int .i64 c) ∧ w'.cell? ⟨W.heap.size, 3, none⟩ = some (.int .i64 e) ∧ w'.cell? ⟨W.heap.size + 1, 0, none⟩ = some (.int .i64 t)) ((0, true) :: (1, true) :: (2, true) :: (3, true) :: (4, true) :: (6, true) :: (7, true) :: (5, false) :: (8, true) :: (9, true) :: (10, true) :: (11, true) :: (12, true) :: (13, true) :: (14, true) :: (15, true) :: (16, true) :: (17, true) :: (18, true) :: (19, true) :: (20, true) :: (21, false) :: (22, true) :: (23, true) :: (24, true) :: (25, true) :: (26, true) :: (27, false) :: (28, true) :: (29, true) :: []) (by kernel_rfl) (by kernel_rfl) (fun _ _ _ _ _ h => h) (HSS.out _ G8.out Q8.out) ?_
          repeat (first
            | (refine wpSeq_skip rfl (by rfl) ?_; simp only [Act.put, List.setIfInBounds_toArray, List.set_cons_zero, List.set_cons_succ])
            | (refine wpSeq_take (v := ?_) rfl (by rfl) (fun wq hSq => ?_) ?_; rotate_left; (focus ((try dsimp only at hSq); go_simp; try with_reducible rfl)); simp only [Act.put, List.setIfInBounds_toArray, List.set_cons_zero, List.set_cons_succ]))
          refine wpSeq_skip' rfl (by rfl) (HSS.out _ G8.out Q8.out) ?_
          simp only [Act.put, List.setIfInBounds_toArray, List.set_cons_zero, List.set_cons_succ]
          repeat (first
            | (refine wpSeq_skip rfl (by rfl) ?_; simp only [Act.put, List.setIfInBounds_toArray, List.set_cons_zero, List.set_cons_succ])
            | (refine wpSeq_take (v := ?_) rfl (by rfl) (fun wq hSq => ?_) ?_; rotate_left; (focus ((try dsimp only at hSq); go_simp; try with_reducible rfl)); simp only [Act.put, List.setIfInBounds_toArray, List.set_cons_zero, List.set_cons_succ]))
          refine wpSeq_do rfl (by rfl) (fun K hK => ?_)
          go_simp
          refine (HSK.out _ G8.out).mono ?_
          rintro r u8 ⟨rfl, _, q⟩; have G9 := Lib.hid (G8.out.on q); have Q9 := Lib.hid (Q8.out.trans (q.mono Q8.out.size)); clear q
          refine hK.out _ _ ?_ ?_
          · exact HSS.out _ G9.out Q9.out
          clear hK K
          try simp only [Act.put, List.setIfInBounds_toArray, List.set_cons_zero, List.set_cons_succ]
          repeat (first
            | (refine wpSeq_skip rfl (by rfl) ?_; simp only [Act.put, List.setIfInBounds_toArray, List.set_cons_zero, List.set_cons_succ])
            | (refine wpSeq_take (v := ?_) rfl (by rfl) (fun wq hSq => ?_) ?_; rotate_left; (focus ((try dsimp only at hSq); go_simp; try with_reducible rfl)); simp only [Act.put, List.setIfInBounds_toArray, List.set_cons_zero, List.set_cons_succ]))
          refine wpSeq_do rfl (by rfl) (fun K hK => ?_)
          go_simp
          refine (HDP.out _ G9.out).mono ?_
          rintro r u ⟨rfl, hu⟩; subst u
          refine hK.out _ _ ?_ ?_
          · exact HSS.out _ G9.out Q9.out
          clear hK K
          try simp only [Act.put, List.setIfInBounds_toArray, List.set_cons_zero, List.set_cons_succ]
          repeat (first
            | (refine wpSeq_skip rfl (by rfl) ?_; simp only [Act.put, List.setIfInBounds_toArray, List.set_cons_zero, List.set_cons_succ])
            | (refine wpSeq_take (v := ?_) rfl (by rfl) (fun wq hSq => ?_) ?_; rotate_left; (focus ((try dsimp only at hSq); go_simp; try with_reducible rfl)); simp only [Act.put, List.setIfInBounds_toArray, List.set_cons_zero, List.set_cons_succ]))
          refine wpSeq_nil ?_
          go_wp2
          go_ret
          exact ⟨rfl, (newW_boxes (B0.out.trans (G9.out.fresh.mono B0.out.size))).2.2⟩
      · have k1' : kd = 1 := k1
        subst k1'
        have HGV := Lib.hid (fun u (hg : Gm u0 [] bm K u m') => give_any hg HI2.out (fedV f g))
        have HG0 : Hid (giveE m' = 0) := by unfold giveE; exact if_pos k3
        rw [HG0.out] at HGV
        have HGG := Lib.hid (give_goes k3 (fedV f g))
        have HI3 := Lib.hid (inv_give HI2.out (HFL.out g))
        have HK := Lib.hid (And.intro k4 k5)
        clear k1 k2 k3 k4 k5
        go_wp2_with (first
          | (go_at_call 16; refine (HGV.out _ G3.out).mono ?_; rintro r u5 ⟨rfl, q⟩; have G4 := Lib.hid q; clear q)
          | (go_at_call 27; refine (HFD.out _ (newW_boxes (B0.out.trans (G3.out.fresh.mono B0.out.size))).2.2 g).mono ?_; rintro r u ⟨rfl, hu⟩; subst u)
          | (go_at_call 14; refine HST.out.mono ?_; rintro r u3 ⟨rfl, q⟩; have G3 := Lib.hid (q.alloc (askO ⟨1, cl, xx, fi⟩)); clear q HST; unfold askV))
        refine ⟨⟨g + 1, i + 1, giveM m' (fedV f g), by first | rfl | (congr 1), by first | rfl | (congr 1), by omega, by omega, ?_⟩, by simp [intOf]; omega⟩
        refine ⟨G4.out, HI3.out, by have := HGG.out.1; omega, HGG.out.2.1.trans HK.out.1, ?_, HLK.out.trans HGG.out.2.2.2⟩
        rw [HGG.out.2.2.1]
        exact HK.out.2.trans (by rw [HRN.out.used]; rfl)
      · have n4 : ¬ kd = 4 := by rcases k1 with h | h | h <;> (have h' : kd = _ := h; omega)
        have n1 : ¬ kd = 1 := by rcases k1 with h | h | h <;> (have h' : kd = _ := h; omega)
        have HK := Lib.hid (And.intro k2 (And.intro k3 k4))
        clear k1 k2 k3 k4
        go_wp2_with (go_at_call 14; refine HST.out.mono ?_; rintro r u3 ⟨rfl, q⟩; have G3 := Lib.hid (q.alloc (askO ⟨kd, cl, xx, fi⟩)); clear q HST; unfold askV)
        refine ⟨⟨g, i + 1, m', rfl, by first | rfl | (congr 1), by omega, by omega, ?_⟩, by simp [intOf]; omega⟩
        exact ⟨G3.out, HI2.out, by have := HK.out.1; omega, HK.out.2.1, HK.out.2.2.trans (by rw [HRN.out.used]; rfl), HLK.out⟩
end Go.Proofs.YtjicnjncdmknmaaGreatDoor
