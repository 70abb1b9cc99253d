/- For every number of threads and every script the statement SchedFair answers true: Over rises by one at most, just when nobody is due, and Due tells just who has not finished and was not stepped since. No condition. -/
import Derived.Test.YtifiebgmjpjakaaDO
import Derived.Test.YtifiebgmjpjakaaDF
namespace Go.Proofs.Ytifiebgmjpjakaa.schedFair
open Go.ChangeShapes Go.WideShapes Go.ChangeAt Go.RowKit

set_option maxHeartbeats 4000000 in
set_option maxRecDepth 100000 in
theorem walk_no (a0 : Int) (v : Value) (ht : mayT a0 = false) (W : World) : Calls Try.prog 6 #[.int .i64 a0, v] W fun r W2 => r = .returned (.bool true) ∧ Below W.heap.size W W2 := by
  have HN := Lib.hid (new_no a0 ht)
  have ht := of_decide_eq_false ht
  by_cases h1 : a0 < 1
  · clear ht
    go_enter Try.func6, Try.ntmps6
    go_wp2_with (first
      | (go_at_call 10; refine (live_any _).mono ?_; rintro e w1 ⟨rfl, hb⟩; have HB1 := Lib.hid hb; clear hb)
      | (go_at_call 8; refine (HN.out _).mono ?_; rintro e w2 ⟨rfl, hw⟩; subst w2))
    go_ret
    exact ⟨by simp, HB1.out⟩
  · have h2 : 8 < a0 := by omega
    clear ht
    go_enter Try.func6, Try.ntmps6
    go_wp2_with (first
      | (go_at_call 10; refine (live_any _).mono ?_; rintro e w1 ⟨rfl, hb⟩; have HB1 := Lib.hid hb; clear hb)
      | (go_at_call 8; refine (HN.out _).mono ?_; rintro e w2 ⟨rfl, hw⟩; subst w2))
    go_ret
    exact ⟨by simp, HB1.out⟩
set_option maxHeartbeats 8000000 in
set_option maxRecDepth 100000 in
theorem walk_yes (n : Nat) (h1 : 1 ≤ n) (h8 : n ≤ 8) (ao : Option Addr) (len cap : Nat) (K T : Nat → Int) (hz : len * 16 ≤ 140737488355328) (W : World) (hops : RopsAt W ao len K T) : Calls Try.prog 6 #[.int .i64 (n : Int), .slice ao len cap] W fun r W2 => r = .returned (.bool true) ∧ Below W.heap.size W W2 := by
  have HN := Lib.hid (new_yes n h1 h8)
  have HIN := Lib.hid (new_inv n h1 h8)
  have HOPS := Lib.hid hops
  have hmm : len ≤ 9223372036854775807 := by omega
  obtain ⟨i0, hi, hz0, hz1, hz2⟩ := info_parts iInfo
  have HZI := Lib.hid (And.intro hi (And.intro hz0 (And.intro hz1 hz2)))
  clear hops hi hz0 hz1 hz2
  have k1 : ¬ (n : Int) < 1 := by omega
  have k2 : ¬ (8 : Int) < (n : Int) := by omega
  go_enter Try.func6, Try.ntmps6
  go_wp2_with (first
    | (go_at_call 8; refine (HN.out _).mono ?_; rintro e w2 ⟨rfl, q1, q2⟩; obtain ⟨b, hb⟩ : ∃ b, b = w1.heap.size := ⟨_, rfl⟩; rw [← hb]; rw [← hb] at q1; obtain ⟨gf, gs, x1, x2, hk1, hk2, hF⟩ := fair_made HB1.out hb q1 q2; have HF := Lib.hid hF; clear q1 q2 hb hF)
    | (go_at_call 10; refine (live_any _).mono ?_; rintro e w1 ⟨rfl, hb⟩; have HB1 := Lib.hid hb; clear hb))
  clear hk1 hk2
  go_loopw [53] (fun vi wr => ∃ i : Nat, vi = .int .i64 i ∧ i ≤ len ∧ Hid (Head W wr b gf gs n i)) (fun vi _ => len - (intOf vi).toNat)
  case atStart => exact ⟨0, rfl, Nat.zero_le _, ⟨newR n, noneF, noneF, HIN.out, rfl, Nat.le_refl _, fr_new n, HF.out⟩⟩
  case round =>
    clear HF HIN HN HB1
    obtain ⟨i, rfl, hi, HH⟩ := hrel
    obtain ⟨m, f, s, hI, hN, hO, hFR, hF⟩ := HH.out
    clear HH
    by_cases hlt : i < len
    · have hlt' : (i : Int) < (len : Int) := by omega
      obtain ⟨b0, off, hao, hbW, k0, k1⟩ := HOPS.out i hlt
      subst hao
      rw [← hF.below.cell (p := ⟨b0, off + i * 2, none⟩) hbW] at k0
      rw [← hF.below.cell (p := ⟨b0, off + i * 2 + 1, none⟩) hbW] at k1
      have hbw : b0 < wr.heap.size := Nat.lt_of_lt_of_le hbW hF.below.size
      generalize K i = kk at k0
      generalize T i = tt at k1
      have HP := Lib.hid (hF.on ((Below.refl _ _).alloc (Nat.le_refl _) (.cells #[.int .i64 kk, .int .i64 tt] 38)))
      have HI := Lib.hid hI
      have HNN := Lib.hid hN
      have HFR0 := Lib.hid hFR
      have ho : m.o + 5 < 9223372036854775807 := by omega
      have HOO := Lib.hid hO
      clear hbW HOPS hF hI hN hFR
      go_upto_region 12 with (go_at_call 20; refine (over_any HP.out.mm).mono ?_; rintro e w4 ⟨rfl, hw⟩; subst w4)
      go_cut [14] (fun v14 wc => v14 = .bool (hasT m tt) ∧ wc = wr.alloc (.cells #[.int .i64 kk, .int .i64 tt] 38))
      case first =>
        by_cases t0 : 0 ≤ tt
        · have HE := Lib.hid (show hasT m tt = decide (tt < (n : Int)) by unfold hasT; rw [HNN.out]; simp [t0])
          go_wp2
          go_meet
          exact ⟨by rw [HE.out], rfl⟩
        · have HE := Lib.hid (show hasT m tt = false by unfold hasT; simp [t0])
          go_wp2
          go_meet
          exact ⟨by rw [HE.out], rfl⟩
      case rest =>
        obtain ⟨rfl, hw⟩ := hcut
        subst wc
        obtain ⟨o0, ho0⟩ : ∃ o0, m.o = o0 := ⟨_, rfl⟩
        have HO0 := Lib.hid ho0
        rw [ho0] at ho ⊢
        clear ho0
        go_upto_block 2 with fail
        go_cut [14, 15] (fun v14 v15 wc => ∃ (B : Bool) (z : Int), v14 = .bool B ∧ v15 = .int .i64 z ∧ (z == 0) = B ∧ Hid (Aft W wc b gf gs n o0))
        case first =>
          by_cases h1 : kk = 1
          · subst h1
            cases hh : hasT m tt
            · have e : errT m tt = 100 := by simp [errT, hh]
              have HS := Lib.hid (step_any HP.out.mm tt HI.out.hi (by have := HO0.out; omega))
              rw [e, show stepM m tt = m by simp [stepM, hh]] at HS
              have HAF : Hid (∀ w', RdAt w' b m → Turn [b] [b] (wr.alloc (.cells #[.int .i64 1, .int .i64 tt] 38)) w' → Aft W w' b gf gs n o0) := fun w' q1 q2 => ⟨m, f, s, HI.out.pre, HNN.out, HO0.out, HFR0.out, by rw [settle_still HI.out]; exact HP.out.go q1 q2⟩
              clear e hh
              go_wp2_with (go_at_call 15; refine HS.out.mono ?_; rintro e w5 ⟨rfl, q1, q2⟩; have HA5 := Lib.hid (HAF.out _ q1 q2); clear q1 q2)
              go_meet
              exact ⟨_, _, rfl, rfl, rfl, HA5⟩
            · obtain ⟨t', rfl, ht'⟩ := hasT_nat hh
              have e : errT m (t' : Int) = 0 := by simp [errT, hh]
              have t8 : (t' : Int) < 8 := by have := HNN.out; omega
              have HS := Lib.hid (step_any HP.out.mm (t' : Int) HI.out.hi (by have := HO0.out; omega))
              rw [e] at HS
              have HAF : Hid (∀ w', RdAt w' b (stepM m (t' : Int)) → Turn [b] [b] (wr.alloc (.cells #[.int .i64 1, .int .i64 (t' : Int)] 38)) w' → w'.cell? ⟨gs, t', none⟩ = some (.int .i64 (numB (s t'))) ∧ w'.frozen? ⟨gs, t', none⟩ = false ∧ gs < w'.heap.size ∧ Aft W (w'.setCell ⟨gs, t', none⟩ (.int .i64 1)) b gf gs n o0) := fun w' q1 q2 => by
                have hF := HP.out.go q1 q2
                obtain ⟨c1, c2, c3⟩ := hF.getS (k := t') (by have := HI.out.hi; omega)
                obtain ⟨m1, a1, a2, a3, a4, a5⟩ := fr_step HI.out HFR0.out t'
                refine ⟨c1, c2, c3, m1, f, putF s t' true, a1, a2.trans HNN.out, a3.trans HO0.out, a4, ?_⟩
                have e2 : stepM m (t' : Int) = settleM m1 := by rw [← a5]; simp [stepM, hh]
                rw [← e2]
                exact hF.setS t' true
              generalize stepM m (t' : Int) = m' at HS HAF
              generalize numB (s t') = y at HAF
              clear e hh ht'
              go_wp2_with (go_at_call 15; refine HS.out.mono ?_; rintro e w5 ⟨rfl, q1, q2⟩; obtain ⟨c1, c2, c3, c4⟩ := HAF.out _ q1 q2; have HA5 := Lib.hid c4; clear q1 q2 c4)
              go_meet
              exact ⟨_, _, rfl, rfl, rfl, HA5⟩
          by_cases h2 : kk = 2
          · subst h2
            cases hh : hasT m tt
            · have e : errT m tt = 100 := by simp [errT, hh]
              have HS := Lib.hid (fin_any HP.out.mm tt HI.out.hi (by have := HO0.out; omega))
              rw [e, show finM m tt = m by simp [finM, hh]] at HS
              have HAF : Hid (∀ w', RdAt w' b m → Turn [b] [b] (wr.alloc (.cells #[.int .i64 2, .int .i64 tt] 38)) w' → Aft W w' b gf gs n o0) := fun w' q1 q2 => ⟨m, f, s, HI.out.pre, HNN.out, HO0.out, HFR0.out, by rw [settle_still HI.out]; exact HP.out.go q1 q2⟩
              clear e hh
              go_wp2_with (go_at_call 17; refine HS.out.mono ?_; rintro e w5 ⟨rfl, q1, q2⟩; have HA5 := Lib.hid (HAF.out _ q1 q2); clear q1 q2)
              go_meet
              exact ⟨_, _, rfl, rfl, rfl, HA5⟩
            · obtain ⟨t', rfl, ht'⟩ := hasT_nat hh
              have e : errT m (t' : Int) = 0 := by simp [errT, hh]
              have t8 : (t' : Int) < 8 := by have := HNN.out; omega
              have HS := Lib.hid (fin_any HP.out.mm (t' : Int) HI.out.hi (by have := HO0.out; omega))
              rw [e] at HS
              have HAF : Hid (∀ w', RdAt w' b (finM m (t' : Int)) → Turn [b] [b] (wr.alloc (.cells #[.int .i64 2, .int .i64 (t' : Int)] 38)) w' → w'.cell? ⟨gf, t', none⟩ = some (.int .i64 (numB (f t'))) ∧ w'.frozen? ⟨gf, t', none⟩ = false ∧ gf < w'.heap.size ∧ Aft W (w'.setCell ⟨gf, t', none⟩ (.int .i64 1)) b gf gs n o0) := fun w' q1 q2 => by
                have hF := HP.out.go q1 q2
                obtain ⟨c1, c2, c3⟩ := hF.getF (k := t') (by have := HI.out.hi; omega)
                obtain ⟨m1, a1, a2, a3, a4, a5⟩ := fr_fin HI.out HFR0.out t'
                refine ⟨c1, c2, c3, m1, putF f t' true, s, a1, a2.trans HNN.out, a3.trans HO0.out, a4, ?_⟩
                have e2 : finM m (t' : Int) = settleM m1 := by rw [← a5]; simp [finM, hh]
                rw [← e2]
                exact hF.setF t' true
              generalize finM m (t' : Int) = m' at HS HAF
              generalize numB (f t') = y at HAF
              clear e hh ht'
              go_wp2_with (go_at_call 17; refine HS.out.mono ?_; rintro e w5 ⟨rfl, q1, q2⟩; obtain ⟨c1, c2, c3, c4⟩ := HAF.out _ q1 q2; have HA5 := Lib.hid c4; clear q1 q2 c4)
              go_meet
              exact ⟨_, _, rfl, rfl, rfl, HA5⟩
          have HA5 : Hid (Aft W (wr.alloc (.cells #[.int .i64 kk, .int .i64 tt] 38)) b gf gs n o0) := ⟨m, f, s, HI.out.pre, HNN.out, HO0.out, HFR0.out, by rw [settle_still HI.out]; exact HP.out⟩
          go_wp2
          go_meet
          exact ⟨_, _, rfl, rfl, rfl, HA5⟩
        case rest =>
          obtain ⟨B, z, rfl, rfl, hzb, HA⟩ := hcut
          have HOI := Lib.hid (show o0 ≤ i by have := HO0.out; have := HOO.out; omega)
          clear HP HI HFR0 HNN HOO HO0 k0 k1
          subst hzb
          obtain ⟨m1, f1, s1, p1, n1, o1, fr1, F1⟩ := HA.out
          clear HA
          have hne : ((z == 0) != (z == 0)) = false := by simp
          cases hov : overB m1
          · have es : settleM m1 = m1 := by simp [settleM, hov]
            have hI2 := settle_inv p1
            rw [es] at hI2 F1
            have HOV : Hid (∀ v, Fair W v b gf gs m1 f1 s1 → Calls Try.prog 20 #[.pointer (some ⟨b, 0, none⟩)] v fun e w' => e = .returned (.int .i64 (o0 : Int)) ∧ w' = v) := fun v hv => by
              rw [← o1]
              exact over_any hv.mm
            obtain ⟨m2, hm2⟩ : ∃ m2, m2 = m1 := ⟨_, rfl⟩
            obtain ⟨s2, hs2⟩ : ∃ s2, s2 = s1 := ⟨_, rfl⟩
            obtain ⟨u, hu⟩ : ∃ u, u = wc := ⟨_, rfl⟩
            rw [← hm2] at HOV hI2 F1 n1 fr1 o1
            rw [← hs2] at HOV F1 fr1
            rw [← hu] at F1 ⊢
            have HF2 := Lib.hid F1
            have HI2 := Lib.hid hI2
            have HFR := Lib.hid fr1
            have HN2 := Lib.hid n1
            have HO2 : Hid (m2.o ≤ i + 1) := by
              have := HOI.out
              show m2.o ≤ i + 1
              omega
            clear hm2 hs2 hu F1 hI2 fr1 n1 o1 p1 hov es
            go_wp2_with (go_at_call 20; refine (HOV.out _ HF2.out).mono ?_; rintro e w6 ⟨rfl, hw⟩; subst w6)
            clear HOV
            go_loopw [17, 18, 19] (fun vd vl vk wx => ∃ (j : Nat) (p : Option Addr) (nn c lf : Nat), vd = .slice p nn c ∧ vl = .int .i64 (lf : Int) ∧ vk = .int .i64 j ∧ j ≤ n ∧ nn = (dueU m2 j).length ∧ lf = cntU f1 j ∧ Hid (Grow u.heap.size u wx p c (dueU m2 j))) (fun _ _ vk _ => n - (intOf vk).toNat)
            case atStart => exact ⟨0, none, 0, 0, 0, rfl, rfl, rfl, Nat.zero_le _, rfl, rfl, grow_nil (Below.refl _ _)⟩
            case round =>
              obtain ⟨j, p, nn, c, lf, rfl, rfl, rfl, hj, hnn, hlf, HQ⟩ := hrel
              have hF := HF2.out.on HQ.out.below
              have hl8 : lf ≤ 8 := by have := cntU_le f1 j; omega
              have HL8 := Lib.hid hl8
              by_cases hjn : j < n
              · have hjn' : (j : Int) < (n : Int) := by omega
                have j8 : (j : Int) < 8 := by omega
                obtain ⟨cf1, _, cf3⟩ := hF.getF (k := j) (by omega)
                obtain ⟨cs1, _, cs3⟩ := hF.getS (k := j) (by omega)
                have hd := fr_due HFR.out (k := j) (by rw [HN2.out]; exact hjn)
                have hle := dueU_len m2 j
                have HLE : Hid ((dueU m2 j).length ≤ 8) := Lib.hid (by omega)
                have HSZ : Hid (u.heap.size ≤ wr.heap.size) := HQ.out.below.size
                clear hle hF
                cases hfv : f1 j
                · cases hsv : s2 j
                  · have e : dueU m2 (j + 1) = dueU m2 j ++ [(j : Int)] := by rw [dueU_succ, hd]; simp [hfv, hsv]
                    have ec : cntU f1 (j + 1) = cntU f1 j + 1 := by simp [cntU, hfv]
                    rw [hfv] at cf1
                    rw [hsv] at cs1
                    replace cf1 : wr.cell? ⟨gf, j, none⟩ = some (.int .i64 0) := cf1
                    replace cs1 : wr.cell? ⟨gs, j, none⟩ = some (.int .i64 0) := cs1
                    clear hfv hsv hd
                    generalize dueU m2 j = l at HQ HLE e hnn
                    generalize cntU f1 j = lc at hlf ec
                    subst hnn hlf
                    have HO : Hid (∀ v, Same wr v → v.ownsRow u.heap.size 3 1 (.slice p l.length c) l.length (i64s l)) := fun v hv => (HQ.out.same hv).own
                    have EE := Lib.hid e
                    have EC := Lib.hid ec
                    clear e ec
                    go_wp2_with (at_builtin; refine wpList_append_own_at _ rfl _ _ 26 rfl u.heap.size 3 i0 (.int .i64 0) 1 8 Try.underlying26 HZI.out.1 HZI.out.2.1 HZI.out.2.2.1 HZI.out.2.2.2 rfl (by decide) _ l.length (i64s l) rfl (World.ownsRow.alloc (HO.out _ (by first | exact Same.refl _ | exact Same.drew _ | exact Same.drewN _ _)) _) ⟨wr.heap.size, 0, none⟩ 1 1 [Value.int .i64 (j : Int)] rfl rfl (cell_one_new _ _ _) (fun v hv => by simp at hv; subst hv; rfl) (by have := HLE.out; unfold maxLen; omega) (by have := HLE.out; omega) (by have := HSZ.out; simp; omega) ?_; intro v3 w3 hown3 hgrow3 hnil3 hat3; obtain ⟨p', c', hv3, q1⟩ := HQ.out.app HSZ.out hown3 hgrow3; subst hv3; have HQ3 := Lib.hid q1; clear hown3 hgrow3 hnil3 hat3 q1 HO)
                    exact ⟨⟨j + 1, p', _, c', _, rfl, by first | rfl | (congr 1), by first | rfl | (congr 1), by omega, by rw [EE.out]; simp, by rw [EC.out], by rw [EE.out]; exact HQ3⟩, by simp [intOf]; omega⟩
                  · have e : dueU m2 (j + 1) = dueU m2 j := by rw [dueU_succ, hd]; simp [hsv]
                    have ec : cntU f1 (j + 1) = cntU f1 j + 1 := by simp [cntU, hfv]
                    rw [hfv] at cf1
                    rw [hsv] at cs1
                    replace cf1 : wr.cell? ⟨gf, j, none⟩ = some (.int .i64 0) := cf1
                    replace cs1 : wr.cell? ⟨gs, j, none⟩ = some (.int .i64 1) := cs1
                    clear hfv hsv hd
                    have EE := Lib.hid e
                    have EC := Lib.hid ec
                    have ENN := Lib.hid hnn
                    have ELF := Lib.hid hlf
                    clear e ec hnn hlf
                    go_wp2
                    exact ⟨⟨j + 1, p, nn, c, lf + 1, rfl, by first | rfl | (congr 1), by first | rfl | (congr 1), by omega, by rw [EE.out]; exact ENN.out, by rw [EC.out, ELF.out], by rw [EE.out]; exact HQ⟩, by simp [intOf]; omega⟩
                · have e : dueU m2 (j + 1) = dueU m2 j := by rw [dueU_succ, hd]; simp [hfv]
                  have ec : cntU f1 (j + 1) = cntU f1 j := by simp [cntU, hfv]
                  rw [hfv] at cf1
                  replace cf1 : wr.cell? ⟨gf, j, none⟩ = some (.int .i64 1) := cf1
                  clear hfv hd
                  have EE := Lib.hid e
                  have EC := Lib.hid ec
                  have ENN := Lib.hid hnn
                  have ELF := Lib.hid hlf
                  clear e ec hnn hlf
                  go_wp2
                  exact ⟨⟨j + 1, p, nn, c, lf, rfl, rfl, by first | rfl | (congr 1), by omega, by rw [EE.out]; exact ENN.out, by rw [EC.out]; exact ELF.out, by rw [EE.out]; exact HQ⟩, by simp [intOf]; omega⟩
              · have hjn' : ¬ (j : Int) < (n : Int) := by omega
                obtain rfl : j = n := by omega
                have HFX := Lib.hid hF
                have hld := left_due HI2.out HFR.out
                rw [HN2.out, ← hlf, ← hnn] at hld
                have HD : Hid (∀ v, Fair W v b gf gs m2 f1 s2 → Calls Try.prog 9 #[.pointer (some ⟨b, 0, none⟩)] v fun e w' => ∃ p c, e = .returned (.slice p nn c) ∧ IntsAt w' p nn (fun i => (dueU m2 j).getD i 0) ∧ Below v.heap.size v w') := fun v hv => (due_any hv.mm HI2.out.hi).mono fun e w' ⟨p, c, he, q1, q2, q3⟩ => by
                  have e2 : dueL m2 = dueU m2 j := by unfold dueL; rw [HN2.out]
                  rw [e2] at he q1
                  rw [hnn]
                  exact ⟨p, c, he, q1.ints, q3⟩
                have HR1 : Hid (IntsAt wr p nn (fun i => (dueU m2 j).getD i 0)) := by
                  have q := HQ.out.row.1.ints
                  rw [← hnn] at q
                  exact q
                have HNN : Hid (nn ≤ 9223372036854775807) := by
                  have := dueU_len m2 j
                  show nn ≤ _
                  omega
                have HEND : Hid (∀ v, Fair W v b gf gs m2 f1 s2 → Head W v b gf gs j (i + 1)) := fun v hv => ⟨m2, f1, s2, HI2.out, HN2.out, HO2.out, HFR.out, hv⟩
                clear hnn hlf hF HQ HF2 HI2 HFR HN2 HO2
                by_cases hp : 0 < lf
                · have hp2 := hld.1 hp
                  have hp' : (0 : Int) < (lf : Int) := by omega
                  have hp2' : (0 : Int) < (nn : Int) := by omega
                  clear hld
                  go_wp2_with (first
                    | (go_at_call 13; refine (same_any _ _ HNN.out R2.out.1 R2.out.2.1).mono ?_; rintro e w6 ⟨rfl, hw⟩; have HG6 := Lib.hid (HEND.out _ (R2.out.2.2.on (hw.below _))); clear hw)
                    | (go_at_call 9; refine (HD.out _ HFX.out).mono ?_; rintro e w5 ⟨p2, c2, rfl, q1, q3⟩; have R2 := Lib.hid (And.intro q1 (And.intro (HR1.out.on q3) (HFX.out.on q3))); clear q1 q3))
                  exact ⟨⟨i + 1, by first | rfl | (congr 1), by omega, HG6⟩, by simp [intOf]; omega⟩
                · have hp2 : ¬ 0 < nn := fun q => hp (hld.2 q)
                  have hp' : ¬ (0 : Int) < (lf : Int) := by omega
                  have hp2' : ¬ (0 : Int) < (nn : Int) := by omega
                  clear hld
                  go_wp2_with (first
                    | (go_at_call 13; refine (same_any _ _ HNN.out R2.out.1 R2.out.2.1).mono ?_; rintro e w6 ⟨rfl, hw⟩; have HG6 := Lib.hid (HEND.out _ (R2.out.2.2.on (hw.below _))); clear hw)
                    | (go_at_call 9; refine (HD.out _ HFX.out).mono ?_; rintro e w5 ⟨p2, c2, rfl, q1, q3⟩; have R2 := Lib.hid (And.intro q1 (And.intro (HR1.out.on q3) (HFX.out.on q3))); clear q1 q3))
                  exact ⟨⟨i + 1, by first | rfl | (congr 1), by omega, HG6⟩, by simp [intOf]; omega⟩
          · have es : settleM m1 = { m1 with s := noneF, o := m1.o + 1 } := by simp [settleM, hov]
            have hI2 := settle_inv p1
            have HALL : Hid (∀ k, k < n → f1 k = true ∨ s1 k = true) := fun k hk => fr_all p1 fr1 hov (by rw [n1]; exact hk)
            have hfr2 := fr_over fr1 hov
            rw [n1] at hfr2
            have hn2 : (settleM m1).n = n := by rw [settleM_n]; exact n1
            have ho2 : (settleM m1).o = o0 + 1 := by rw [es, ← o1]
            obtain ⟨m2, hm2⟩ : ∃ m2, m2 = settleM m1 := ⟨_, rfl⟩
            rw [← hm2] at hI2 hfr2 hn2 ho2 F1
            clear es hm2 hov fr1 p1 n1 o1
            obtain ⟨q, hq⟩ : ∃ q, q = o0 + 1 := ⟨_, rfl⟩
            have q1 : ¬ (q : Int) < (o0 : Int) := by omega
            have q2 : ¬ (o0 : Int) + 1 < (q : Int) := by omega
            have q3 : (o0 : Int) < (q : Int) := by omega
            have HOV : Hid (∀ v, RdAt v b m2 → Calls Try.prog 20 #[.pointer (some ⟨b, 0, none⟩)] v fun e w' => e = .returned (.int .i64 (q : Int)) ∧ w' = v) := fun v hv => by
              rw [hq, ← ho2]
              exact over_any hv
            have HF1 := Lib.hid F1
            have HI2 := Lib.hid hI2
            have HFR0 := Lib.hid hfr2
            have HN2 := Lib.hid hn2
            have HO2 : Hid (m2.o ≤ i + 1) := by
              have := HOI.out
              show m2.o ≤ i + 1
              omega
            clear F1 hI2 hfr2 hn2 ho2 hq
            go_wp2_with (go_at_call 20; refine (HOV.out _ HF1.out.mm).mono ?_; rintro e w6 ⟨rfl, hw⟩; subst w6)
            clear HOV
            go_loopw [16] (fun vk wx => ∃ j : Nat, vk = .int .i64 j ∧ j ≤ n ∧ Hid (Fair W wx b gf gs m2 f1 (clr s1 j))) (fun vk _ => n - (intOf vk).toNat)
            case atStart => exact ⟨0, rfl, Nat.zero_le _, by rw [clr_zero]; exact HF1.out⟩
            case round =>
              clear HF1
              obtain ⟨j, rfl, hj, HQ⟩ := hrel
              by_cases hjn : j < n
              · have hjn' : (j : Int) < (n : Int) := by omega
                have j8 : (j : Int) < 8 := by omega
                obtain ⟨cf1, _, cf3⟩ := HQ.out.getF (k := j) (by omega)
                obtain ⟨cs1, cs2, cs3⟩ := HQ.out.getS (k := j) (by omega)
                rw [clr_at] at cs1
                have HNX : Hid (Fair W (wr.setCell ⟨gs, j, none⟩ (.int .i64 0)) b gf gs m2 f1 (clr s1 (j + 1))) := by
                  have x := HQ.out.setS j false
                  rw [clr_put] at x
                  exact x
                have hall := HALL.out j hjn
                clear HQ
                cases hfv : f1 j
                · have hsv : s1 j = true := by
                    rw [hfv] at hall
                    simpa using hall
                  rw [hfv] at cf1
                  rw [hsv] at cs1
                  replace cf1 : wr.cell? ⟨gf, j, none⟩ = some (.int .i64 0) := cf1
                  replace cs1 : wr.cell? ⟨gs, j, none⟩ = some (.int .i64 1) := cs1
                  clear hfv hsv hall
                  go_wp2
                  exact ⟨⟨j + 1, by first | rfl | (congr 1), by omega, HNX⟩, by simp [intOf]; omega⟩
                · rw [hfv] at cf1
                  replace cf1 : wr.cell? ⟨gf, j, none⟩ = some (.int .i64 1) := cf1
                  clear hfv hall
                  generalize numB (s1 j) = y at cs1
                  go_wp2
                  exact ⟨⟨j + 1, by first | rfl | (congr 1), by omega, HNX⟩, by simp [intOf]; omega⟩
              · have hjn' : ¬ (j : Int) < (n : Int) := by omega
                obtain rfl : j = n := by omega
                obtain ⟨s2, hs2⟩ : ∃ s2, s2 = clr s1 j := ⟨_, rfl⟩
                rw [← hs2] at HQ HFR0
                obtain ⟨u, hu⟩ : ∃ u, u = wr := ⟨_, rfl⟩
                rw [← hu] at HQ ⊢
                clear hs2 hu HALL
                have HF2 := HQ
                have HFR := HFR0
                clear HQ HFR0
                go_wp2_with fail
                go_loopw [17, 18, 19] (fun vd vl vk wx => ∃ (k : Nat) (p : Option Addr) (nn c lf : Nat), vd = .slice p nn c ∧ vl = .int .i64 (lf : Int) ∧ vk = .int .i64 k ∧ k ≤ j ∧ nn = (dueU m2 k).length ∧ lf = cntU f1 k ∧ Hid (Grow u.heap.size u wx p c (dueU m2 k))) (fun _ _ vk _ => j - (intOf vk).toNat)
                case atStart => exact ⟨0, none, 0, 0, 0, rfl, rfl, rfl, Nat.zero_le _, rfl, rfl, grow_nil (Below.refl _ _)⟩
                case round =>
                  obtain ⟨k, p, nn, c, lf, rfl, rfl, rfl, hj, hnn, hlf, HQ⟩ := hrel
                  have hF := HF2.out.on HQ.out.below
                  have hl8 : lf ≤ 8 := by have := cntU_le f1 k; omega
                  have HL8 := Lib.hid hl8
                  by_cases hkj : k < j
                  · have hkj' : (k : Int) < (j : Int) := by omega
                    have k8 : (k : Int) < 8 := by omega
                    obtain ⟨cf1, _, cf3⟩ := hF.getF (k := k) (by omega)
                    obtain ⟨cs1, _, cs3⟩ := hF.getS (k := k) (by omega)
                    have hd := fr_due HFR.out (k := k) (by rw [HN2.out]; exact hkj)
                    have hle := dueU_len m2 k
                    have HLE : Hid ((dueU m2 k).length ≤ 8) := Lib.hid (by omega)
                    have HSZ : Hid (u.heap.size ≤ wr.heap.size) := HQ.out.below.size
                    clear hle hF
                    cases hfv : f1 k
                    · cases hsv : s2 k
                      · have e : dueU m2 (k + 1) = dueU m2 k ++ [(k : Int)] := by rw [dueU_succ, hd]; simp [hfv, hsv]
                        have ec : cntU f1 (k + 1) = cntU f1 k + 1 := by simp [cntU, hfv]
                        rw [hfv] at cf1
                        rw [hsv] at cs1
                        replace cf1 : wr.cell? ⟨gf, k, none⟩ = some (.int .i64 0) := cf1
                        replace cs1 : wr.cell? ⟨gs, k, none⟩ = some (.int .i64 0) := cs1
                        clear hfv hsv hd
                        generalize dueU m2 k = l at HQ HLE e hnn
                        generalize cntU f1 k = lc at hlf ec
                        subst hnn hlf
                        have HO : Hid (∀ v, Same wr v → v.ownsRow u.heap.size 3 1 (.slice p l.length c) l.length (i64s l)) := fun v hv => (HQ.out.same hv).own
                        have EE := Lib.hid e
                        have EC := Lib.hid ec
                        clear e ec
                        go_wp2_with (at_builtin; refine wpList_append_own_at _ rfl _ _ 26 rfl u.heap.size 3 i0 (.int .i64 0) 1 8 Try.underlying26 HZI.out.1 HZI.out.2.1 HZI.out.2.2.1 HZI.out.2.2.2 rfl (by decide) _ l.length (i64s l) rfl (World.ownsRow.alloc (HO.out _ (by first | exact Same.refl _ | exact Same.drew _ | exact Same.drewN _ _)) _) ⟨wr.heap.size, 0, none⟩ 1 1 [Value.int .i64 (k : Int)] rfl rfl (cell_one_new _ _ _) (fun v hv => by simp at hv; subst hv; rfl) (by have := HLE.out; unfold maxLen; omega) (by have := HLE.out; omega) (by have := HSZ.out; simp; omega) ?_; intro v3 w3 hown3 hgrow3 hnil3 hat3; obtain ⟨p', c', hv3, q1⟩ := HQ.out.app HSZ.out hown3 hgrow3; subst hv3; have HQ3 := Lib.hid q1; clear hown3 hgrow3 hnil3 hat3 q1 HO)
                        exact ⟨⟨k + 1, p', _, c', _, rfl, by first | rfl | (congr 1), by first | rfl | (congr 1), by omega, by rw [EE.out]; simp, by rw [EC.out], by rw [EE.out]; exact HQ3⟩, by simp [intOf]; omega⟩
                      · have e : dueU m2 (k + 1) = dueU m2 k := by rw [dueU_succ, hd]; simp [hsv]
                        have ec : cntU f1 (k + 1) = cntU f1 k + 1 := by simp [cntU, hfv]
                        rw [hfv] at cf1
                        rw [hsv] at cs1
                        replace cf1 : wr.cell? ⟨gf, k, none⟩ = some (.int .i64 0) := cf1
                        replace cs1 : wr.cell? ⟨gs, k, none⟩ = some (.int .i64 1) := cs1
                        clear hfv hsv hd
                        have EE := Lib.hid e
                        have EC := Lib.hid ec
                        have ENN := Lib.hid hnn
                        have ELF := Lib.hid hlf
                        clear e ec hnn hlf
                        go_wp2
                        exact ⟨⟨k + 1, p, nn, c, lf + 1, rfl, by first | rfl | (congr 1), by first | rfl | (congr 1), by omega, by rw [EE.out]; exact ENN.out, by rw [EC.out, ELF.out], by rw [EE.out]; exact HQ⟩, by simp [intOf]; omega⟩
                    · have e : dueU m2 (k + 1) = dueU m2 k := by rw [dueU_succ, hd]; simp [hfv]
                      have ec : cntU f1 (k + 1) = cntU f1 k := by simp [cntU, hfv]
                      rw [hfv] at cf1
                      replace cf1 : wr.cell? ⟨gf, k, none⟩ = some (.int .i64 1) := cf1
                      clear hfv hd
                      have EE := Lib.hid e
                      have EC := Lib.hid ec
                      have ENN := Lib.hid hnn
                      have ELF := Lib.hid hlf
                      clear e ec hnn hlf
                      go_wp2
                      exact ⟨⟨k + 1, p, nn, c, lf, rfl, rfl, by first | rfl | (congr 1), by omega, by rw [EE.out]; exact ENN.out, by rw [EC.out]; exact ELF.out, by rw [EE.out]; exact HQ⟩, by simp [intOf]; omega⟩
                  · have hkj' : ¬ (k : Int) < (j : Int) := by omega
                    obtain rfl : k = j := by omega
                    have HFX := Lib.hid hF
                    have hld := left_due HI2.out HFR.out
                    rw [HN2.out, ← hlf, ← hnn] at hld
                    have HD : Hid (∀ v, Fair W v b gf gs m2 f1 s2 → Calls Try.prog 9 #[.pointer (some ⟨b, 0, none⟩)] v fun e w' => ∃ p c, e = .returned (.slice p nn c) ∧ IntsAt w' p nn (fun i => (dueU m2 k).getD i 0) ∧ Below v.heap.size v w') := fun v hv => (due_any hv.mm HI2.out.hi).mono fun e w' ⟨p, c, he, q1, q2, q3⟩ => by
                      have e2 : dueL m2 = dueU m2 k := by unfold dueL; rw [HN2.out]
                      rw [e2] at he q1
                      rw [hnn]
                      exact ⟨p, c, he, q1.ints, q3⟩
                    have HR1 : Hid (IntsAt wr p nn (fun i => (dueU m2 k).getD i 0)) := by
                      have q := HQ.out.row.1.ints
                      rw [← hnn] at q
                      exact q
                    have HNN : Hid (nn ≤ 9223372036854775807) := by
                      have := dueU_len m2 k
                      show nn ≤ _
                      omega
                    have HEND : Hid (∀ v, Fair W v b gf gs m2 f1 s2 → Head W v b gf gs k (i + 1)) := fun v hv => ⟨m2, f1, s2, HI2.out, HN2.out, HO2.out, HFR.out, hv⟩
                    clear hnn hlf hF HQ HF2 HI2 HFR HN2 HO2
                    by_cases hp : 0 < lf
                    · have hp2 := hld.1 hp
                      have hp' : (0 : Int) < (lf : Int) := by omega
                      have hp2' : (0 : Int) < (nn : Int) := by omega
                      clear hld
                      go_wp2_with (first
                        | (go_at_call 13; refine (same_any _ _ HNN.out R2.out.1 R2.out.2.1).mono ?_; rintro e w6 ⟨rfl, hw⟩; have HG6 := Lib.hid (HEND.out _ (R2.out.2.2.on (hw.below _))); clear hw)
                        | (go_at_call 9; refine (HD.out _ HFX.out).mono ?_; rintro e w5 ⟨p2, c2, rfl, q1, q3⟩; have R2 := Lib.hid (And.intro q1 (And.intro (HR1.out.on q3) (HFX.out.on q3))); clear q1 q3))
                      exact ⟨⟨i + 1, by first | rfl | (congr 1), by omega, HG6⟩, by simp [intOf]; omega⟩
                    · have hp2 : ¬ 0 < nn := fun q => hp (hld.2 q)
                      have hp' : ¬ (0 : Int) < (lf : Int) := by omega
                      have hp2' : ¬ (0 : Int) < (nn : Int) := by omega
                      clear hld
                      go_wp2_with (first
                        | (go_at_call 13; refine (same_any _ _ HNN.out R2.out.1 R2.out.2.1).mono ?_; rintro e w6 ⟨rfl, hw⟩; have HG6 := Lib.hid (HEND.out _ (R2.out.2.2.on (hw.below _))); clear hw)
                        | (go_at_call 9; refine (HD.out _ HFX.out).mono ?_; rintro e w5 ⟨p2, c2, rfl, q1, q3⟩; have R2 := Lib.hid (And.intro q1 (And.intro (HR1.out.on q3) (HFX.out.on q3))); clear q1 q3))
                      exact ⟨⟨i + 1, by first | rfl | (congr 1), by omega, HG6⟩, by simp [intOf]; omega⟩
    · have hlt' : ¬ (i : Int) < (len : Int) := by omega
      have HB := Lib.hid hF.below
      clear hF hI hFR
      go_wp2
      go_ret
      exact ⟨rfl, HB.out⟩
theorem walk (a0 : Int) (o1 : Option Addr) (l1 c1 : Nat) (K1 T1 : Nat → Int) (_w0 : (Lit.int .i64 a0).wf = true) (_fm1 : l1 ≤ maxLen) (fz1 : l1 * 16 ≤ reachBytes) (W : World) (fW1 : RopsAt W o1 l1 K1 T1) : Calls Try.prog 6 #[.int .i64 a0, .slice o1 l1 c1] W fun r W2 => r = .returned (.bool true) ∧ Below W.heap.size W W2 := by
  cases ht : mayT a0
  · exact walk_no a0 _ ht W
  · obtain ⟨n, rfl, h1, h8⟩ := mayT_nat ht
    exact walk_yes n h1 h8 o1 l1 c1 K1 T1 (by unfold reachBytes at fz1; omega) W fW1

set_option maxRecDepth 100000 in
theorem lifted (os : Os) (started : os.Started) (H : Type) (enc : TypeId × Value → H) :
    ReturnsInHanded {} Try.checked os 6 .any (Rows.schedFairSpec.pre6 enc Try.prog Try.f6 Rows.schedFairRow.domain false) (Rows.schedFairSpec.post enc Try.prog Try.f6 false true false false) := by
  refine returnsInHanded_of_change_sized (C := Try.checked) ownK started (by kernel_rfl) Try.func6
    (ChangeSpec.witness6 (enc := enc) (C := Try.checked) false ⟨#[], #[.int .i64 0, .slice none 0 0], []⟩ 8 (by kernel_rfl) (by kernel_rfl) (by kernel_rfl) (by kernel_rfl)) ?_
  intro W base args ds gs before hval0 hW _ hsz0 _
  have hval : ∀ (j : Nat) t v, Try.f6.params[j]? = some t → args[j]? = some v → Value.okWide Try.prog W .any base t v := hval0
  have hW2 := hW
  obtain ⟨p, q, hA0, hV, rfl, _, _⟩ := hW
  have hA : DataW.TrodAll enc Try.prog W 0 (fun _ => true) true Try.f6.params.toList args.toList ds p := hA0
  have hsz : (DataW.weightsEach Try.prog (Try.f6.params.toList ++ Rows.schedFairSpec.plain.varTypes Try.prog) (ds ++ gs)).all (· ≤ reachBytes) = true := hsz0
  clear hsz0
  rw [Try.params6] at hA hval hsz
  obtain ⟨v0, vs0, d0, ds0, p0, q0, hargs, rfl, rfl, h0, r0⟩ := trodAll_cons hA
  obtain ⟨v1, vs1, d1, ds1, p1, q1, rfl, rfl, rfl, h1, r1⟩ := trodAll_cons r0
  obtain ⟨rfl, rfl, rfl⟩ := trodAll_nil r1
  obtain rfl : args = #[v0, v1] := by cases args; simp_all
  obtain ⟨rfl, rfl⟩ := trodVars_none hV
  obtain ⟨a0, rfl, rfl, rfl, w0⟩ := open_int Try.underlying3 (hval 0 3 v0 rfl rfl) h0
  obtain ⟨o1, l1, c1, K1, T1, rfl, fm1, fz1, fW1⟩ := open_rops (hval 1 33 v1 rfl rfl) h1
  have fz1 := fz1 hsz (j := 1) rfl rfl
  clear hA0 hval0
  simp only [List.append_nil] at hW2
  have hlt : ∀ x ∈ p1, x.block < W.heap.size := fun x hx => by simpa using hW2.lt x (by simpa using hx)
  refine (walk a0 o1 l1 c1 K1 T1 w0 fm1 fz1 W fW1).mono fun e W2 ⟨he, hnx⟩ => ?_
  subst he
  exact ⟨_, rfl, _, _, _, [], _, [], hW2, trodAll_mk1 (shut_bool Try.underlying4 _), (trodAll_cons_mk (shut_int Try.underlying3 w0) (trodAll_cons_mk (Below.trod laidOut (by kernel_rfl) (of_decide_eq_true (by kernel_rfl)) h1 hnx (fun x hx => hlt x (by first | simpa using hx | (simp at hx ⊢; simp [hx])))) trodAll_mk0)), rfl, hnx.frame _, fun h => by cases h⟩

/-- the statement -/
theorem proved : Rows.SchedFairSaid :=
  OpenClaim.holds_of_wide 6 Try.f6 rfl rfl rfl rfl rfl rfl rfl ⟨rfl, rfl, rfl, rfl, rfl⟩ rfl rfl rfl rfl rfl (by kernel_rfl) Try.func6 (by kernel_rfl)
    (of_decide_eq_true (by kernel_rfl)) (by unfold Func.isWrapper; first | (rw [if_pos (by decide +kernel)]; kernel_rfl) | (rw [if_neg (by decide +kernel)]; exact ⟨rfl, rfl⟩))
    (fun os started H enc _ => lifted os started H enc)
end Go.Proofs.Ytifiebgmjpjakaa.schedFair
