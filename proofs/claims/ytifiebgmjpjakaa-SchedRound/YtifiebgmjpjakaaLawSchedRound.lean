/- For every number of threads, every script and every turn the statement SchedRound answers true: whatever came before, the next round takes just the steps of those who are due, and the one behind it each thread's that has not finished, in any order of its own that the turn picks. No condition. -/
import Derived.Test.YtifiebgmjpjakaaDO
import Derived.Test.YtifiebgmjpjakaaDR
namespace Go.Proofs.Ytifiebgmjpjakaa.schedRound
open Go.ChangeShapes Go.WideShapes Go.ChangeAt Go.RowKit

set_option maxHeartbeats 4000000 in
set_option maxRecDepth 100000 in
theorem walk_no (a0 : Int) (v v2 : Value) (ht : mayT a0 = false) (W : World) : Calls Try.prog 7 #[.int .i64 a0, v, v2] W fun r W2 => r = .returned (.bool true) ∧ Below W.heap.size W W2 := by
  have HN := Lib.hid (new_no a0 ht)
  have ht := of_decide_eq_false ht
  by_cases h1 : a0 < 1
  · clear ht
    go_enter Try.func7, Try.ntmps7
    go_wp2_with (first
      | (go_at_call 10; refine (live_any _).mono ?_; rintro e w1 ⟨rfl, hb⟩; have HB1 := Lib.hid hb; clear hb)
      | (go_at_call 8; refine (HN.out _).mono ?_; rintro e w2 ⟨rfl, hw⟩; subst w2))
    go_ret
    exact ⟨by simp, HB1.out⟩
  · have h2 : 8 < a0 := by omega
    clear ht
    go_enter Try.func7, Try.ntmps7
    go_wp2_with (first
      | (go_at_call 10; refine (live_any _).mono ?_; rintro e w1 ⟨rfl, hb⟩; have HB1 := Lib.hid hb; clear hb)
      | (go_at_call 8; refine (HN.out _).mono ?_; rintro e w2 ⟨rfl, hw⟩; subst w2))
    go_ret
    exact ⟨by simp, HB1.out⟩
set_option maxHeartbeats 8000000 in
set_option maxRecDepth 100000 in
theorem walk_yes (n : Nat) (h1 : 1 ≤ n) (h8 : n ≤ 8) (ao : Option Addr) (len cap : Nat) (K T : Nat → Int) (tn : Int) (hz : len * 16 ≤ 140737488355328) (W : World) (hops : RopsAt W ao len K T) : Calls Try.prog 7 #[.int .i64 (n : Int), .slice ao len cap, .int .i64 tn] W fun r W2 => r = .returned (.bool true) ∧ Below W.heap.size W W2 := by
  have HN := Lib.hid (new_yes n h1 h8)
  have HIN := Lib.hid (new_inv n h1 h8)
  have HOPS := Lib.hid hops
  have hmm : len ≤ 9223372036854775807 := by omega
  clear hops
  have k1 : ¬ (n : Int) < 1 := by omega
  have k2 : ¬ (8 : Int) < (n : Int) := by omega
  go_enter Try.func7, Try.ntmps7
  go_wp2_with (first
    | (go_at_call 8; refine (HN.out _).mono ?_; rintro e w2 ⟨rfl, q1, q2⟩; obtain ⟨b, hb⟩ : ∃ b, b = w1.heap.size := ⟨_, rfl⟩; rw [← hb]; rw [← hb] at q1; have HF := Lib.hid (own_new HB1.out hb q1 q2); clear q1 q2 hb)
    | (go_at_call 10; refine (live_any _).mono ?_; rintro e w1 ⟨rfl, hb⟩; have HB1 := Lib.hid hb; clear hb))
  go_loopw [50] (fun vi wr => ∃ i : Nat, vi = .int .i64 i ∧ i ≤ len ∧ Hid (HeadR W wr b n i)) (fun vi _ => len - (intOf vi).toNat)
  case atStart => exact ⟨0, rfl, Nat.zero_le _, ⟨newR n, HIN.out, rfl, Nat.le_refl _, HF.out⟩⟩
  case round =>
    clear HF HIN HN HB1
    obtain ⟨i, rfl, hi, HH⟩ := hrel
    obtain ⟨m, hI, hN, hO, hF⟩ := HH.out
    clear HH
    have ho : m.o + 20 < 9223372036854775807 := by omega
    by_cases hlt : i < len
    · have hlt' : (i : Int) < (len : Int) := by omega
      obtain ⟨b0, off, hao, hbW, k0, k1⟩ := HOPS.out i hlt
      subst hao
      rw [← hF.below.cell (p := ⟨b0, off + i * 2, none⟩) hbW] at k0
      rw [← hF.below.cell (p := ⟨b0, off + i * 2 + 1, none⟩) hbW] at k1
      have hbw : b0 < wr.heap.size := Nat.lt_of_lt_of_le hbW hF.below.size
      generalize K i = kk at k0
      generalize T i = tt at k1
      have hP := hF.on ((Below.refl _ _).alloc (Nat.le_refl _) (.cells #[.int .i64 kk, .int .i64 tt] 38))
      clear hbW HOPS hF
      by_cases h1 : kk = 1
      · subst h1
        have HS := Lib.hid (step_any hP.at_ tt hI.hi (by omega))
        have HNX : Hid (∀ w', RdAt w' b (stepM m tt) → Turn [b] [b] (wr.alloc (.cells #[.int .i64 1, .int .i64 tt] 38)) w' → HeadR W w' b n (i + 1)) := fun w' q1 q2 => ⟨_, stepM_inv hI tt, by rw [stepM_n]; exact hN, by have := (stepM_o m tt).2; omega, hP.go q1 q2⟩
        generalize errT m tt = z at HS
        generalize stepM m tt = m' at HS HNX
        clear hP hI
        go_wp2_with (go_at_call 15; refine HS.out.mono ?_; rintro e w4 ⟨rfl, q1, q2⟩; have HG := Lib.hid (HNX.out _ q1 q2); clear q1 q2)
        exact ⟨⟨i + 1, by first | rfl | (congr 1), by omega, HG⟩, by simp [intOf]; omega⟩
      by_cases h2 : kk = 2
      · subst h2
        have HS := Lib.hid (fin_any hP.at_ tt hI.hi (by omega))
        have HNX : Hid (∀ w', RdAt w' b (finM m tt) → Turn [b] [b] (wr.alloc (.cells #[.int .i64 2, .int .i64 tt] 38)) w' → HeadR W w' b n (i + 1)) := fun w' q1 q2 => ⟨_, finM_inv hI tt, by rw [finM_n]; exact hN, by have := (finM_o m tt).2; omega, hP.go q1 q2⟩
        generalize errT m tt = z at HS
        generalize finM m tt = m' at HS HNX
        clear hP hI
        go_wp2_with (go_at_call 17; refine HS.out.mono ?_; rintro e w4 ⟨rfl, q1, q2⟩; have HG := Lib.hid (HNX.out _ q1 q2); clear q1 q2)
        exact ⟨⟨i + 1, by first | rfl | (congr 1), by omega, HG⟩, by simp [intOf]; omega⟩
      have HG : Hid (HeadR W (wr.alloc (.cells #[.int .i64 kk, .int .i64 tt] 38)) b n (i + 1)) := ⟨m, hI, hN, by omega, hP⟩
      clear hP hI
      go_wp2
      exact ⟨⟨i + 1, by first | rfl | (congr 1), by omega, HG⟩, by simp [intOf]; omega⟩
    · have hlt' : ¬ (i : Int) < (len : Int) := by omega
      have HP0 := Lib.hid hF
      have HP := Lib.hid hI.pre
      obtain ⟨ov, hov⟩ : ∃ ov, ov = m.o := ⟨_, rfl⟩
      have HOV0 : Hid (∀ v, Own W v b m → Calls Try.prog 20 #[.pointer (some ⟨b, 0, none⟩)] v fun e w' => e = .returned (.int .i64 (ov : Int)) ∧ w' = v) := fun v hv => by
        rw [hov]
        exact over_any hv.at_
      obtain ⟨N, hNN⟩ : ∃ N, N = (dueD m).length := ⟨_, rfl⟩
      have HD0 : Hid (∀ v, Own W v b m → Calls Try.prog 9 #[.pointer (some ⟨b, 0, none⟩)] v fun e w' => ∃ p c, e = .returned (.slice p N c) ∧ Rnd W w' b m p c (dueL m)) := fun v hv => (due_any hv.at_ hI.hi).mono fun e w' ⟨p, c, he, q1, q2, q3⟩ => ⟨p, c, by rw [he, hNN, dueD_len], rnd_new hv q1 q2 q3⟩
      have n8 : N ≤ 8 := by rw [hNN]; exact dueD_le hI.pre
      have hov9 : ov + 20 < 9223372036854775807 := by omega
      have HOE := Lib.hid hov
      have HNE := Lib.hid hNN
      clear hF hI HOPS hov hNN ho hO
      by_cases h0 : N = 0
      · subst h0
        go_wp2_with (first
          | (go_at_call 9; refine (HD0.out _ HP0.out).mono ?_; rintro e w5 ⟨pd, cd, rfl, q1⟩; have HR := Lib.hid q1; clear q1)
          | (go_at_call 20; refine (HOV0.out _ HP0.out).mono ?_; rintro e w5 ⟨rfl, hw⟩; subst w5))
        go_loopw [14] (fun vi wx => ∃ j : Nat, vi = .int .i64 j ∧ j = 0 ∧ wx = w5) (fun _ _ => 0)
        case atStart => exact ⟨0, rfl, rfl, rfl⟩
        case round =>
          obtain ⟨j, rfl, rfl, hw⟩ := hrel
          subst hw
          go_wp2_with (go_at_call 20; refine (HOV0.out _ HR.out.own).mono ?_; rintro e w6 ⟨rfl, hw⟩; subst w6)
          go_ret
          exact ⟨by simp, HR.out.own.below⟩
      · have hN0 : 0 < N := by omega
        have hNz : ((N : Int) == 0) = false := by simp; omega
        go_wp2_with (first
          | (go_at_call 9; refine (HD0.out _ HP0.out).mono ?_; rintro e w5 ⟨pd, cd, rfl, q1⟩; have HR := Lib.hid q1; clear q1)
          | (go_at_call 20; refine (HOV0.out _ HP0.out).mono ?_; rintro e w5 ⟨rfl, hw⟩; subst w5))
        clear HD0 HOV0 HP0
        have HT1 : Hid (Tells m (fun j => (dueD m).getD j 0) N) := by
          show Tells m (fun j => (dueD m).getD j 0) N
          rw [HNE.out]
          exact tells_first HP.out
        go_loopw [14] (fun vi wx => ∃ j : Nat, vi = .int .i64 j ∧ j ≤ N ∧ Hid (Rnd W wx b (stR m (fun j => (dueD m).getD j 0) N j) pd cd (dueL m))) (fun vi _ => N - (intOf vi).toNat)
        case atStart => exact ⟨0, rfl, Nat.zero_le _, by rw [stR_zero hN0]; exact HR.out⟩
        case round =>
          clear HR
          obtain ⟨j, rfl, hj, HQ⟩ := hrel
          by_cases hjn : j < N
          · have hjn' : (j : Int) < (N : Int) := by omega
            have hq := HQ.out
            obtain ⟨g, hpd, g1, g2⟩ := due_row hq.row (dueL_D m) (i := j) (by rw [← HNE.out]; exact hjn)
            have HOV := Lib.hid (over_any hq.own.at_)
            rw [stR_lt hjn, ← HOE.out] at HOV
            have HS := Lib.hid (step_any hq.own.at_ (((dueD m).getD j 0 : Nat) : Int) (by rw [stR_n]; exact HP.out.hi) (by have := stR_o m (fun j => (dueD m).getD j 0) N j; have := HOE.out; omega))
            have hst := stR_step HP.out HT1.out hjn
            replace hst : stepM (stR m (fun j => (dueD m).getD j 0) N j) (((dueD m).getD j 0 : Nat) : Int) = stR m (fun j => (dueD m).getD j 0) N (j + 1) := hst
            rw [hst] at HS
            generalize errT (stR m (fun j => (dueD m).getD j 0) N j) (((dueD m).getD j 0 : Nat) : Int) = z at HS
            have HNX : Hid (∀ w', RdAt w' b (stR m (fun j => (dueD m).getD j 0) N (j + 1)) → Turn [b] [b] wr w' → Rnd W w' b (stR m (fun j => (dueD m).getD j 0) N (j + 1)) pd cd (dueL m)) := fun w' q1 q2 => hq.go q1 q2
            obtain ⟨mj, hmj⟩ : ∃ mj, mj = stR m (fun j => (dueD m).getD j 0) N (j + 1) := ⟨_, rfl⟩
            rw [← hmj] at HS HNX
            have HMJ := Lib.hid hmj
            clear hmj
            generalize (dueD m).getD j 0 = y at HS g2
            clear hq HQ hst
            subst hpd
            go_wp2_with (first
              | (go_at_call 20; refine HOV.out.mono ?_; rintro e w6 ⟨rfl, hw⟩; subst w6; clear HOV)
              | (go_at_call 15; refine HS.out.mono ?_; rintro e w7 ⟨rfl, q1, q2⟩; have HG := Lib.hid (HNX.out _ q1 q2); clear q1 q2))
            exact ⟨⟨j + 1, by first | rfl | (congr 1), by omega, by rw [← HMJ.out]; exact HG⟩, by simp [intOf]; omega⟩
          · have hjn' : ¬ (j : Int) < (N : Int) := by omega
            obtain rfl : j = N := by omega
            have hq := HQ.out
            rw [stR_end] at hq
            have hp2 := end_pre HP.out
            obtain ⟨N2, hN2⟩ : ∃ N2, N2 = (dueD (endS m)).length := ⟨_, rfl⟩
            have n28 : N2 ≤ 8 := by rw [hN2]; exact dueD_le hp2
            have n20 : 0 < N2 := by rw [hN2]; exact end_some HP.out (by rw [← HNE.out]; exact hN0)
            have HOW := Lib.hid hq.own
            have HP2 := Lib.hid hp2
            have HN2 := Lib.hid hN2
            have HOE2 := Lib.hid (show (endS m).o = ov + 1 by rw [HOE.out]; rfl)
            have HDD := Lib.hid (show dueL (endS (endS m)) = dueL (endS m) from rfl)
            clear hq HQ hp2 hN2 HT1 HNE HP
            generalize endS m = m2 at HOW HP2 HN2 HOE2 HDD
            have HOV1 : Hid (∀ v, Own W v b m2 → Calls Try.prog 20 #[.pointer (some ⟨b, 0, none⟩)] v fun e w' => e = .returned (.int .i64 ((ov : Int) + 1)) ∧ w' = v) := fun v hv => by
              have q := over_any hv.at_
              rw [HOE2.out] at q
              exact q
            have HD1 : Hid (∀ v, Own W v b m2 → Calls Try.prog 9 #[.pointer (some ⟨b, 0, none⟩)] v fun e w' => ∃ p c, e = .returned (.slice p N2 c) ∧ Rnd W w' b m2 p c (dueL m2)) := fun v hv => (due_any hv.at_ HP2.out.hi).mono fun e w' ⟨p, c, he, q1, q2, q3⟩ => ⟨p, c, by rw [he, HN2.out, dueD_len], rnd_new hv q1 q2 q3⟩
            have hz2 : ((N2 : Int) == 0) = false := by simp; omega
            have hz3 : ¬ (8 : Int) < (N2 : Int) := by omega
            have hz4 : (N2 : Int) ≠ 0 := by omega
            go_upto_if 120 with (first
              | (go_at_call 20; refine (HOV1.out _ HR2.out.own).mono ?_; rintro e w7 ⟨rfl, hw⟩; subst w7)
              | (go_at_call 9; refine (HD1.out _ HOW.out).mono ?_; rintro e w6 ⟨pl, cl, rfl, q1⟩; have HR2 := Lib.hid q1; clear q1))
            obtain ⟨kn, hkn⟩ : ∃ kn : Nat, tn % (N2 : Int) = (kn : Int) := ⟨(tn % (N2 : Int)).toNat, by have := Int.emod_nonneg tn hz4; omega⟩
            have hkl : kn < N2 := by have := Int.emod_lt_of_pos tn (show (0 : Int) < (N2 : Int) by omega); omega
            have HRNG := Lib.hid (tmod_range tn (N2 : Int) (by omega))
            have HKN := Lib.hid hkn
            clear hkn
            go_cut [17] (fun v17 wc => v17 = .int .i64 (kn : Int) ∧ wc = w6)
            case first =>
              by_cases hneg : tn.tmod (N2 : Int) < 0
              · have HE := Lib.hid (show wrap64 (tn.tmod (N2 : Int) + (N2 : Int)) = (kn : Int) by
                  have r := HRNG.out
                  rw [Go.IntWalk.wrap64_in _ ⟨by omega, by omega⟩, ← HKN.out]
                  exact tmod_neg tn (N2 : Int) (by omega) hneg)
                go_wp2
                go_meet
                exact ⟨by rw [HE.out], rfl⟩
              · have HE := Lib.hid (show tn.tmod (N2 : Int) = (kn : Int) by
                  rw [← HKN.out]
                  exact tmod_pos tn (N2 : Int) (by omega) (by omega))
                go_wp2
                go_meet
                exact ⟨by rw [HE.out], rfl⟩
            case rest =>
              obtain ⟨rfl, hw⟩ := hcut
              subst wc
              clear HRNG HKN HD1 HOW
              go_wp2_with fail
              have HT2 : Hid (Tells m2 (fun j => (dueD m2).getD ((j + kn) % N2) 0) N2) := by
                have q := tells_first HP2.out
                rw [← HN2.out] at q
                exact tells_rot q hkl
              go_loopw [18] (fun vi wx => ∃ e : Nat, vi = .int .i64 e ∧ e ≤ N2 ∧ Hid (Rnd W wx b (stR m2 (fun j => (dueD m2).getD ((j + kn) % N2) 0) N2 e) pl cl (dueL m2))) (fun vi _ => N2 - (intOf vi).toNat)
              case atStart => exact ⟨0, rfl, Nat.zero_le _, by rw [stR_zero n20]; exact HR2.out⟩
              case round =>
                clear HR2 HOV1
                obtain ⟨e, rfl, he, HQ⟩ := hrel
                by_cases hen : e < N2
                · have hen' : (e : Int) < (N2 : Int) := by omega
                  have hq := HQ.out
                  obtain ⟨t, ht⟩ : ∃ t, t = (e + kn) % N2 := ⟨_, rfl⟩
                  have htl : t < N2 := by rw [ht]; exact Nat.mod_lt _ n20
                  have htl' : (t : Int) < (N2 : Int) := by omega
                  obtain ⟨g, hpd, g1, g2⟩ := due_row hq.row (dueL_D m2) (i := t) (by rw [← HN2.out]; exact htl)
                  have hr1 : ((e : Int) + (kn : Int)).tmod (N2 : Int) = (t : Int) := by rw [ht]; exact rem_nat
                  have HOV := Lib.hid (over_any hq.own.at_)
                  rw [stR_lt hen, HOE2.out] at HOV
                  replace HOV : Hid (Calls Try.prog 20 #[.pointer (some ⟨b, 0, none⟩)] wr fun e w' => e = .returned (.int .i64 ((ov : Int) + 1)) ∧ w' = wr) := HOV
                  have HS := Lib.hid (step_any hq.own.at_ (((dueD m2).getD t 0 : Nat) : Int) (by rw [stR_n]; exact HP2.out.hi) (by have := stR_o m2 (fun j => (dueD m2).getD ((j + kn) % N2) 0) N2 e; have := HOE2.out; omega))
                  have hst := stR_step HP2.out HT2.out hen
                  replace hst : stepM (stR m2 (fun j => (dueD m2).getD ((j + kn) % N2) 0) N2 e) (((dueD m2).getD ((e + kn) % N2) 0 : Nat) : Int) = stR m2 (fun j => (dueD m2).getD ((j + kn) % N2) 0) N2 (e + 1) := hst
                  rw [← ht] at hst
                  rw [hst] at HS
                  generalize errT (stR m2 (fun j => (dueD m2).getD ((j + kn) % N2) 0) N2 e) (((dueD m2).getD t 0 : Nat) : Int) = z at HS
                  have HNX : Hid (∀ w', RdAt w' b (stR m2 (fun j => (dueD m2).getD ((j + kn) % N2) 0) N2 (e + 1)) → Turn [b] [b] wr w' → Rnd W w' b (stR m2 (fun j => (dueD m2).getD ((j + kn) % N2) 0) N2 (e + 1)) pl cl (dueL m2)) := fun w' q1 q2 => hq.go q1 q2
                  obtain ⟨mj, hmj⟩ : ∃ mj, mj = stR m2 (fun j => (dueD m2).getD ((j + kn) % N2) 0) N2 (e + 1) := ⟨_, rfl⟩
                  rw [← hmj] at HS HNX
                  have HMJ := Lib.hid hmj
                  generalize (dueD m2).getD t 0 = y at HS g2
                  clear hq HQ hst hmj ht
                  subst hpd
                  go_wp2_with (first
                    | (go_at_call 20; refine HOV.out.mono ?_; rintro e w8 ⟨rfl, hw⟩; subst w8; clear HOV)
                    | (go_at_call 15; refine HS.out.mono ?_; rintro e w9 ⟨rfl, q1, q2⟩; have HG := Lib.hid (HNX.out _ q1 q2); clear q1 q2))
                  exact ⟨⟨e + 1, by first | rfl | (congr 1), by omega, by rw [← HMJ.out]; exact HG⟩, by simp [intOf]; omega⟩
                · have hen' : ¬ (e : Int) < (N2 : Int) := by omega
                  obtain rfl : e = N2 := by omega
                  have hq := HQ.out
                  rw [stR_end] at hq
                  have HQQ := Lib.hid hq
                  have HOV2 : Hid (∀ v, Own W v b (endS m2) → Calls Try.prog 20 #[.pointer (some ⟨b, 0, none⟩)] v fun e w' => e = .returned (.int .i64 ((ov : Int) + 2)) ∧ w' = v) := fun v hv => by
                    have q := over_any hv.at_
                    have e1 : (((endS m2).o : Nat) : Int) = (ov : Int) + 2 := by
                      show ((m2.o + 1 : Nat) : Int) = _
                      rw [HOE2.out]
                      omega
                    rw [e1] at q
                    exact q
                  have hle : (dueL m2).length = e := by rw [dueD_len, HN2.out]
                  have HD2 : Hid (∀ v, Own W v b (endS m2) → Calls Try.prog 9 #[.pointer (some ⟨b, 0, none⟩)] v fun r w' => ∃ p c, r = .returned (.slice p e c) ∧ IntsAt w' p e (fun i => (dueL m2).getD i 0) ∧ Below v.heap.size v w') := fun v hv => (due_any hv.at_ HP2.out.hi).mono fun r w' ⟨p, c, hr, q1, q2, q3⟩ => by
                    rw [HDD.out] at hr q1
                    exact ⟨p, c, by rw [hr, hle], RowAt.one q1 hle (fun _ _ => rfl), q3⟩
                  have HR3 := Lib.hid (RowAt.one hq.row hle (fun _ _ => rfl))
                  have he9 : e ≤ 9223372036854775807 := by omega
                  have HE9 := Lib.hid he9
                  clear hq HQ hle he9
                  go_wp2_with (first
                    | (go_at_call 13; refine (same_any _ _ HE9.out R4.out.1 R4.out.2.1).mono ?_; rintro r w9 ⟨rfl, hw⟩; have HB9 := Lib.hid (R4.out.2.2.same hw).below; clear hw)
                    | (go_at_call 9; refine (HD2.out _ HQQ.out.own).mono ?_; rintro r w8 ⟨p8, c8, rfl, q1, q3⟩; have R4 := Lib.hid (And.intro q1 (And.intro (HR3.out.on q3) (HQQ.out.own.on q3))); clear q1 q3)
                    | (go_at_call 20; refine (HOV2.out _ HQQ.out.own).mono ?_; rintro r w8 ⟨rfl, hw⟩; subst w8))
                  go_ret
                  exact ⟨by simp, HB9.out⟩
theorem walk (a0 : Int) (o1 : Option Addr) (l1 c1 : Nat) (K1 T1 : Nat → Int) (a2 : Int) (_w0 : (Lit.int .i64 a0).wf = true) (_fm1 : l1 ≤ maxLen) (fz1 : l1 * 16 ≤ reachBytes) (_w2 : (Lit.int .i64 a2).wf = true) (W : World) (fW1 : RopsAt W o1 l1 K1 T1) : Calls Try.prog 7 #[.int .i64 a0, .slice o1 l1 c1, .int .i64 a2] W fun r W2 => r = .returned (.bool true) ∧ Below W.heap.size W W2 := by
  cases ht : mayT a0
  · exact walk_no a0 _ _ ht W
  · obtain ⟨n, rfl, h1, h8⟩ := mayT_nat ht
    exact walk_yes n h1 h8 o1 l1 c1 K1 T1 a2 (by unfold reachBytes at fz1; omega) W fW1

set_option maxRecDepth 100000 in
theorem lifted (os : Os) (started : os.Started) (H : Type) (enc : TypeId × Value → H) :
    ReturnsInHanded {} Try.checked os 7 .any (Rows.schedRoundSpec.pre6 enc Try.prog Try.f7 Rows.schedRoundRow.domain false) (Rows.schedRoundSpec.post enc Try.prog Try.f7 false true false false) := by
  refine returnsInHanded_of_change_sized (C := Try.checked) ownK started (by kernel_rfl) Try.func7
    (ChangeSpec.witness6 (enc := enc) (C := Try.checked) false ⟨#[], #[.int .i64 0, .slice none 0 0, .int .i64 0], []⟩ 8 (by kernel_rfl) (by kernel_rfl) (by kernel_rfl) (by kernel_rfl)) ?_
  intro W base args ds gs before hval0 hW _ hsz0 _
  have hval : ∀ (j : Nat) t v, Try.f7.params[j]? = some t → args[j]? = some v → Value.okWide Try.prog W .any base t v := hval0
  have hW2 := hW
  obtain ⟨p, q, hA0, hV, rfl, _, _⟩ := hW
  have hA : DataW.TrodAll enc Try.prog W 0 (fun _ => true) true Try.f7.params.toList args.toList ds p := hA0
  have hsz : (DataW.weightsEach Try.prog (Try.f7.params.toList ++ Rows.schedRoundSpec.plain.varTypes Try.prog) (ds ++ gs)).all (· ≤ reachBytes) = true := hsz0
  clear hsz0
  rw [Try.params7] at hA hval hsz
  obtain ⟨v0, vs0, d0, ds0, p0, q0, hargs, rfl, rfl, h0, r0⟩ := trodAll_cons hA
  obtain ⟨v1, vs1, d1, ds1, p1, q1, rfl, rfl, rfl, h1, r1⟩ := trodAll_cons r0
  obtain ⟨v2, vs2, d2, ds2, p2, q2, rfl, rfl, rfl, h2, r2⟩ := trodAll_cons r1
  obtain ⟨rfl, rfl, rfl⟩ := trodAll_nil r2
  obtain rfl : args = #[v0, v1, v2] := by cases args; simp_all
  obtain ⟨rfl, rfl⟩ := trodVars_none hV
  obtain ⟨a0, rfl, rfl, rfl, w0⟩ := open_int Try.underlying3 (hval 0 3 v0 rfl rfl) h0
  obtain ⟨o1, l1, c1, K1, T1, rfl, fm1, fz1, fW1⟩ := open_rops (hval 1 33 v1 rfl rfl) h1
  obtain ⟨a2, rfl, rfl, rfl, w2⟩ := open_int Try.underlying3 (hval 2 3 v2 rfl rfl) h2
  have fz1 := fz1 hsz (j := 1) rfl rfl
  clear hA0 hval0
  simp only [List.append_nil] at hW2
  have hlt : ∀ x ∈ p1, x.block < W.heap.size := fun x hx => by simpa using hW2.lt x (by simpa using hx)
  refine (walk a0 o1 l1 c1 K1 T1 a2 w0 fm1 fz1 w2 W fW1).mono fun e W2 ⟨he, hnx⟩ => ?_
  subst he
  exact ⟨_, rfl, _, _, _, [], _, [], hW2, trodAll_mk1 (shut_bool Try.underlying4 _), (trodAll_cons_mk (shut_int Try.underlying3 w0) (trodAll_cons_mk (Below.trod laidOut (by kernel_rfl) (of_decide_eq_true (by kernel_rfl)) h1 hnx (fun x hx => hlt x (by first | simpa using hx | (simp at hx ⊢; simp [hx])))) (trodAll_cons_mk (shut_int Try.underlying3 w2) trodAll_mk0))), rfl, hnx.frame _, fun h => by cases h⟩

/-- the statement -/
theorem proved : Rows.SchedRoundSaid :=
  OpenClaim.holds_of_wide 7 Try.f7 rfl rfl rfl rfl rfl rfl rfl ⟨rfl, rfl, rfl, rfl, rfl⟩ rfl rfl rfl rfl rfl (by kernel_rfl) Try.func7 (by kernel_rfl)
    (of_decide_eq_true (by kernel_rfl)) (by unfold Func.isWrapper; first | (rw [if_pos (by decide +kernel)]; kernel_rfl) | (rw [if_neg (by decide +kernel)]; exact ⟨rfl, rfl⟩))
    (fun os started H enc _ => lifted os started H enc)
end Go.Proofs.Ytifiebgmjpjakaa.schedRound
