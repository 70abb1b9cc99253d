/- For every cell, stamp, version, number and noise the statement CellsCost answers true: whatever the words are, and whoever changes them between, a read has two to four accesses, a write three, each step one, and behind them a step is refused. No condition. -/
import Derived.Test.YtmmijcmlnhmooaaEO
import Derived.Test.YtmmijcmlnhmooaaEK
import Derived.Deep.CutBlock
import Derived.Deep.DeepCutAuto
namespace Go.Proofs.Ytmmijcmlnhmooaa.cellsCost
open Go.ChangeShapes Go.WideShapes Go.ChangeAt Go.RowKit

set_option maxHeartbeats 8000000 in
set_option maxRecDepth 100000 in
theorem walk (k0 s e x : Int) (ao : Option Addr) (cap : Nat) (l : List Nat) (hmax : l.length ≤ maxLen) (W : World) (hl : BitsAt W ao l) : Calls Try.prog 7 #[.agg #[.int .i64 k0, .int .u64 s, .int .u64 e, .int .u64 x, .slice ao l.length cap]] W fun r W2 => r = .returned (.bool true) ∧ Below W.heap.size W W2 := by
  have HLV := Lib.hid live_any
  have HFR := Lib.hid fresh9_any
  obtain ⟨V, hV⟩ : ∃ V, W.alloc (.cells #[.int .i64 k0, .int .u64 s, .int .u64 e, .int .u64 x, .slice ao l.length cap] 77) = V := ⟨_, rfl⟩
  have HBX : Hid (∀ u, Below V.heap.size V u → (u.cell? ⟨W.heap.size, 0, none⟩ = some (.int .i64 k0) ∧ u.cell? ⟨W.heap.size, 1, none⟩ = some (.int .u64 s) ∧ u.cell? ⟨W.heap.size, 2, none⟩ = some (.int .u64 e) ∧ u.cell? ⟨W.heap.size, 3, none⟩ = some (.int .u64 x) ∧ u.cell? ⟨W.heap.size, 4, none⟩ = some (.slice ao l.length cap) ∧ W.heap.size < u.heap.size) ∧ Hid (Below W.heap.size W u)) := by subst hV; exact fun u k => ⟨box5 ((k.block _ (by simp)).trans (alloc_at rfl)), below_step (bl_alloc (Below.refl _ _) _) k⟩
  have HVE := Lib.hid hV
  have HNO : Hid (∀ u, Below V.heap.size V u → ∀ i, i < l.length → ∃ g o, ao = some ⟨g, o, none⟩ ∧ g < u.heap.size ∧ u.cell? ⟨g, o + i, none⟩ = some (.int .u64 ((l.getD i 0 : Nat) : Int))) := fun u k i hi => (hl.on (HBX.out u k).2.out (Nat.le_refl _)) i hi
  have HRD := Lib.hid (fun w c => read_any w 0 0 0 0 0 0 c s)
  have HWR := Lib.hid (fun w c => write_any w 0 0 0 0 0 0 c e x.toNat x.toNat)
  have hmax' : l.length ≤ 9223372036854775807 := hmax
  obtain ⟨m, hm⟩ : ∃ m, l.length = m := ⟨_, rfl⟩
  rw [hm] at HNO HBX HVE hmax' ⊢
  unfold planV at HRD HWR
  clear hV hl hmax
  go_enter Try.func7, Try.ntmps7
  go_wp2_with (first
    | (go_at_call 11; refine (HLV.out _).mono ?_; rintro r w1 ⟨rfl, hb⟩; rw [HVE.out] at hb; obtain ⟨⟨q0, q1, q2, q3, q4, q5⟩, _⟩ := HBX.out _ hb; have HB1 := Lib.hid hb; clear hb HLV))
  go_region_held (fun u => u.cell? ⟨W.heap.size, 0, none⟩ = some (.int .i64 k0) ∧ u.cell? ⟨W.heap.size, 1, none⟩ = some (.int .u64 s) ∧ u.cell? ⟨W.heap.size, 2, none⟩ = some (.int .u64 e) ∧ u.cell? ⟨W.heap.size, 3, none⟩ = some (.int .u64 x) ∧ u.cell? ⟨W.heap.size, 4, none⟩ = some (.slice ao m cap)) (go_keep) (fail)
  go_upto_if 50 with (first
    | (go_at_call 10; refine (HFR.out _).mono ?_; rintro r w2 ⟨bm, gm, rfl, hn, hm1, hb⟩; have HM2 := Lib.hid (mpl_new (below_step HB1.out (below_step (by repeat (first | exact Below.refl _ _ | refine bl_drew ?_ | refine bl_drewN _ ?_ | refine bl_alloc ?_ _ | refine bl_setCell ?_ (by simp) _ _ | refine bl_setRow ?_ (by simp) _)) hb)) hm1 (Nat.le_trans HB1.out.size hn.1) (Nat.le_trans HB1.out.size hn.2)); obtain ⟨p0, p1, p2, p3, p4, p5, p6⟩ := box6 HM2.out.pl; clear hn hm1 hb HFR HB1))
  obtain ⟨c, hc, HCC⟩ : ∃ c : Nat, c < 3 ∧ Hid (k0.tmod 3 = (c : Int) ∨ k0.tmod 3 = (c : Int) - 3 ∧ k0.tmod 3 < 0) := by
    rcases cost_cell k0 with ⟨c, h1, h2⟩ | ⟨c, h1, h2, h3⟩
    · exact ⟨c, h1, .inl h2⟩
    · exact ⟨c, h1, .inr ⟨h2, h3⟩⟩
  go_cut [11] (fun v11 wc => v11 = .int .i64 (c : Int) ∧ wc = w2.alloc (.cells (planC 0 0 0 0 0 0) 31))
  case first =>
    rcases HCC.out with h1 | ⟨h1, h2⟩
    · have h3 : ¬ ((c : Int) < 0) := by omega
      go_wp2
      go_meet
      exact ⟨rfl, rfl⟩
    · have h3 : wrap64 (k0.tmod 3 + 3) = (c : Int) := by rw [Go.IntWalk.wrap64_in _ ⟨by omega, by omega⟩]; omega
      clear h1
      go_wp2
      go_meet
      exact ⟨by first | rfl | rw [h3], rfl⟩
  case rest =>
    obtain ⟨rfl, hw⟩ := hcut
    subst wc
    obtain ⟨pb, hpb⟩ : ∃ pb, w2.heap.size = pb := ⟨_, rfl⟩
    obtain ⟨v2, hv2⟩ : ∃ v2, w2.alloc (.cells (planC 0 0 0 0 0 0) 31) = v2 := ⟨_, rfl⟩
    rw [hpb] at HM2 ⊢
    rw [hv2] at HM2 ⊢
    clear p0 p1 p2 p3 p4 p5 p6 hpb hv2
    obtain ⟨p0, p1, p2, p3, p4, p5, p6⟩ := box6 HM2.out.pl
    clear HCC
    go_wp2_with (first
      | (go_at_call 26; refine (HRD.out _ _).mono ?_; rintro r w3 ⟨br, rfl, hq, hr, hb⟩; have HM3 := Lib.hid (HM2.out.on hb); obtain ⟨p0, p1, p2, p3, p4, p5, p6⟩ := box6 HM3.out.pl; have HR3 := Lib.hid (And.intro hq (And.intro hr hb)); clear hq hr hb HRD))
    go_region_held (fun u => u.cell? ⟨pb, 0, none⟩ = some (.int .i64 0) ∧ u.cell? ⟨pb, 1, none⟩ = some (.int .i64 0) ∧ u.cell? ⟨pb, 2, none⟩ = some (.int .i64 0) ∧ u.cell? ⟨pb, 3, none⟩ = some (.int .i64 0) ∧ u.cell? ⟨pb, 4, none⟩ = some (.int .i64 0) ∧ u.cell? ⟨pb, 5, none⟩ = some (.int .i64 0)) (go_keep) (first
      | (go_at_call 24; refine (raw_int _ _).mono ?_; rintro r w4 ⟨rfl, hw⟩; subst w4)
      | (go_at_call 27; refine (HWR.out _ _).mono ?_; rintro r w4 ⟨bw, rfl, hq, ht, hb⟩; have HQ : Hid (Quad V w4 bm gm br bw pb [0, 0, 0, 0, 0, 0, 0, 0, 0] false 0 (newR 0 c s) (wt9 c (Num.fixB x.toNat) e 0)) := quad_new HM2.out HR3.out.1 HR3.out.2.1 HR3.out.2.2 hq ht (below_step (by repeat (first | exact Below.refl _ _ | refine bl_drew ?_ | refine bl_drewN _ ?_ | refine bl_alloc ?_ _ | refine bl_setCell ?_ (by simp) _ _ | refine bl_setRow ?_ (by simp) _)) hb); obtain ⟨p0, p1, p2, p3, p4, p5, p6⟩ := box6 HQ.out.pl; clear hq ht hb HWR HM2 HM3 HR3))
    go_wp2
    clear p0 p1 p2 p3 p4 p5 p6 q0 q1 q2 q3 q4 q5
    go_loopw [14] (fun vi wr => ∃ i : Nat, vi = .int .i64 i ∧ i < 4 ∧ Hid (∃ ws n r, ws.length = 9 ∧ CostI c i r ∧ Quad V wr bm gm br bw pb ws false n r (wt9 c (Num.fixB x.toNat) e 0))) (fun vi _ => 4 - (intOf vi).toNat)
    case atStart => exact ⟨0, rfl, by omega, _, _, _, rfl, ⟨rfl, rfl, rfl, .inl ⟨rfl, rfl⟩⟩, HQ.out⟩
    case round =>
      clear HQ
      obtain ⟨i, rfl, hi, HR⟩ := hrel
      obtain ⟨ws, n, r, hl9, hci, hq⟩ := HR.out
      have hi4 : (i : Int) < 4 := by omega
      have HCI := Lib.hid hci
      have HQ : Hid (∃ ws, ws.length = 9 ∧ Quad V wr bm gm br bw pb ws false n r (wt9 c (Num.fixB x.toNat) e 0)) := ⟨ws, hl9, hq⟩
      clear hl9 hci hq HR
      go_upto_block 2 with fail
      go_cut [15] (fun v15 wc => ∃ j : Nat, v15 = .int .i64 j ∧ Hid (∃ ws, ws.length = 9 ∧ Quad V wc bm gm br bw pb ws false n r (wt9 c (Num.fixB x.toNat) e 0)))
      case first =>
        go_wp2
        go_loopw [15] (fun vk wx => ∃ j : Nat, vk = .int .i64 j ∧ j ≤ 9 ∧ Hid (∃ ws, ws.length = 9 ∧ Quad V wx bm gm br bw pb ws false n r (wt9 c (Num.fixB x.toNat) e 0))) (fun vk _ => 9 - (intOf vk).toNat)
        case atStart => exact ⟨0, rfl, by omega, HQ⟩
        case round =>
          clear HQ
          obtain ⟨j, rfl, hj, HQ⟩ := hrel
          have e1 : wrap64 (9 * (i : Int)) = 9 * (i : Int) := Go.IntWalk.wrap64_in _ ⟨by omega, by omega⟩
          have e2 : wrap64 (9 * (i : Int) + (j : Int)) = 9 * (i : Int) + (j : Int) := Go.IntWalk.wrap64_in _ ⟨by omega, by omega⟩
          have e3 : (9 * (i : Int) + (j : Int)).toNat = 9 * i + j := by omega
          have e4 : 0 ≤ 9 * (i : Int) + (j : Int) := by omega
          have e5 : ¬ 9 * (i : Int) + (j : Int) < 0 := by omega
          by_cases hj9 : j < 9
          · have hj9' : (j : Int) < 9 := by omega
            by_cases hnl : 9 * i + j < m
            · have hnl' : 9 * (i : Int) + (j : Int) < (m : Int) := by omega
              obtain ⟨ws, hl9, hq⟩ := HQ.out
              obtain ⟨g1, o1, hao, hg1, hx1⟩ := HNO.out _ hq.below (9 * i + j) (by omega)
              subst hao
              generalize l.getD (9 * i + j) 0 = y at hx1
              have HQ1 := Lib.hid (And.intro hl9 hq)
              clear hl9 hq HQ
              go_wp2_with (first
                | (go_at_call 25; refine (HQ1.out.2.poke _ _).mono ?_; rintro r5 w5 ⟨rfl, h⟩; have HQ2 : Hid (∃ ws, ws.length = 9 ∧ Quad V w5 bm gm br bw pb ws false n r (wt9 c (Num.fixB x.toNat) e 0)) := ⟨_, (poked_len _ _ _).trans HQ1.out.1, h⟩; clear h HQ1))
              exact ⟨⟨j + 1, by first | rfl | (congr 1), by omega, HQ2⟩, by simp [intOf]; omega⟩
            · have hnl' : ¬ 9 * (i : Int) + (j : Int) < (m : Int) := by omega
              go_wp2
              go_meet
              exact ⟨j, rfl, HQ⟩
          · have hj9' : ¬ (j : Int) < 9 := by omega
            go_wp2
            go_meet
            exact ⟨j, rfl, HQ⟩
      case rest =>
        obtain ⟨j, rfl, HQ1⟩ := hcut
        clear HQ
        obtain ⟨ws, hl9, hq⟩ := HQ1.out
        have HE := Lib.hid (HCI.out.err hc hl9)
        have HS0 : Hid (Calls Try.prog 29 #[.pointer (some ⟨br, 0, none⟩), .pointer (some ⟨bm, 0, none⟩)] wc fun e0 w' => e0 = .returned (.tuple #[.bool false, .int .i64 31]) ∧ Quad V w' bm gm br bw pb ws false n r (wt9 c (Num.fixB x.toNat) e 0)) := by
          have q := hq.stepR
          rw [show endR r ws false = false by simp [endR, HE.out.2], show stepR r ws false = r by simp [stepR, HE.out.2], HE.out.2] at q
          exact q
        have HS1 : Hid (∀ w', Quad V w' bm gm br bw pb ws true n r (wt9 c (Num.fixB x.toNat) e 0) → Calls Try.prog 29 #[.pointer (some ⟨br, 0, none⟩), .pointer (some ⟨bm, 0, none⟩)] w' fun e0 w'' => e0 = .returned (.tuple #[.bool (endR r ws true), .int .i64 0]) ∧ Quad V w'' bm gm br bw pb ws false (up n) (stepR r ws true) (wt9 c (Num.fixB x.toNat) e 0)) := fun w' h => by
          have q := h.stepR
          rw [HE.out.1] at q
          exact q
        have HCT := Lib.hid (count_any hq.m)
        have HSP := Lib.hid (fun (w' : World) (r' : Rd) (h : RdAt w' br r') => steps_any h)
        have HL9 := Lib.hid hl9
        have HCU : Hid (∀ (w' : World) (ws' : List Int), MemAt 90 w' bm gm ws' false (up n) → Calls Try.prog 18 #[.pointer (some ⟨bm, 0, none⟩)] w' fun e0 w'' => e0 = .returned (.int .i64 (wrap64 (n + 1))) ∧ w'' = w') := fun w' ws' h => count_any h
        have hz1 : wrap64 ((i : Int) + 1) = (i : Int) + 1 := Go.IntWalk.wrap64_in _ ⟨by omega, by omega⟩
        rcases HCI.out.next (ws := ws) hc hl9 with ⟨hE, hi0, hk4, hn1⟩ | ⟨hE, hi3, hcn⟩
        · rw [hE] at HS1
          have HSP : Hid (∀ (w' : World), RdAt w' br (stepR r ws true) → Calls Try.prog 31 #[.pointer (some ⟨br, 0, none⟩)] w' fun e0 w'' => e0 = .returned (.int .i64 ((i : Int) + 1)) ∧ w'' = w') := fun w' h => by
            have q := steps_any h
            rw [hn1] at q
            exact q
          generalize stepR r ws true = r' at HS1 hk4 hn1 HSP
          have HS3 : Hid (∀ (w' : World) n', Quad V w' bm gm br bw pb ws true n' r' (wt9 c (Num.fixB x.toNat) e 0) → Calls Try.prog 29 #[.pointer (some ⟨br, 0, none⟩), .pointer (some ⟨bm, 0, none⟩)] w' fun e0 w'' => e0 = .returned (.tuple #[.bool false, .int .i64 3]) ∧ Quad V w'' bm gm br bw pb ws true n' r' (wt9 c (Num.fixB x.toNat) e 0)) := fun w' n' h => by
            have q := h.stepR
            have e0 : errR r' ws true = 3 := by simp [errR, hk4]
            rw [show endR r' ws true = false by simp [endR, e0], show stepR r' ws true = r' by simp [stepR, e0], e0] at q
            exact q
          have hz0 : ((i : Int) == 0) = false := by simp; omega
          have hz2 : ¬ (i : Int) = 0 := by omega
          clear hk4 hn1 hE hq hl9 HE HQ1 HNO HCI
          go_wp2_with (first
            | (go_at_call 18; refine HCT.out.mono ?_; rintro e6 w6 ⟨rfl, hw⟩; subst w6; clear HCT)
            | (go_at_call 29; refine HS0.out.mono ?_; rintro e6 w6 ⟨rfl, h⟩; have HQ6 := Lib.hid h; clear h HS0)
            | (go_at_call 28; refine HQ6.out.opened.mono ?_; rintro e7 w7 ⟨rfl, h⟩; have HQ7 := Lib.hid h; clear h HQ6)
            | (go_at_call 29; refine (HS1.out _ HQ7.out).mono ?_; rintro e8 w8 ⟨rfl, h⟩; have HQ8 := Lib.hid h; clear h HS1 HQ7)
            | (go_at_call 18; refine (HCU.out _ _ HQ8.out.m).mono ?_; rintro e9 w9 ⟨rfl, hw⟩; subst w9)
            | (go_at_call 31; refine (HSP.out _ HQ8.out.rd).mono ?_; rintro e9 w9 ⟨rfl, hw⟩; subst w9)
            | (go_at_call 28; refine HQ8.out.opened.mono ?_; rintro e7 w9 ⟨rfl, h⟩; have HQ9 := Lib.hid h; clear h HQ8)
            | (go_at_call 29; refine (HS3.out _ _ HQ9.out).mono ?_; rintro e8 wa ⟨rfl, h⟩; have HQA := Lib.hid h; clear h HQ9))
          have HW0 : Hid (W9 c (Num.fixB x.toNat) e 0 ws) := ⟨HL9.out, fun q => by omega, fun q => by omega, fun q => by omega⟩
          clear hz0 hz1 hz2 HCU HSP HS3 hi0
          go_loopw [23] (fun vi wr => ∃ j : Nat, vi = .int .i64 j ∧ j ≤ 3 ∧ Hid (∃ ws o n, W9 c (Num.fixB x.toNat) e j ws ∧ Quad V wr bm gm br bw pb ws o n r' (wt9 c (Num.fixB x.toNat) e j))) (fun vi _ => 3 - (intOf vi).toNat)
          case atStart => exact ⟨0, rfl, by omega, _, _, _, HW0.out, HQA.out⟩
          case round =>
            clear HQA HW0 HL9
            obtain ⟨j, rfl, hj, HR⟩ := hrel
            obtain ⟨ws, o, n, hw9, hq⟩ := HR.out
            clear HR
            by_cases hj3 : j < 3
            · have hj3' : (j : Int) < 3 := by omega
              have HCT := Lib.hid (count_any hq.m)
              have HOP := Lib.hid hq.opened
              have HSW : Hid (∀ w', Quad V w' bm gm br bw pb ws true n r' (wt9 c (Num.fixB x.toNat) e j) → Calls Try.prog 30 #[.pointer (some ⟨bw, 0, none⟩), .pointer (some ⟨bm, 0, none⟩)] w' fun e0 w'' => e0 = .returned (.tuple #[.bool (decide (j = 2)), .int .i64 0]) ∧ W9 c (Num.fixB x.toNat) e (j + 1) (laidW (wt9 c (Num.fixB x.toNat) e j) ws true) ∧ Quad V w'' bm gm br bw pb (laidW (wt9 c (Num.fixB x.toNat) e j) ws true) false (up n) r' (wt9 c (Num.fixB x.toNat) e (j + 1))) := fun w' h => by
                have q := h.stepW
                obtain ⟨f1, f2, f3, f4⟩ := wt9_step hc hj3 hw9
                rw [f1, f2, f3] at q
                exact q.mono fun _ _ ⟨g1, g2⟩ => ⟨g1, f4, g2⟩
              have HCU : Hid (∀ (w' : World) (ws' : List Int), MemAt 90 w' bm gm ws' false (up n) → Calls Try.prog 18 #[.pointer (some ⟨bm, 0, none⟩)] w' fun e0 w'' => e0 = .returned (.int .i64 (wrap64 (n + 1))) ∧ w'' = w') := fun w' ws' h => count_any h
              have hd2 : ((j : Int) == 2) = decide (j = 2) := by rw [Bool.eq_iff_iff]; simp; omega
              generalize decide (j = 2) = d2 at HSW hd2
              clear hq hw9
              go_wp2_with (first
                | (go_at_call 18; refine HCT.out.mono ?_; rintro e6 w6 ⟨rfl, hw⟩; subst w6; clear HCT)
                | (go_at_call 28; refine HOP.out.mono ?_; rintro e7 w7 ⟨rfl, h⟩; have HQ7 := Lib.hid h; clear h HOP)
                | (go_at_call 30; refine (HSW.out _ HQ7.out).mono ?_; rintro e8 w8 ⟨rfl, h⟩; have HQ8 := Lib.hid h; clear h HSW HQ7)
                | (go_at_call 18; refine (HCU.out _ _ HQ8.out.2.m).mono ?_; rintro e9 w9 ⟨rfl, hw⟩; subst w9))
              exact ⟨⟨j + 1, by first | rfl | (congr 1), by omega, _, _, _, HQ8.out⟩, by simp [intOf]; omega⟩
            · obtain rfl : j = 3 := by omega
              have HOP := Lib.hid hq.opened
              have HSW : Hid (∀ w', Quad V w' bm gm br bw pb ws true n r' (wt9 c (Num.fixB x.toNat) e 3) → Calls Try.prog 30 #[.pointer (some ⟨bw, 0, none⟩), .pointer (some ⟨bm, 0, none⟩)] w' fun e0 w'' => e0 = .returned (.tuple #[.bool false, .int .i64 3]) ∧ Quad V w'' bm gm br bw pb ws true n r' (wt9 c (Num.fixB x.toNat) e 3)) := fun w' h => by
                have q := h.stepW
                have f1 : errW (wt9 c (Num.fixB x.toNat) e 3) ws true = 3 := rfl
                rw [f1, show endW (wt9 c (Num.fixB x.toNat) e 3) ws true = false by rw [endW, f1]; rfl, show stepW (wt9 c (Num.fixB x.toNat) e 3) ws true = wt9 c (Num.fixB x.toNat) e 3 by rw [stepW, f1]; rfl, show laidW (wt9 c (Num.fixB x.toNat) e 3) ws true = ws by rw [laidW, f1]; rfl] at q
                exact q
              have HPK : Hid (∀ (w' : World), MemAt 90 w' bm gm ws true n → Calls Try.prog 9 #[.pointer (some ⟨bm, 0, none⟩), planV 0 0 0 0 0 0, .int .i64 (c : Int)] w' fun e0 w'' => e0 = .returned (.tuple #[.agg #[.int .u64 e, .int .u64 (Num.fixB x.toNat), .int .u64 (Num.fixB x.toNat)], .int .i64 0]) ∧ Below w'.heap.size w' w'') := fun w' h => by
                have q := cpeek_any h 0 0 0 0 0 0 c
                obtain ⟨f1, f2, f3, f4⟩ := peek9 hc hw9
                rw [f1, f2, f3, f4] at q
                exact q
              unfold planV at HPK
              have hteq := trip_eq9 e (Num.fixB x.toNat) (Num.fixB x.toNat)
              clear hq hw9 hj3 hj
              go_wp2_with (first
                | (go_at_call 28; refine HOP.out.mono ?_; rintro e7 w7 ⟨rfl, h⟩; have HQ7 := Lib.hid h; clear h HOP)
                | (go_at_call 30; refine (HSW.out _ HQ7.out).mono ?_; rintro e8 w8 ⟨rfl, h⟩; have HQ8 := Lib.hid h; obtain ⟨p0, p1, p2, p3, p4, p5, p6⟩ := box6 HQ8.out.pl; clear h HSW HQ7)
                | (go_at_call 9; refine (HPK.out _ HQ8.out.m).mono ?_; rintro e9 w9 ⟨rfl, hb⟩; have HQ9 := Lib.hid (HQ8.out.on hb); clear hb HPK HQ8)
                | (go_at_call 24; refine (raw_int _ _).mono ?_; rintro e9 wa ⟨rfl, hw⟩; subst wa)
                | (go_at_call 35; refine (refBits_any _ _).mono ?_; rintro e9 wa ⟨rfl, hw⟩; subst wa))
              go_ret
              exact ⟨rfl, (HBX.out _ (bl_alloc HQ9.out.below _)).2.out⟩
        · have HSP : Hid (∀ (w' : World), RdAt w' br (stepR r ws true) → Calls Try.prog 31 #[.pointer (some ⟨br, 0, none⟩)] w' fun e0 w'' => e0 = .returned (.int .i64 ((i : Int) + 1)) ∧ w'' = w') := fun w' h => by
            have q := steps_any h
            rw [hcn.2.2.1] at q
            exact q
          have HCN := Lib.hid hcn
          rw [hE] at HS1
          generalize stepR r ws true = r' at HS1 HSP HCN
          have hz3 : ((i : Int) == 3) = false := by simp; omega
          have hz2 : ¬ (i : Int) = 3 := by omega
          have hi5 : i + 1 < 4 := by omega
          clear hE hq hl9 HE HQ1 HNO HCI hcn
          go_wp2_with (first
            | (go_at_call 18; refine HCT.out.mono ?_; rintro e6 w6 ⟨rfl, hw⟩; subst w6; clear HCT)
            | (go_at_call 29; refine HS0.out.mono ?_; rintro e6 w6 ⟨rfl, h⟩; have HQ6 := Lib.hid h; clear h HS0)
            | (go_at_call 28; refine HQ6.out.opened.mono ?_; rintro e7 w7 ⟨rfl, h⟩; have HQ7 := Lib.hid h; clear h HQ6)
            | (go_at_call 29; refine (HS1.out _ HQ7.out).mono ?_; rintro e8 w8 ⟨rfl, h⟩; have HQ8 := Lib.hid h; clear h HS1 HQ7)
            | (go_at_call 18; refine (HCU.out _ _ HQ8.out.m).mono ?_; rintro e9 w9 ⟨rfl, hw⟩; subst w9)
            | (go_at_call 31; refine (HSP.out _ HQ8.out.rd).mono ?_; rintro e9 w9 ⟨rfl, hw⟩; subst w9))
          exact ⟨⟨i + 1, by first | rfl | (congr 1), hi5, _, _, _, HL9.out, HCN.out, HQ8.out⟩, by simp [intOf]; omega⟩

set_option maxRecDepth 100000 in
theorem lifted (os : Os) (started : os.Started) (H : Type) (enc : TypeId × Value → H) :
    ReturnsInHanded {} Try.checked os 7 .any (Rows.cellsCostSpec.pre6 enc Try.prog Try.f7 Rows.cellsCostRow.domain false) (Rows.cellsCostSpec.post enc Try.prog Try.f7 false true false false) := by
  refine returnsInHanded_of_change (C := Try.checked) ownK started (by kernel_rfl) Try.func7
    (ChangeSpec.witness6 (enc := enc) (C := Try.checked) false ⟨#[], #[.agg #[.int .i64 0, .int .u64 0, .int .u64 0, .int .u64 0, .slice none 0 0]], []⟩ 8 (by kernel_rfl) (by kernel_rfl) (by kernel_rfl) (by kernel_rfl)) ?_
  intro W base args ds gs before hval0 hW _ _
  have hval : ∀ (j : Nat) t v, Try.f7.params[j]? = some t → args[j]? = some v → Value.okWide Try.prog W .any base t v := hval0
  have hW2 := hW
  obtain ⟨p, q, hA0, hV, rfl, _, _⟩ := hW
  have hA : DataW.TrodAll enc Try.prog W 0 (fun _ => true) true Try.f7.params.toList args.toList ds p := hA0
  rw [Try.params7] at hA hval
  obtain ⟨v0, vs0, d0, ds0, p0, q0, hargs, rfl, rfl, h0, r0⟩ := trodAll_cons hA
  obtain ⟨rfl, rfl, rfl⟩ := trodAll_nil r0
  obtain rfl : args = #[v0] := by cases args; simp_all
  obtain ⟨rfl, rfl⟩ := trodVars_none hV
  obtain ⟨k0, s0, e0, x0, o0, c0, l0, rfl, fm0, fW0⟩ := open_cost (hval 0 77 v0 rfl rfl) h0
  clear hA0 hval0
  simp only [List.append_nil] at hW2
  have hlt : ∀ x ∈ p0, x.block < W.heap.size := fun x hx => by simpa using hW2.lt x (by simpa using hx)
  refine (walk k0 s0 e0 x0 o0 c0 l0 fm0 W fW0).mono fun e W2 ⟨he, hnx⟩ => ?_
  subst he
  exact ⟨_, rfl, _, _, _, [], _, [], hW2, trodAll_mk1 (shut_bool Try.underlying4 _), (trodAll_cons_mk (Below.trod laidOut (by kernel_rfl) (of_decide_eq_true (by kernel_rfl)) h0 hnx (fun x hx => hlt x (by first | simpa using hx | (simp at hx ⊢; simp [hx])))) trodAll_mk0), rfl, hnx.frame _, fun h => by cases h⟩

/-- the statement -/
theorem proved : Rows.CellsCostSaid :=
  OpenClaim.holds_of_wide 7 Try.f7 rfl rfl rfl rfl rfl rfl rfl ⟨rfl, rfl, rfl, rfl, rfl⟩ rfl rfl rfl rfl rfl (by kernel_rfl) Try.func7 (by kernel_rfl)
    (of_decide_eq_true (by kernel_rfl)) (by unfold Func.isWrapper; first | (rw [if_pos (by decide +kernel)]; kernel_rfl) | (rw [if_neg (by decide +kernel)]; exact ⟨rfl, rfl⟩))
    (fun os started H enc _ => lifted os started H enc)
end Go.Proofs.Ytmmijcmlnhmooaa.cellsCost
