/- For every cell, stamp, pair of versions, pair of numbers and order of steps the statement CellsWhole answers true: a read beside a write with a version above its stamp tells what the cell had, in at most four steps, and a read behind the write tells the new number. No condition. -/
import Derived.Test.YtmmijcmlnhmooaaEO
import Derived.Test.YtmmijcmlnhmooaaEWB
import Derived.Deep.CutBlock
import Derived.Deep.DeepCutAuto
namespace Go.Proofs.Ytmmijcmlnhmooaa.cellsWhole
open Go.ChangeShapes Go.WideShapes Go.ChangeAt Go.RowKit

open Num
theorem box6w {w : World} {x : Nat} {v0 v1 v2 v3 v4 v5 : Value} {T : TypeId} (h : w.heap[x]? = some (.cells #[v0, v1, v2, v3, v4, v5] T (0, 0))) : w.cell? ⟨x, 0, none⟩ = some v0 ∧ w.cell? ⟨x, 1, none⟩ = some v1 ∧ w.cell? ⟨x, 2, none⟩ = some v2 ∧ w.cell? ⟨x, 3, none⟩ = some v3 ∧ w.cell? ⟨x, 4, none⟩ = some v4 ∧ w.cell? ⟨x, 5, none⟩ = some v5 ∧ x < w.heap.size :=
  ⟨by rw [cell_of_row w x 0 _ _ _ h]; rfl, by rw [cell_of_row w x 1 _ _ _ h]; rfl, by rw [cell_of_row w x 2 _ _ _ h]; rfl, by rw [cell_of_row w x 3 _ _ _ h]; rfl, by rw [cell_of_row w x 4 _ _ _ h]; rfl, by rw [cell_of_row w x 5 _ _ _ h]; rfl, lt_of_block h⟩
set_option maxHeartbeats 4000000 in
set_option maxRecDepth 100000 in
theorem walk (x y e s mo : Nat) (ao : Option Addr) (cap : Nat) (l : List Bool) (_hmax : l.length ≤ maxLen) (hz : l.length ≤ reachBytes) (hr : s < 18446744073709551616 ∧ e < 18446744073709551616) (W : World) (hl : BoolsAt W ao l) : Calls Try.prog 6 #[.agg #[.int .u64 x, .int .u64 y, .int .u64 e, .int .u64 s, .int .u64 mo, .slice ao l.length cap]] W fun r W2 => r = .returned (.bool true) ∧ Below W.heap.size W W2 := by
  have HLV := Lib.hid live_any
  have HFR := Lib.hid fresh3_any
  obtain ⟨V, hV⟩ : ∃ V, W.alloc (.cells #[.int .u64 x, .int .u64 y, .int .u64 e, .int .u64 s, .int .u64 mo, .slice ao l.length cap] 64) = V := ⟨_, rfl⟩
  have HBX : Hid (∀ u, Below V.heap.size V u → (u.cell? ⟨W.heap.size, 0, none⟩ = some (.int .u64 x) ∧ u.cell? ⟨W.heap.size, 1, none⟩ = some (.int .u64 y) ∧ u.cell? ⟨W.heap.size, 2, none⟩ = some (.int .u64 e) ∧ u.cell? ⟨W.heap.size, 3, none⟩ = some (.int .u64 s) ∧ u.cell? ⟨W.heap.size, 4, none⟩ = some (.int .u64 mo) ∧ u.cell? ⟨W.heap.size, 5, none⟩ = some (.slice ao l.length cap) ∧ W.heap.size < u.heap.size) ∧ Hid (Below W.heap.size W u)) := by subst hV; exact fun u k => ⟨box6w ((k.block _ (by simp)).trans (alloc_at rfl)), below_step (bl_alloc (Below.refl _ _) _) k⟩
  have HVE := Lib.hid hV
  have HNO : Hid (∀ u, Below V.heap.size V u → ∀ i, i < l.length → ∃ g o, ao = some ⟨g, o, none⟩ ∧ g < u.heap.size ∧ u.cell? ⟨g, o + i, none⟩ = some (.bool (l.getD i false))) := fun u k i hi => (hl.on (HBX.out u k).2.out (Nat.le_refl _)) i hi
  have hz' : l.length ≤ 140737488351232 := hz
  obtain ⟨m, hm⟩ : ∃ m, l.length = m := ⟨_, rfl⟩
  rw [hm] at HNO HBX HVE hz' ⊢
  clear hV hl hz _hmax
  go_enter Try.func6, Try.ntmps6
  go_wp2_with (first
    | (go_at_call 11; refine (HLV.out _).mono ?_; rintro r w1 ⟨rfl, hb⟩; rw [HVE.out] at hb; obtain ⟨⟨q0, q1, q2, q3, q4, q5, q6⟩, _⟩ := HBX.out _ hb; have HB1 := Lib.hid hb; clear hb HLV))
  go_region_held (fun u => u.cell? ⟨W.heap.size, 0, none⟩ = some (.int .u64 x) ∧ u.cell? ⟨W.heap.size, 1, none⟩ = some (.int .u64 y) ∧ u.cell? ⟨W.heap.size, 2, none⟩ = some (.int .u64 e) ∧ u.cell? ⟨W.heap.size, 3, none⟩ = some (.int .u64 s) ∧ u.cell? ⟨W.heap.size, 5, none⟩ = some (.slice ao m cap)) (go_keep) (fail)
  obtain ⟨e1, he1⟩ : ∃ e1 : Nat, e1 = min e s := ⟨_, rfl⟩
  go_upto_if 39 with fail
  go_cut [6] (fun v6 wc => v6 = .int .u64 (e1 : Int) ∧ wc = w1.drew)
  case first =>
    by_cases h : s < e
    · have h' : (s : Int) < (e : Int) := by omega
      obtain rfl : e1 = s := by omega
      clear he1
      go_wp2
      go_meet
      exact ⟨rfl, rfl⟩
    · have h' : ¬ (s : Int) < (e : Int) := by omega
      obtain rfl : e1 = e := by omega
      clear he1
      go_wp2
      go_meet
      exact ⟨rfl, rfl⟩
  case rest =>
    obtain ⟨rfl, hw⟩ := hcut
    subst wc
    obtain ⟨s2, e2, hse, HSE⟩ : ∃ s2 e2 : Nat, (e2 ≤ s2 ∧ s2 < 18446744073709551615) ∧ Hid (s = 18446744073709551615 ∧ s2 = 18446744073709551614 ∧ e2 = 0 ∨ ¬ s = 18446744073709551615 ∧ s2 = s ∧ e2 = e1) := by
      by_cases h : s = 18446744073709551615
      · exact ⟨18446744073709551614, 0, ⟨by omega, by omega⟩, .inl ⟨h, rfl, rfl⟩⟩
      · exact ⟨s, e1, ⟨by omega, by omega⟩, .inr ⟨h, rfl, rfl⟩⟩
    clear he1
    go_upto_if 42 with fail
    go_cut [6, 7] (fun v6 v7 wc => v6 = .int .u64 (e2 : Int) ∧ v7 = .int .u64 (s2 : Int) ∧ wc = w1.drew)
    case first =>
      have hsub : IntKind.u64.wrap ((18446744073709551615 : Int) - 1) = 18446744073709551614 := by decide +kernel
      rcases HSE.out with ⟨rfl, rfl, rfl⟩ | ⟨h, rfl, rfl⟩
      · go_wp2
        go_meet
        exact ⟨rfl, by first | rfl | (rw [hsub]; rfl) | (simp [hsub]), rfl⟩
      · have h' : ¬ (s2 : Int) = 18446744073709551615 := by omega
        go_wp2
        go_meet
        exact ⟨rfl, rfl, rfl⟩
    case rest =>
      obtain ⟨rfl, rfl, hw⟩ := hcut
      subst wc
      clear HSE
      obtain ⟨K, hK⟩ : ∃ K : Nat, K = 18446744073709551615 - s2 := ⟨_, rfl⟩
      obtain ⟨tq, htq⟩ : ∃ tq : Nat, tq = mo % K := ⟨_, rfl⟩
      have htk : tq < K := by rw [htq]; exact Nat.mod_lt _ (by omega)
      have f1 : IntKind.u64.wrap ((s2 : Int) + 1) = (s2 : Int) + 1 := by simp [IntKind.wrap, IntKind.signed, IntKind.bits]; omega
      have f2 : IntKind.u64.wrap (18446744073709551615 - (s2 : Int)) = (K : Int) := by simp [IntKind.wrap, IntKind.signed, IntKind.bits]; omega
      have f3 : (mo : Int).tmod (K : Int) = (tq : Int) := by rw [Int.tmod_eq_emod_of_nonneg (by omega), htq]; rfl
      have f4 : IntKind.u64.wrap ((s2 : Int) + 1 + (tq : Int)) = ((s2 + 1 + tq : Nat) : Int) := by simp [IntKind.wrap, IntKind.signed, IntKind.bits]; omega
      have f5 : ¬ (K : Int) = 0 := by omega
      have f6 : ((K : Int) == 0) = false := by simp; omega
      obtain ⟨a, ha⟩ : ∃ a : Nat, s2 + 1 + tq = a := ⟨_, rfl⟩
      rw [ha] at f4
      have hsa : s2 < a := by omega
      clear hK htq htk ha
      go_upto_region 9 with fail
      have HST : Hid (∀ (v : World) (bm gm b0 : Nat), MemAt 90 v bm gm [0, 0, 0] false 0 → v.cell? ⟨b0, 0, none⟩ = some (.float .f64 x) → b0 < v.heap.size → b0 ≠ bm → b0 ≠ gm → Calls Try.prog 23 #[.pointer (some ⟨bm, 0, none⟩), planV 0 0 0 0 0 0, .slice (some ⟨b0, 0, none⟩) 1 1] v fun e0 w' => e0 = .returned (.int .i64 0) ∧ MemAt 90 w' bm gm [0, ((Num.fixB x : Nat) : Int), 0] false 0 ∧ Chg bm gm v w') := fun v bm gm b0 h h1 h2 h3 h4 => by
        have q := start_any (cap := 1) (l := [x]) (ao := some ⟨b0, 0, none⟩) h (fun i hi => by
          obtain rfl : i = 0 := by simpa using hi
          exact ⟨b0, 0, rfl, h2, by simp [h3, h4], by simpa using h1⟩) 0 0 0 0 0 0
        rw [(start3 x).1, (start3 x).2] at q
        exact q
      have HPO : Hid (∀ (v : World) (bm gm : Nat), MemAt 90 v bm gm [0, ((Num.fixB x : Nat) : Int), 0] false 0 → Calls Try.prog 25 #[.pointer (some ⟨bm, 0, none⟩), .int .i64 0, .int .u64 (e2 : Int)] v fun e0 w' => e0 = .returned (.int .i64 0) ∧ MemAt 90 w' bm gm (wsD e2 a (Num.fixB x) (Num.fixB y) 0) false 0 ∧ Chg bm gm v w') := fun v bm gm h => poke_any h 0 e2
      have HRD := Lib.hid (fun w => read_any w 0 0 0 0 0 0 0 s2)
      have HRQ := Lib.hid (fun w => read_any w 0 0 0 0 0 0 0 a)
      have HWR := Lib.hid (fun w => write_any w 0 0 0 0 0 0 0 a x y)
      unfold planV at HST HRD HRQ HWR
      clear f1 f2 f3 f4 f5 f6
      go_wp2_with (first
        | (go_at_call 10; refine (HFR.out _).mono ?_; rintro r w2 ⟨bm, gm, rfl, hn, hm1, hb⟩; have HM2 := Lib.hid (mpl_new (below_step HB1.out (below_step (by repeat (first | exact Below.refl _ _ | refine bl_drew ?_ | refine bl_drewN _ ?_ | refine bl_alloc ?_ _ | refine bl_setCell ?_ (by simp) _ _ | refine bl_setRow ?_ (by simp) _)) hb)) hm1 (Nat.le_trans HB1.out.size hn.1) (Nat.le_trans HB1.out.size hn.2)); clear hn hm1 hb HFR HB1))
      obtain ⟨pb, hpb⟩ : ∃ pb, w2.heap.size = pb := ⟨_, rfl⟩
      obtain ⟨v2, hv2⟩ : ∃ v2, w2.alloc (.cells (planC 0 0 0 0 0 0) 31) = v2 := ⟨_, rfl⟩
      have hv2' : w2.alloc (.cells #[.int .i64 0, .int .i64 0, .int .i64 0, .int .i64 0, .int .i64 0, .int .i64 0] 31) = v2 := hv2
      rw [hpb] at HM2 ⊢
      rw [hv2] at HM2
      rw [hv2']
      clear hpb hv2 hv2' q0 q1 q2 q3 q4 q5 q6
      obtain ⟨p0, p1, p2, p3, p4, p5, p6⟩ := box6 HM2.out.pl
      go_region_held (fun u => u.cell? ⟨pb, 0, none⟩ = some (.int .i64 0) ∧ u.cell? ⟨pb, 1, none⟩ = some (.int .i64 0) ∧ u.cell? ⟨pb, 2, none⟩ = some (.int .i64 0) ∧ u.cell? ⟨pb, 3, none⟩ = some (.int .i64 0) ∧ u.cell? ⟨pb, 4, none⟩ = some (.int .i64 0) ∧ u.cell? ⟨pb, 5, none⟩ = some (.int .i64 0)) (go_keep) (first
        | (go_at_call 24; refine (raw_any _ _).mono ?_; rintro r w4 ⟨rfl, hw⟩; subst w4)
        | (go_at_call 23; refine (HST.out _ _ _ _ (HM2.out.on (by repeat (first | exact Below.refl _ _ | refine bl_drew ?_ | refine bl_drewN _ ?_ | refine bl_alloc ?_ _ | refine bl_setCell ?_ (by simp) _ _ | refine bl_setRow ?_ (by simp) _))).m (by simp) (by simp) (by have := HM2.out.m.ltB; simp; omega) (by have := HM2.out.m.ltG; simp; omega)).mono ?_; rintro r w4 ⟨rfl, hm1, hc1⟩; have HM4 := Lib.hid ((HM2.out.on (by repeat (first | exact Below.refl _ _ | refine bl_drew ?_ | refine bl_drewN _ ?_ | refine bl_alloc ?_ _ | refine bl_setCell ?_ (by simp) _ _ | refine bl_setRow ?_ (by simp) _))).mem hm1 hc1); obtain ⟨p0, p1, p2, p3, p4, p5, p6⟩ := box6 HM4.out.pl; clear hm1 hc1 HM2))
      go_wp2_with (first
        | (go_at_call 25; refine (HPO.out _ _ _ (HM4.out.on (by repeat (first | exact Below.refl _ _ | refine bl_drew ?_ | refine bl_drewN _ ?_ | refine bl_alloc ?_ _ | refine bl_setCell ?_ (by simp) _ _ | refine bl_setRow ?_ (by simp) _))).m).mono ?_; rintro r w5 ⟨rfl, hm1, hc1⟩; have HM5 := Lib.hid ((HM4.out.on (by repeat (first | exact Below.refl _ _ | refine bl_drew ?_ | refine bl_drewN _ ?_ | refine bl_alloc ?_ _ | refine bl_setCell ?_ (by simp) _ _ | refine bl_setRow ?_ (by simp) _))).mem hm1 hc1); obtain ⟨p0, p1, p2, p3, p4, p5, p6⟩ := box6 HM5.out.pl; clear hm1 hc1 HM4)
        | (go_at_call 26; refine (HRD.out _).mono ?_; rintro r w6 ⟨br, rfl, hq, hr1, hb⟩; have HM6 := Lib.hid (HM5.out.on hb); obtain ⟨p0, p1, p2, p3, p4, p5, p6⟩ := box6 HM6.out.pl; have HR6 := Lib.hid (And.intro hq (And.intro hr1 hb)); clear hq hr1 hb HRD))
      go_region_held (fun u => u.cell? ⟨pb, 0, none⟩ = some (.int .i64 0) ∧ u.cell? ⟨pb, 1, none⟩ = some (.int .i64 0) ∧ u.cell? ⟨pb, 2, none⟩ = some (.int .i64 0) ∧ u.cell? ⟨pb, 3, none⟩ = some (.int .i64 0) ∧ u.cell? ⟨pb, 4, none⟩ = some (.int .i64 0) ∧ u.cell? ⟨pb, 5, none⟩ = some (.int .i64 0)) (go_keep) (first
        | (go_at_call 24; refine (raw_any _ _).mono ?_; rintro r w7 ⟨rfl, hw⟩; subst w7)
        | (go_at_call 27; refine (HWR.out _).mono ?_; rintro r w7 ⟨bw, rfl, hq, ht, hb⟩; have HQ : Hid (Quad V w7 bm gm br bw pb (wsD e2 a (Num.fixB x) (Num.fixB y) 0) false 0 (newR 0 0 s2) (wtD a (Num.fixB x) (Num.fixB y) 0)) := quad_new HM5.out HR6.out.1 HR6.out.2.1 HR6.out.2.2 hq ht (below_step (by repeat (first | exact Below.refl _ _ | refine bl_drew ?_ | refine bl_drewN _ ?_ | refine bl_alloc ?_ _ | refine bl_setCell ?_ (by simp) _ _ | refine bl_setRow ?_ (by simp) _)) hb); obtain ⟨p0, p1, p2, p3, p4, p5, p6⟩ := box6 HQ.out.pl; clear hq ht hb HWR HM5 HM6 HR6))
      clear p0 p1 p2 p3 p4 p5 p6 HST HPO HRQ
      go_upto_region 20 with fail
      refine reg_written _  _ (by kernel_rfl) _ _ _ _ _ _ _ _ _ _ _ _ _ _ _ _ _ _ _ _ _ _ _ _ _ _ _ _ _ _ _ _ _ _ _ _ _ _ _ _ _ _ _ _ _ _ _ _ _ _ _ _ _ _ _ _ _ _ _ _ _ _ _ _ _ _ _ _ _ _ _ _ _ _ _ _ _ _ _ _ _ _ _ _ _ _ _ _ _ _ _ _ _ _ _ _ _ _ _ _ _ _ _ _ _ _ _ _ _ _ _ _ _ _ _ _ _ _ _ _ _ _ _ _ _ _ _ _ _ _ _ _ _ _ _ _ _ _ _ _ _ _ _ _ _ _ _ _ _ _ _ _ _ _ _ _ _ _ _ _ _ _ _ _ _ _ _ _ _ _ _ _ _ _ _ _ _ _ _ _ _ _ _ _ _ _ _ _ _ _ _ _ _ _ _ _ _ _ _ ?_
      go_step
      go_step
      go_step
      refine loop_one _ hse.1 hsa hz' (Lib.hid (After.first HQ.out)) HNO _ (by kernel_rfl) _ _ _ _ _ _ _ _ _ _ _ _ _ _ _ _ _ _ _ _ _ _ _ _ _ _ _ _ _ _ _ _ _ _ _ _ _ _ _ _ _ _ _ _ _ _ _ _ _ _ _ _ _ _ _ _ _ _ _ _ _ _ _ _ _ _ _ _ _ _ _ _ _ _ _ _ _ _ _ _ _ _ _ _ _ _ _ _ _ _ _ _ _ _ _ _ _ _ _ _ _ _ _ _ _ _ _ _ _ _ _ _ _ _ _ _ _ _ _ _ _ _ _ _ _ _ _ _ _ _ _ _ _ _ _ _ _ _ _ _ _ _ _ _ _ _ _ _ _ _ _ _ _ _ _ _ _ _ _ _ _ _ _ _ _ _ _ _ _ _ _ _ _ _ _ _ _ _ _ _ _ _ _ _ _ _ _ _ _ _ _ _ _ ?_
      intro _ _ _ _ _ _ _ _ _ _ _ _ _ _ _ _ _ _ _ _ _ _ _ _ _ _ _ _ _ _ _ _ _ _ _ _ _ _ _ _ _ _ _ _ _ _ _ _ _ _ _ _ _ _ _ _ _ _ _ w8 h8
      obtain ⟨_, _, n, r, o, nn, hn4, hen, hey, hq8⟩ := h8.last
      have HQ8 := Lib.hid hq8
      have HRD8 := Lib.hid hq8.rd
      clear h8 hq8 HQ HNO
      go_step
      go_step
      go_step
      refine if_told _ hn4 hen hey HRD8 _ (by kernel_rfl) _ _ _ _ _ _ _ _ _ _ _ _ _ _ _ _ _ _ _ _ _ _ _ _ _ _ _ _ _ _ _ _ _ _ _ _ _ _ _ _ _ _ _ _ _ _ _ _ _ _ _ _ _ _ _ _ _ _ _ _ _ _ _ _ _ _ _ _ _ _ _ _ _ _ _ _ _ _ _ _ _ _ _ _ _ _ _ _ _ _ _ _ _ _ _ _ _ _ _ _ _ _ _ _ _ _ _ _ _ _ _ _ _ _ _ _ _ _ _ _ _ _ _ _ _ _ _ _ _ _ _ _ _ _ _ _ _ _ _ _ _ _ _ _ _ _ _ _ _ _ _ _ _ _ _ _ _ _ _ _ _ _ _ _ _ _ _ _ _ _ _ _ _ _ _ _ _ _ _ _ _ _ _ _ _ _ _ _ _ _ _ _ _ _ _ ?_
      intro _ _ _ _ _ _ _ _ _ _ _ _ _ _ _ _ _ _ _ _ 
      clear hn4 hen hey HRD8
      go_step
      go_step
      go_step
      refine reg_read _ HQ8 _ (by kernel_rfl) _ _ _ _ _ _ _ _ _ _ _ _ _ _ _ _ _ _ _ _ _ _ _ _ _ _ _ _ _ _ _ _ _ _ _ _ _ _ _ _ _ _ _ _ _ _ _ _ _ _ _ _ _ _ _ _ _ _ _ _ _ _ _ _ _ _ _ _ _ _ _ _ _ _ _ _ _ _ _ _ _ _ _ _ _ _ _ _ _ _ _ _ _ _ _ _ _ _ _ _ _ _ _ _ _ _ _ _ _ _ _ _ _ _ _ _ _ _ _ _ _ _ _ _ _ _ _ _ _ _ _ _ _ _ _ _ _ _ _ _ _ _ _ _ _ _ _ _ _ _ _ _ _ _ _ _ _ _ _ _ _ _ _ _ _ _ _ _ _ _ _ _ _ _ _ _ _ _ _ _ _ _ _ _ _ _ _ _ _ _ _ _ _ _ _ _ _ ?_
      intro _ _ _ bq w9 h9
      have HQ9 := Lib.hid h9
      clear h9 HQ8
      go_step
      go_step
      go_step
      refine if_nil _  _ (by kernel_rfl) _ _ _ _ _ _ _ _ _ _ _ _ _ _ _ _ _ _ _ _ _ _ _ _ _ _ _ _ _ _ _ _ _ _ _ _ _ _ _ _ _ _ _ _ _ _ _ _ _ _ _ _ _ _ _ _ _ _ _ _ _ _ _ _ _ _ _ _ _ _ _ _ _ _ _ _ _ _ _ _ _ _ _ _ _ _ _ _ _ _ _ _ _ _ _ _ _ _ _ _ _ _ _ _ _ _ _ _ _ _ _ _ _ _ _ _ _ _ _ _ _ _ _ _ _ _ _ _ _ _ _ _ _ _ _ _ _ _ _ _ _ _ _ _ _ _ _ _ _ _ _ _ _ _ _ _ _ _ _ _ _ _ _ _ _ _ _ _ _ _ _ _ _ _ _ _ _ _ _ _ _ _ _ _ _ _ _ _ _ _ _ _ _ _ _ _ _ _ ?_
      intro _ _ 
      go_step
      go_step
      go_step
      refine loop_two _ HQ9 _ (by kernel_rfl) _ _ _ _ _ _ _ _ _ _ _ _ _ _ _ _ _ _ _ _ _ _ _ _ _ _ _ _ _ _ _ _ _ _ _ _ _ _ _ _ _ _ _ _ _ _ _ _ _ _ _ _ _ _ _ _ _ _ _ _ _ _ _ _ _ _ _ _ _ _ _ _ _ _ _ _ _ _ _ _ _ _ _ _ _ _ _ _ _ _ _ _ _ _ _ _ _ _ _ _ _ _ _ _ _ _ _ _ _ _ _ _ _ _ _ _ _ _ _ _ _ _ _ _ _ _ _ _ _ _ _ _ _ _ _ _ _ _ _ _ _ _ _ _ _ _ _ _ _ _ _ _ _ _ _ _ _ _ _ _ _ _ _ _ _ _ _ _ _ _ _ _ _ _ _ _ _ _ _ _ _ _ _ _ _ _ _ _ _ _ _ _ _ _ _ _ _ ?_
      intro _ _ _ _ _ _ _ _ _ _ _ _ _ _ _ _ _ _ _ _ _ _ _ _ wA oA nA hA
      have HTO : Hid (Calls Try.prog 34 #[.pointer (some ⟨bq, 0, none⟩)] wA fun e0 w'' => e0 = .returned (.bool false) ∧ w'' = wA) := by
        have q := torn_any hA.rd
        rw [(rq_last a (fixB x) y).1] at q
        exact q
      have HVL : Hid (Calls Try.prog 32 #[.pointer (some ⟨bq, 0, none⟩)] wA fun e0 w'' => e0 = .returned (.float .f64 (fixB y)) ∧ w'' = wA) := by
        have q := value_any hA.rd
        rw [(rq_last a (fixB x) y).2] at q
        exact q
      have HEND := Lib.hid hA.below
      clear hA HQ9
      go_wp2_with (first
        | (go_at_call 24; refine (raw_any _ _).mono ?_; rintro e7 w7 ⟨rfl, hw⟩; subst w7)
        | (go_at_call 21; refine (exact_any _ _ _).mono ?_; rintro e7 w7 ⟨rfl, hw⟩; subst w7)
        | (go_at_call 33; refine (refFix_any _ _).mono ?_; rintro e7 w7 ⟨rfl, hw⟩; subst w7)
        | (go_at_call 34; refine HTO.out.mono ?_; rintro e7 w7 ⟨rfl, hw⟩; subst w7)
        | (go_at_call 32; refine HVL.out.mono ?_; rintro e7 w7 ⟨rfl, hw⟩; subst w7))
      go_ret
      exact ⟨by simp, (HBX.out _ HEND.out).2.out⟩

set_option maxRecDepth 100000 in
theorem lifted (os : Os) (started : os.Started) (H : Type) (enc : TypeId × Value → H) :
    ReturnsInHanded {} Try.checked os 6 .any (Rows.cellsWholeSpec.pre6 enc Try.prog Try.f6 Rows.cellsWholeRow.domain false) (Rows.cellsWholeSpec.post enc Try.prog Try.f6 false true false false) := by
  refine returnsInHanded_of_change_sized (C := Try.checked) ownK started (by kernel_rfl) Try.func6
    (ChangeSpec.witness6 (enc := enc) (C := Try.checked) false ⟨#[], #[.agg #[.int .u64 0, .int .u64 0, .int .u64 0, .int .u64 0, .int .u64 0, .slice none 0 0]], []⟩ 8 (by kernel_rfl) (by kernel_rfl) (by kernel_rfl) (by kernel_rfl)) ?_
  intro W base args ds gs before hval0 hW _ hsz0 _
  have hval : ∀ (j : Nat) t v, Try.f6.params[j]? = some t → args[j]? = some v → Value.okWide Try.prog W .any base t v := hval0
  have hW2 := hW
  obtain ⟨p, q, hA0, hV, rfl, _, _⟩ := hW
  have hA : DataW.TrodAll enc Try.prog W 0 (fun _ => true) true Try.f6.params.toList args.toList ds p := hA0
  have hsz : (DataW.weightsEach Try.prog (Try.f6.params.toList ++ Rows.cellsWholeSpec.plain.varTypes Try.prog) (ds ++ gs)).all (· ≤ reachBytes) = true := hsz0
  clear hsz0
  rw [Try.params6] at hA hval hsz
  obtain ⟨v0, vs0, d0, ds0, p0, q0, hargs, rfl, rfl, h0, r0⟩ := trodAll_cons hA
  obtain ⟨rfl, rfl, rfl⟩ := trodAll_nil r0
  obtain rfl : args = #[v0] := by cases args; simp_all
  obtain ⟨rfl, rfl⟩ := trodVars_none hV
  obtain ⟨x0, y0, e0, s0, m0, o0, c0, l0, rfl, fm0, fz0, fr0, fW0⟩ := open_whole2 (hval 0 64 v0 rfl rfl) h0
  have fz0 := fz0 hsz (j := 0) rfl rfl
  clear hA0 hval0
  simp only [List.append_nil] at hW2
  have hlt : ∀ x ∈ p0, x.block < W.heap.size := fun x hx => by simpa using hW2.lt x (by simpa using hx)
  refine (walk x0 y0 e0 s0 m0 o0 c0 l0 fm0 fz0 fr0 W fW0).mono fun e W2 ⟨he, hnx⟩ => ?_
  subst he
  exact ⟨_, rfl, _, _, _, [], _, [], hW2, trodAll_mk1 (shut_bool Try.underlying4 _), (trodAll_cons_mk (Below.trod laidOut (by kernel_rfl) (of_decide_eq_true (by kernel_rfl)) h0 hnx (fun x hx => hlt x (by first | simpa using hx | (simp at hx ⊢; simp [hx])))) trodAll_mk0), rfl, hnx.frame _, fun h => by cases h⟩

/-- the statement -/
theorem proved : Rows.CellsWholeSaid :=
  OpenClaim.holds_of_wide 6 Try.f6 rfl rfl rfl rfl rfl rfl rfl ⟨rfl, rfl, rfl, rfl, rfl⟩ rfl rfl rfl rfl rfl (by kernel_rfl) Try.func6 (by kernel_rfl)
    (of_decide_eq_true (by kernel_rfl)) (by unfold Func.isWrapper; first | (rw [if_pos (by decide +kernel)]; kernel_rfl) | (rw [if_neg (by decide +kernel)]; exact ⟨rfl, rfl⟩))
    (fun os started H enc _ => lifted os started H enc)
end Go.Proofs.Ytmmijcmlnhmooaa.cellsWhole
