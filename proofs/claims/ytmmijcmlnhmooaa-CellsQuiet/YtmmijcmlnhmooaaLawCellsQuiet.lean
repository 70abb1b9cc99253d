/- For every triple and every stamp the statement CellsQuiet answers true: where nothing changes the words between, a read tells what the triple says, in two steps or three, and is not torn. No condition. -/
import Derived.Test.YtmmijcmlnhmooaaEO
namespace Go.Proofs.Ytmmijcmlnhmooaa.cellsQuiet
open Go.ChangeShapes Go.WideShapes Go.ChangeAt Go.RowKit

/-- the read behind k steps over words that stay -/
def qs (a b c s : Int) : Nat → Rd
  | 0 => newR 0 0 s
  | k + 1 => stepR (qs a b c s k) [a, b, c] true
def lastQ (a s : Int) : Nat := if s < a then 2 else 3
theorem qs_err (a b c s : Int) {k : Nat} (hk : k < lastQ a s) : errR (qs a b c s k) [a, b, c] true = 0 ∧ endR (qs a b c s k) [a, b, c] true = decide (k + 1 = lastQ a s) := by
  have w0 : errC [a, b, c] true 0 0 0 = 0 := by simp [errC, mayC, placeI, errA, hasB]
  have w1 : errC [a, b, c] true 0 0 1 = 0 := by simp [errC, mayC, placeI, errA, hasB]
  have w2 : errC [a, b, c] true 0 0 2 = 0 := by simp [errC, mayC, placeI, errA, hasB]
  have x0 : wordC [a, b, c] 0 0 0 = a := by simp [wordC, wordAt, placeI]
  unfold lastQ at hk ⊢
  by_cases h : s < a
  · rw [if_pos h] at hk ⊢
    have : k = 0 ∨ k = 1 := by omega
    rcases this with rfl | rfl
    · simp [qs, newR, errR, endR, stepR, nxt, nx0, wrd, w0, x0, h]
    · simp [qs, newR, errR, endR, stepR, nxt, nx0, wrd, w0, w2, x0, h]
  · rw [if_neg h] at hk ⊢
    have : k = 0 ∨ k = 1 ∨ k = 2 := by omega
    rcases this with rfl | rfl | rfl
    · simp [qs, newR, errR, endR, stepR, nxt, nx0, wrd, w0, x0, h]
    · simp [qs, newR, errR, endR, stepR, nxt, nx0, wrd, w0, w1, x0, h]
    · simp [qs, newR, errR, endR, stepR, nxt, nx0, wrd, w0, w1, x0, h]
theorem qs_last (a b c s : Int) : (qs a b c s (lastQ a s)).t = false ∧ (qs a b c s (lastQ a s)).n = (lastQ a s : Int) ∧ (qs a b c s (lastQ a s)).y = atV a b c s := by
  have w0 : errC [a, b, c] true 0 0 0 = 0 := by simp [errC, mayC, placeI, errA, hasB]
  have w1 : errC [a, b, c] true 0 0 1 = 0 := by simp [errC, mayC, placeI, errA, hasB]
  have w2 : errC [a, b, c] true 0 0 2 = 0 := by simp [errC, mayC, placeI, errA, hasB]
  have x0 : wordC [a, b, c] 0 0 0 = a := by simp [wordC, wordAt, placeI]
  have x1 : wordC [a, b, c] 0 0 1 = b := by simp [wordC, wordAt, placeI]
  have x2 : wordC [a, b, c] 0 0 2 = c := by simp [wordC, wordAt, placeI]
  have u1 : up 0 = 1 := by decide +kernel
  have u2 : up 1 = 2 := by decide +kernel
  have u3 : up 2 = 3 := by decide +kernel
  unfold lastQ atV
  by_cases h : s < a
  · simp [h, qs, newR, errR, stepR, nxt, nx0, wrd, w0, w2, x0, x2, u1, u2]
  · simp [h, qs, newR, errR, stepR, nxt, nx0, wrd, w0, w1, x0, x1, u1, u2, u3]
set_option maxRecDepth 100000 in
theorem trip_eq (x0 x1 x2 : Int) (w : World) : (Op.equalIn 10000 24 (.agg #[.int .u64 x0, .int .u64 x1, .int .u64 x2]) (.agg #[.int .u64 x0, .int .u64 x1, .int .u64 x2])).run Try.prog w = .ok true w := by
  have u3 := Try.underlying22
  have a3 := Try.isAgg22
  have z3 := Try.sizeOf22
  have hS : Try.prog.underlying 24 = some (.struct (Try.prog.fieldsOf 24)) := by kernel_rfl
  rw [show (10000 : Nat) = 9999 + 1 from rfl, run_equalIn_agg w 9999 24 _ _ hS (by kernel_rfl)]
  simp only [Program.fieldsOf, Try.underlying24]
  go_simp
set_option maxHeartbeats 4000000 in
set_option maxRecDepth 100000 in
theorem walk (a b c s : Int) (_w : (Lit.int .u64 s).wf = true) (W : World) : Calls Try.prog 8 #[.agg #[.int .u64 a, .int .u64 b, .int .u64 c], .int .u64 s] W fun r W2 => r = .returned (.bool true) ∧ Below W.heap.size W W2 := by
  have HLV := Lib.hid live_any
  have HFR := Lib.hid fresh3_any
  obtain ⟨V, hV⟩ : ∃ V, W.alloc (.cells #[.int .u64 a, .int .u64 b, .int .u64 c] 24) = V := ⟨_, rfl⟩
  have HBX : Hid (∀ u, Below V.heap.size V u → (u.cell? ⟨W.heap.size, 0, none⟩ = some (.int .u64 a) ∧ u.cell? ⟨W.heap.size, 1, none⟩ = some (.int .u64 b) ∧ u.cell? ⟨W.heap.size, 2, none⟩ = some (.int .u64 c) ∧ W.heap.size < u.heap.size) ∧ Hid (Below W.heap.size W u)) := by subst hV; exact fun u k => ⟨(box3 ((k.block _ (by simp)).trans (alloc_at rfl))).1, below_step (bl_alloc (Below.refl _ _) _) k⟩
  have HVE := Lib.hid hV
  clear hV
  have HP0 : Hid (∀ (w : World) (bm gm : Nat), MemAt 90 w bm gm [0, 0, 0] false 0 → Calls Try.prog 25 #[.pointer (some ⟨bm, 0, none⟩), .int .i64 0, .int .u64 a] w fun e w' => e = .returned (.int .i64 0) ∧ MemAt 90 w' bm gm [a, 0, 0] false 0 ∧ Chg bm gm w w') := fun w bm gm h => poke_any h 0 a
  have HP1 : Hid (∀ (w : World) (bm gm : Nat), MemAt 90 w bm gm [a, 0, 0] false 0 → Calls Try.prog 25 #[.pointer (some ⟨bm, 0, none⟩), .int .i64 1, .int .u64 b] w fun e w' => e = .returned (.int .i64 0) ∧ MemAt 90 w' bm gm [a, b, 0] false 0 ∧ Chg bm gm w w') := fun w bm gm h => poke_any h 1 b
  have HP2 : Hid (∀ (w : World) (bm gm : Nat), MemAt 90 w bm gm [a, b, 0] false 0 → Calls Try.prog 25 #[.pointer (some ⟨bm, 0, none⟩), .int .i64 2, .int .u64 c] w fun e w' => e = .returned (.int .i64 0) ∧ MemAt 90 w' bm gm [a, b, c] false 0 ∧ Chg bm gm w w') := fun w bm gm h => poke_any h 2 c
  have HPK : Hid (∀ (w : World) (bm gm : Nat) (o : Bool) (n : Int), MemAt 90 w bm gm [a, b, c] o n → Calls Try.prog 9 #[.pointer (some ⟨bm, 0, none⟩), planV 0 0 0 0 0 0, .int .i64 0] w fun e w' => e = .returned (.tuple #[.agg #[.int .u64 a, .int .u64 b, .int .u64 c], .int .i64 0]) ∧ Below w.heap.size w w') := fun w bm gm o n h => cpeek_any h 0 0 0 0 0 0 0
  have HRD := Lib.hid (fun w => read_any w 0 0 0 0 0 0 0 s)
  have HSR : Hid (∀ (w : World) (bm gm br : Nat) (n : Int) (k : Nat), k < lastQ a s → Duo V w bm gm br [a, b, c] true n (qs a b c s k) → Calls Try.prog 29 #[.pointer (some ⟨br, 0, none⟩), .pointer (some ⟨bm, 0, none⟩)] w fun e w' => e = .returned (.tuple #[.bool (decide (k + 1 = lastQ a s)), .int .i64 0]) ∧ ∃ n', Duo V w' bm gm br [a, b, c] false n' (qs a b c s (k + 1))) := fun w bm gm br n k hk h => by
    obtain ⟨e1, e2⟩ := qs_err a b c s hk
    have := h.stepR
    rw [e1, e2] at this
    exact this.mono fun _ _ ⟨h1, h2⟩ => ⟨h1, _, h2⟩
  have HLQ := Lib.hid (qs_last a b c s)
  have HK3 : Hid (lastQ a s ≤ 3) := by unfold lastQ; show _ ≤ 3; split <;> omega
  have HK0 : Hid (0 < lastQ a s) := by unfold lastQ; show 0 < _; split <;> omega
  have HKS : Hid (s < a ∧ lastQ a s = 2 ∧ atV a b c s = Num.fixB c.toNat ∨ ¬ s < a ∧ lastQ a s = 3 ∧ atV a b c s = Num.fixB b.toNat) := by
    show _ ∨ _
    unfold lastQ atV
    by_cases h : s < a
    · exact .inl ⟨h, if_pos h, if_pos h⟩
    · exact .inr ⟨h, if_neg h, if_neg h⟩
  have HCA := Lib.hid (cat_any a b c s)
  have hteq := trip_eq a b c
  unfold planV at HPK HRD
  unfold tripV at HCA
  generalize lastQ a s = K at *
  generalize atV a b c s = A at *
  clear _w
  go_enter Try.func8, Try.ntmps8
  go_wp2_with (first
    | (go_at_call 11; refine (HLV.out _).mono ?_; rintro e w1 ⟨rfl, hb⟩; rw [HVE.out] at hb; obtain ⟨⟨q0, q1, q2, q3⟩, _⟩ := HBX.out _ hb; have HB1 := Lib.hid hb; clear hb HLV)
    | (go_at_call 10; refine (HFR.out _).mono ?_; rintro e w2 ⟨bm, gm, rfl, hn, hm, hb⟩; obtain ⟨⟨q0, q1, q2, q3⟩, _⟩ := HBX.out _ (below_step HB1.out hb); have HM := Lib.hid (And.intro hm (And.intro (below_step HB1.out hb) (And.intro (Nat.le_trans HB1.out.size hn.1) (Nat.le_trans HB1.out.size hn.2)))); clear hn hm hb HFR HB1)
    | (go_at_call 25; refine (HP0.out _ _ _ HM.out.1).mono ?_; rintro e w3 ⟨rfl, hm, hc⟩; obtain ⟨⟨q0, q1, q2, q3⟩, _⟩ := HBX.out _ (HM.out.2.1.trans (hc.below HM.out.2.2.1 HM.out.2.2.2 HM.out.2.1.size)); replace HM := Lib.hid (And.intro hm (And.intro (HM.out.2.1.trans (hc.below HM.out.2.2.1 HM.out.2.2.2 HM.out.2.1.size)) HM.out.2.2)); clear hm hc HP0)
    | (go_at_call 25; refine (HP1.out _ _ _ HM.out.1).mono ?_; rintro e w3 ⟨rfl, hm, hc⟩; obtain ⟨⟨q0, q1, q2, q3⟩, _⟩ := HBX.out _ (HM.out.2.1.trans (hc.below HM.out.2.2.1 HM.out.2.2.2 HM.out.2.1.size)); replace HM := Lib.hid (And.intro hm (And.intro (HM.out.2.1.trans (hc.below HM.out.2.2.1 HM.out.2.2.2 HM.out.2.1.size)) HM.out.2.2)); clear hm hc HP1)
    | (go_at_call 25; refine (HP2.out _ _ _ HM.out.1).mono ?_; rintro e w3 ⟨rfl, hm, hc⟩; obtain ⟨⟨q0, q1, q2, q3⟩, _⟩ := HBX.out _ (HM.out.2.1.trans (hc.below HM.out.2.2.1 HM.out.2.2.2 HM.out.2.1.size)); replace HM := Lib.hid (And.intro hm (And.intro (HM.out.2.1.trans (hc.below HM.out.2.2.1 HM.out.2.2.2 HM.out.2.1.size)) HM.out.2.2)); clear hm hc HP2)
    | (go_at_call 9; refine (HPK.out _ _ _ _ _ HM.out.1).mono ?_; rintro e w4 ⟨rfl, hb⟩; have HM4 := Lib.hid (And.intro (HM.out.1.on hb) (And.intro (below_step HM.out.2.1 hb) HM.out.2.2)); clear hb HM HPK)
    | (go_at_call 26; refine (HRD.out _).mono ?_; rintro e w5 ⟨br, rfl, hq, hr, hb⟩; obtain ⟨⟨u0, u1, u2, u3⟩, _⟩ := box3 ((hb.block w4.heap.size (by simp)).trans (alloc_at rfl)); obtain ⟨⟨q0, q1, q2, q3⟩, _⟩ := HBX.out _ (below_step (bl_alloc HM4.out.2.1 _) hb); have HT := Lib.hid (duo_new (bl_alloc HM4.out.2.1 _) (HM4.out.1.alloc _) HM4.out.2.2.1 HM4.out.2.2.2 hq hr hb); clear hq hr hb HRD))
  clear q0 q1 q2 q3 u0 u1 u2 u3
  go_loopw [10, 11] (fun vo vi wr => ∃ k : Nat, vi = .int .i64 k ∧ vo = .bool (decide (k = K)) ∧ k ≤ K ∧ Hid (∃ o n, Duo V wr bm gm br [a, b, c] o n (qs a b c s k))) (fun _ vi _ => K - (intOf vi).toNat)
  case atStart => exact ⟨0, rfl, by rw [decide_eq_false (by have := HK0.out; omega)], Nat.zero_le _, _, _, HT.out⟩
  case round =>
    clear HT
    obtain ⟨k, rfl, rfl, hk, HR⟩ := hrel
    obtain ⟨o, n, hr⟩ := HR.out
    have HT := Lib.hid hr
    clear hr HR
    by_cases hlt : k < K
    · have h4 : (k : Int) < 4 := by have := HK3.out; omega
      have hd : decide (k = K) = false := decide_eq_false (by omega)
      have HSRK := Lib.hid (fun w n (h : Duo V w bm gm br [a, b, c] true n (qs a b c s k)) => HSR.out w bm gm br n k hlt h)
      rw [hd]
      generalize hdd : decide (k + 1 = K) = dd at HSRK
      have HDD := Lib.hid hdd
      clear hdd hd HSR HLQ HKS HCA
      go_wp2_with (first
        | (go_at_call 28; refine HT.out.opened.mono ?_; rintro e w7 ⟨rfl, h⟩; have HT7 := Lib.hid h; clear h HT)
        | (go_at_call 29; refine (HSRK.out _ _ HT7.out).mono ?_; rintro e w8 ⟨rfl, n', h⟩; have HT8 := Lib.hid h; clear h HT7))
      exact ⟨⟨k + 1, by first | rfl | (congr 1), by rw [HDD.out], by omega, _, _, HT8.out⟩, by simp [intOf]; omega⟩
    · obtain rfl : k = K := by omega
      have hk4 : (k : Int) < 4 := by have := HK3.out; omega
      have hd : decide (k = k) = true := decide_eq_true rfl
      rw [hd]
      obtain ⟨⟨q0, q1, q2, q3⟩, _⟩ := HBX.out _ HT.out.below
      obtain ⟨l1, l2, l3⟩ := HLQ.out
      have HV : Hid (∀ (w : World), RdAt w br (qs a b c s k) → Calls Try.prog 32 #[.pointer (some ⟨br, 0, none⟩)] w fun e w' => e = .returned (.float .f64 A) ∧ w' = w) := fun w h => by have := value_any h; rw [l3] at this; exact this
      have HTN : Hid (∀ (w : World), RdAt w br (qs a b c s k) → Calls Try.prog 34 #[.pointer (some ⟨br, 0, none⟩)] w fun e w' => e = .returned (.bool false) ∧ w' = w) := fun w h => by have := torn_any h; rw [l1] at this; exact this
      have HSP : Hid (∀ (w : World), RdAt w br (qs a b c s k) → Calls Try.prog 31 #[.pointer (some ⟨br, 0, none⟩)] w fun e w' => e = .returned (.int .i64 (k : Int)) ∧ w' = w) := fun w h => by have := steps_any h; rw [l2] at this; exact this
      generalize qs a b c s k = rr at *
      clear l1 l2 l3 HLQ HSR hd hlt hk
      rcases HKS.out with ⟨hs, rfl, rfl⟩ | ⟨hs, rfl, rfl⟩
      · clear HKS
        go_wp2_with (go_at_call 24; refine (raw_int _ _).mono ?_; rintro e w7 ⟨rfl, hw⟩; subst w7)
        go_region_held (fun u => u.cell? ⟨W.heap.size, 0, none⟩ = some (.int .u64 a) ∧ u.cell? ⟨W.heap.size, 1, none⟩ = some (.int .u64 b) ∧ u.cell? ⟨W.heap.size, 2, none⟩ = some (.int .u64 c)) (go_keep) (first
          | (go_at_call 21; refine (exact_any _ _ _).mono ?_; rintro e w7 ⟨rfl, hw⟩; subst w7)
          | (go_at_call 33; refine (refFix_any _ _).mono ?_; rintro e w7 ⟨rfl, hw⟩; subst w7)
          | (go_at_call 34; refine (HTN.out _ (HT.out.on (by repeat (first | exact Below.refl _ _ | refine bl_drew ?_ | refine bl_drewN _ ?_ | refine bl_alloc ?_ _ | refine bl_setCell ?_ (by simp) _ _ | refine bl_setRow ?_ (by simp) _))).rd).mono ?_; rintro e w7 ⟨rfl, hw⟩; subst w7)
          | (go_at_call 31; refine (HSP.out _ (HT.out.on (by repeat (first | exact Below.refl _ _ | refine bl_drew ?_ | refine bl_drewN _ ?_ | refine bl_alloc ?_ _ | refine bl_setCell ?_ (by simp) _ _ | refine bl_setRow ?_ (by simp) _))).rd).mono ?_; rintro e w7 ⟨rfl, hw⟩; subst w7)
          | (go_at_call 32; refine (HV.out _ (HT.out.on (by repeat (first | exact Below.refl _ _ | refine bl_drew ?_ | refine bl_drewN _ ?_ | refine bl_alloc ?_ _ | refine bl_setCell ?_ (by simp) _ _ | refine bl_setRow ?_ (by simp) _))).rd).mono ?_; rintro e w7 ⟨rfl, hw⟩; subst w7)
          | (go_at_call 22; refine (HCA.out _).mono ?_; rintro e w7 ⟨rfl, hb⟩; replace HT := Lib.hid ((HT.out.on (by repeat (first | exact Below.refl _ _ | refine bl_drew ?_ | refine bl_drewN _ ?_ | refine bl_alloc ?_ _ | refine bl_setCell ?_ (by simp) _ _ | refine bl_setRow ?_ (by simp) _))).on hb); obtain ⟨⟨q0, q1, q2, q3⟩, _⟩ := HBX.out _ HT.out.below; clear hb))
        go_wp2
        go_ret
        exact ⟨by simp, (HBX.out _ (HT.out.on (by repeat (first | exact Below.refl _ _ | refine bl_drew ?_ | refine bl_drewN _ ?_ | refine bl_alloc ?_ _ | refine bl_setCell ?_ (by simp) _ _ | refine bl_setRow ?_ (by simp) _))).below).2.out⟩
      · clear HKS
        have hs2 : decide (s < a) = false := decide_eq_false (by omega)
        have hs3 : (s < a) = False := eq_false (by omega)
        go_wp2_with (go_at_call 24; refine (raw_int _ _).mono ?_; rintro e w7 ⟨rfl, hw⟩; subst w7)
        go_region_held (fun u => u.cell? ⟨W.heap.size, 0, none⟩ = some (.int .u64 a) ∧ u.cell? ⟨W.heap.size, 1, none⟩ = some (.int .u64 b) ∧ u.cell? ⟨W.heap.size, 2, none⟩ = some (.int .u64 c)) (go_keep) (first
          | (go_at_call 21; refine (exact_any _ _ _).mono ?_; rintro e w7 ⟨rfl, hw⟩; subst w7)
          | (go_at_call 33; refine (refFix_any _ _).mono ?_; rintro e w7 ⟨rfl, hw⟩; subst w7)
          | (go_at_call 34; refine (HTN.out _ (HT.out.on (by repeat (first | exact Below.refl _ _ | refine bl_drew ?_ | refine bl_drewN _ ?_ | refine bl_alloc ?_ _ | refine bl_setCell ?_ (by simp) _ _ | refine bl_setRow ?_ (by simp) _))).rd).mono ?_; rintro e w7 ⟨rfl, hw⟩; subst w7)
          | (go_at_call 31; refine (HSP.out _ (HT.out.on (by repeat (first | exact Below.refl _ _ | refine bl_drew ?_ | refine bl_drewN _ ?_ | refine bl_alloc ?_ _ | refine bl_setCell ?_ (by simp) _ _ | refine bl_setRow ?_ (by simp) _))).rd).mono ?_; rintro e w7 ⟨rfl, hw⟩; subst w7)
          | (go_at_call 32; refine (HV.out _ (HT.out.on (by repeat (first | exact Below.refl _ _ | refine bl_drew ?_ | refine bl_drewN _ ?_ | refine bl_alloc ?_ _ | refine bl_setCell ?_ (by simp) _ _ | refine bl_setRow ?_ (by simp) _))).rd).mono ?_; rintro e w7 ⟨rfl, hw⟩; subst w7)
          | (go_at_call 22; refine (HCA.out _).mono ?_; rintro e w7 ⟨rfl, hb⟩; replace HT := Lib.hid ((HT.out.on (by repeat (first | exact Below.refl _ _ | refine bl_drew ?_ | refine bl_drewN _ ?_ | refine bl_alloc ?_ _ | refine bl_setCell ?_ (by simp) _ _ | refine bl_setRow ?_ (by simp) _))).on hb); obtain ⟨⟨q0, q1, q2, q3⟩, _⟩ := HBX.out _ HT.out.below; clear hb))
        go_wp2
        go_ret
        exact ⟨by simp, (HBX.out _ (HT.out.on (by repeat (first | exact Below.refl _ _ | refine bl_drew ?_ | refine bl_drewN _ ?_ | refine bl_alloc ?_ _ | refine bl_setCell ?_ (by simp) _ _ | refine bl_setRow ?_ (by simp) _))).below).2.out⟩

set_option maxRecDepth 100000 in
theorem lifted (os : Os) (started : os.Started) (H : Type) (enc : TypeId × Value → H) :
    ReturnsInHanded {} Try.checked os 8 .any (Rows.cellsQuietSpec.pre6 enc Try.prog Try.f8 Rows.cellsQuietRow.domain false) (Rows.cellsQuietSpec.post enc Try.prog Try.f8 false true false false) := by
  refine returnsInHanded_of_change (C := Try.checked) ownK started (by kernel_rfl) Try.func8
    (ChangeSpec.witness6 (enc := enc) (C := Try.checked) false ⟨#[], #[.agg #[.int .u64 0, .int .u64 0, .int .u64 0], .int .u64 0], []⟩ 8 (by kernel_rfl) (by kernel_rfl) (by kernel_rfl) (by kernel_rfl)) ?_
  intro W base args ds gs before hval0 hW _ _
  have hval : ∀ (j : Nat) t v, Try.f8.params[j]? = some t → args[j]? = some v → Value.okWide Try.prog W .any base t v := hval0
  have hW2 := hW
  obtain ⟨p, q, hA0, hV, rfl, _, _⟩ := hW
  have hA : DataW.TrodAll enc Try.prog W 0 (fun _ => true) true Try.f8.params.toList args.toList ds p := hA0
  rw [Try.params8] at hA hval
  obtain ⟨v0, vs0, d0, ds0, p0, q0, hargs, rfl, rfl, h0, r0⟩ := trodAll_cons hA
  obtain ⟨v1, vs1, d1, ds1, p1, q1, rfl, rfl, rfl, h1, r1⟩ := trodAll_cons r0
  obtain ⟨rfl, rfl, rfl⟩ := trodAll_nil r1
  obtain rfl : args = #[v0, v1] := by cases args; simp_all
  obtain ⟨rfl, rfl⟩ := trodVars_none hV
  obtain ⟨a0, b0, c0, rfl⟩ := open_trip (hval 0 24 v0 rfl rfl) h0
  obtain ⟨a1, rfl, rfl, rfl, w1⟩ := open_int Try.underlying22 (hval 1 22 v1 rfl rfl) h1
  clear hA0 hval0
  simp only [List.append_nil] at hW2
  have hlt : ∀ x ∈ p0, x.block < W.heap.size := fun x hx => by simpa using hW2.lt x (by simpa using hx)
  refine (walk a0 b0 c0 a1 w1 W).mono fun e W2 ⟨he, hnx⟩ => ?_
  subst he
  exact ⟨_, rfl, _, _, _, [], _, [], hW2, trodAll_mk1 (shut_bool Try.underlying4 _), (trodAll_cons_mk (Below.trod laidOut (by kernel_rfl) (of_decide_eq_true (by kernel_rfl)) h0 hnx (fun x hx => hlt x (by first | simpa using hx | (simp at hx ⊢; simp [hx])))) (trodAll_cons_mk (shut_int Try.underlying22 w1) trodAll_mk0)), rfl, hnx.frame _, fun h => by cases h⟩

/-- the statement -/
theorem proved : Rows.CellsQuietSaid :=
  OpenClaim.holds_of_wide 8 Try.f8 rfl rfl rfl rfl rfl rfl rfl ⟨rfl, rfl, rfl, rfl, rfl⟩ rfl rfl rfl rfl rfl (by kernel_rfl) Try.func8 (by kernel_rfl)
    (of_decide_eq_true (by kernel_rfl)) (by unfold Func.isWrapper; first | (rw [if_pos (by decide +kernel)]; kernel_rfl) | (rw [if_neg (by decide +kernel)]; exact ⟨rfl, rfl⟩))
    (fun os started H enc _ => lifted os started H enc)
end Go.Proofs.Ytmmijcmlnhmooaa.cellsQuiet
