/- For every config the statement MemDeals answers true: where the config may be, the places of the plan are the numbers from 0 on, each once, as many as Words says, and a memory of so many words can be made; where it may not be, the plan is empty and the error is ErrArg. No condition. -/
import Derived.Test.YtbeijepdklchaaaM8
import Derived.Test.YtbeijepdklchaaaM13
import Derived.Deep.Cut
namespace Go.Proofs.Ytbeijepdklchaaa.memDeals
open Go.ChangeShapes Go.WideShapes Go.ChangeAt Go.RowKit

set_option maxHeartbeats 8000000 in
set_option maxRecDepth 100000 in
theorem walk (a b c e : Int) (W : World) : Calls Try.prog 6 #[.agg #[.int .i64 a, .int .i64 b, .int .i64 c, .int .i64 e]] W fun r W2 => r = .returned (.bool true) ∧ Below W.heap.size W W2 := by
  cases hc : cfgB a b c e
  · have hpl := plan_eq
    have HP := fun W => place_any a b c e W
    rw [hc, if_neg Bool.false_ne_true] at HP
    replace HP := Lib.hid HP
    clear hc
    go_enter Try.func6, Try.ntmps6
    go_wp2_with (first
      | (go_at_call 11; refine (live_any _).mono ?_; rintro r w1 ⟨rfl, hb⟩; have HB1 := Lib.hid hb; have hx := (hb.block W.heap.size (by simp)).trans (heap_alloc_new W _); obtain ⟨q0, q1, q2, q3, q4⟩ := cells4 hx; clear hb hx)
      | (go_at_call 22; refine (HP.out _).mono ?_; rintro r w2 ⟨rfl, hb⟩; have HB2 := Lib.hid hb; clear hb))
    go_ret
    exact ⟨rfl, (below_chain (below_chain ((Below.refl _ _).alloc (Nat.le_refl _) _) HB1.out) HB2.out).alloc (by have h1 := q4; have h2 := HB2.out.size; omega) _⟩
  · obtain ⟨⟨a1, a2⟩, ⟨b1, b2⟩, _, _⟩ := cfgB_iff.1 hc
    have HP := fun W => place_any a b c e W
    rw [hc, if_pos rfl] at HP
    obtain ⟨C, rfl⟩ : ∃ C : Nat, a = C := ⟨a.toNat, by omega⟩
    obtain ⟨T, rfl⟩ : ∃ T : Nat, b = T := ⟨b.toNat, by omega⟩
    replace HP := Lib.hid HP
    have HNW := fun w => new_at (3 + (T : Int) + 3 * (C : Int)) (by omega) (by omega) w
    replace HNW := Lib.hid HNW
    obtain ⟨Z, hmk, HZ⟩ := make_seen
    obtain ⟨i0, hi, hz0, hz1, hz2⟩ := info_parts intInfo
    have HZI := Lib.hid (And.intro hi (And.intro hz0 (And.intro hz1 hz2)))
    clear hc hi hz0 hz1 hz2
    go_enter Try.func6, Try.ntmps6
    go_wp2_with (first
      | (go_at_call 11; refine (live_any _).mono ?_; rintro r w1 ⟨rfl, hb⟩; have HB1 := Lib.hid hb; have hx := (hb.block W.heap.size (by simp)).trans (heap_alloc_new W _); have HX1 := Lib.hid hx; obtain ⟨q0, q1, q2, q3, q4⟩ := cells4 hx; clear hb hx)
      | (go_at_call 22; refine (HP.out _).mono ?_; rintro r w2 ⟨rfl, hb⟩; have HB2 := Lib.hid hb; have hx := (hb.block W.heap.size q4).trans HX1.out; have HX2 := Lib.hid hx; obtain ⟨s0, s1, s2, s3, s4⟩ := cells4 hx; clear hb hx q0 q1 q2 q3))
    have HD0 := Lib.hid (deal_new (Z := Z) HX2.out HB1.out HB2.out HZ.out)
    have HO0 : Hid ((((w2.alloc (.cells #[.int .i64 0, .int .i64 1, .int .i64 2, .int .i64 3, .int .i64 (3 + (T : Int)), .int .i64 (3 + (T : Int) + 3 * (C : Int))] 45)).alloc (.cells Z 3)).alloc (.cells #[.int .i64 0, .int .i64 1, .int .i64 2] 3)).ownsRow (w2.heap.size + 1 + 1) 3 1 (.slice (some ⟨w2.heap.size + 1 + 1, 0, none⟩) 3 3) 3 (upto 3)) := by
      have h := World.ownsRow_lit (base := w2.heap.size + 1 + 1) (e := 3) (size := 1) ((w2.alloc (.cells #[.int .i64 0, .int .i64 1, .int .i64 2, .int .i64 3, .int .i64 (3 + (T : Int)), .int .i64 (3 + (T : Int) + 3 * (C : Int))] 45)).alloc (.cells Z 3)) #[.int .i64 0, .int .i64 1, .int .i64 2] 3 (by simp) (by unfold maxLen; omega) rfl
      show World.ownsRow _ _ _ _ _ _ _
      rw [show upto 3 = [.int .i64 0, .int .i64 1, .int .i64 2] from rfl]
      simpa using h
    clear HX1 HX2 HB1 HB2 HZ q4 s0 s1 s2 s3 s4 hmk HP
    have hC : (C : Int) ≤ 256 := a2
    have hT : (T : Int) ≤ 8 := b2
    go_loopw [7, 8] (fun v vt wr => ∃ k : Nat, vt = .int .i64 k ∧ k ≤ T ∧ Hid (wr.ownsRow (w2.heap.size + 1 + 1) 3 1 v (3 + k) (upto (3 + k))) ∧ Hid (Deal W wr W.heap.size w2.heap.size (w2.heap.size + 1) (w2.heap.size + 1 + 1) C T c e 0)) (fun _ vt _ => T - (intOf vt).toNat)
    case atStart => exact ⟨0, rfl, Nat.zero_le _, HO0, HD0⟩
    case round =>
      clear HO0 HD0
      obtain ⟨k, rfl, hk, HO, HD⟩ := hrel
      obtain ⟨q0, q1, q2, q3, q4⟩ := cells4 HD.out.cfg
      obtain ⟨s0, s1, s2, s3, s4, s5, s6⟩ := cells6 HD.out.plan
      have HSZ : Hid (w2.heap.size + 1 < wr.heap.size) := HD.out.seen.lt
      by_cases hlt : k < T
      · have hlt' : (k : Int) < (T : Int) := by omega
        go_wp2_with (at_builtin; refine wpList_append_own _ rfl _ _ 49 rfl (w2.heap.size + 1 + 1) 3 i0 (.int .i64 0) 1 8 Try.underlying49 HZI.out.1 HZI.out.2.1 HZI.out.2.2.1 HZI.out.2.2.2 rfl (by decide) _ (3 + k) _ rfl (World.ownsRow.alloc HO.out _) ⟨wr.heap.size, 0, none⟩ 1 1 [.int .i64 (3 + (k : Int))] rfl rfl (cell_one_new _ _ _) (fun u hu => by simp at hu; subst hu; rfl) (by unfold maxLen; omega) (by omega) (by have := HSZ.out; simp; omega) ?_; intro v3 w3 hown3 hgrow3 hnil3; replace hown3 := Lib.hid hown3; have HD3 := Lib.hid (HD.out.app _ (fun j hj => (World.ownsRow.lt HO.out j hj).1) hgrow3); clear hgrow3 hnil3)
        have HF : Hid (w3.ownsRow (w2.heap.size + 1 + 1) 3 1 v3 (3 + (k + 1)) (upto (3 + (k + 1)))) := by
          show w3.ownsRow _ _ _ _ (3 + k + 1) (upto (3 + k + 1))
          rw [upto_succ, show (((3 + k : Nat)) : Int) = 3 + (k : Int) by omega]
          exact hown3.out
        exact ⟨⟨k + 1, by first | rfl | (congr 1), by omega, HF, HD3⟩, by simp [intOf]; omega⟩
      · have hlt' : ¬ (k : Int) < (T : Int) := by omega
        have ek : k = T := by omega
        subst ek
        clear hk hlt
        go_wp2
        go_loopw [7, 9] (fun v vt wr => ∃ j : Nat, vt = .int .i64 j ∧ j ≤ 3 * C ∧ Hid (wr.ownsRow (w2.heap.size + 1 + 1) 3 1 v (3 + k + j) (upto (3 + k + j))) ∧ Hid (Deal W wr W.heap.size w2.heap.size (w2.heap.size + 1) (w2.heap.size + 1 + 1) C k c e 0)) (fun _ vt _ => 3 * C - (intOf vt).toNat)
        case atStart => exact ⟨0, rfl, Nat.zero_le _, HO, HD⟩
        case round =>
          clear HO HD q0 q1 q2 q3 q4 s0 s1 s2 s3 s4 s5 s6 HSZ
          obtain ⟨j, rfl, hj, HO, HD⟩ := hrel
          obtain ⟨q0, q1, q2, q3, q4⟩ := cells4 HD.out.cfg
          obtain ⟨s0, s1, s2, s3, s4, s5, s6⟩ := cells6 HD.out.plan
          have HSZ : Hid (w2.heap.size + 1 < wr.heap.size) := HD.out.seen.lt
          by_cases hlt : j < 3 * C
          · have hlt2 : (j : Int) < 3 * (C : Int) := by omega
            go_wp2_with (at_builtin; refine wpList_append_own _ rfl _ _ 49 rfl (w2.heap.size + 1 + 1) 3 i0 (.int .i64 0) 1 8 Try.underlying49 HZI.out.1 HZI.out.2.1 HZI.out.2.2.1 HZI.out.2.2.2 rfl (by decide) _ (3 + k + j) _ rfl (World.ownsRow.alloc HO.out _) ⟨wr.heap.size, 0, none⟩ 1 1 [.int .i64 (3 + (k : Int) + (j : Int))] rfl rfl (cell_one_new _ _ _) (fun u hu => by simp at hu; subst hu; rfl) (by unfold maxLen; omega) (by omega) (by have := HSZ.out; simp; omega) ?_; intro v3 w3 hown3 hgrow3 hnil3; replace hown3 := Lib.hid hown3; have HD3 := Lib.hid (HD.out.app _ (fun j hj => (World.ownsRow.lt HO.out j hj).1) hgrow3); clear hgrow3 hnil3)
            have HF : Hid (w3.ownsRow (w2.heap.size + 1 + 1) 3 1 v3 (3 + k + (j + 1)) (upto (3 + k + (j + 1)))) := by
              show w3.ownsRow _ _ _ _ (3 + k + j + 1) (upto (3 + k + j + 1))
              rw [upto_succ, show (((3 + k + j : Nat)) : Int) = 3 + (k : Int) + (j : Int) by omega]
              exact hown3.out
            exact ⟨⟨j + 1, by first | rfl | (congr 1), by omega, HF, HD3⟩, by simp [intOf]; omega⟩
          · have hlt2 : ¬ (j : Int) < 3 * (C : Int) := by omega
            have ej : j = 3 * C := by omega
            subst ej
            obtain ⟨tot, htot⟩ : ∃ tot, tot = 3 + k + 3 * C := ⟨_, rfl⟩
            have h0 := HO.out
            rw [← htot] at h0
            have HTOT := Lib.hid htot
            rcases h0.2 with ⟨_, q⟩ | ⟨gl, cl, _, hv, hgl, _⟩
            · omega
            subst hv
            have HGL : Hid (∀ i, i < tot → wr.cell? ⟨gl, i, none⟩ = some (.int .i64 (i : Int))) := by
              intro i hi
              rw [World.ownsRow.cellAt h0 i (by omega), upto_at _ _ hi]
            have HNE : Hid (gl ≠ w2.heap.size + 1) := by
              show gl ≠ _
              omega
            have ht1 : (tot : Int) ≤ 779 := by omega
            clear htot h0 HO hj hlt hgl
            go_wp2
            go_loopw [77] (fun vi wq => ∃ i : Nat, vi = .int .i64 i ∧ i ≤ tot ∧ Hid (Deal W wq W.heap.size w2.heap.size (w2.heap.size + 1) (w2.heap.size + 1 + 1) C k c e i) ∧ Hid (∀ i, i < tot → wq.cell? ⟨gl, i, none⟩ = some (.int .i64 (i : Int)))) (fun vi _ => tot - (intOf vi).toNat)
            case atStart => exact ⟨0, rfl, Nat.zero_le _, HD, HGL⟩
            case round =>
              clear HD HGL q0 q1 q2 q3 q4 s0 s1 s2 s3 s4 s5 s6 HSZ
              obtain ⟨i, rfl, hi, HD, HGL⟩ := hrel
              obtain ⟨s0, s1, s2, s3, s4, s5, s6⟩ := cells6 HD.out.plan
              by_cases hit : i < tot
              · have hit2 : (i : Int) < (tot : Int) := by omega
                have hit3 : (i : Int) < 779 := by omega
                have hit4 : (i : Int) < 3 + (k : Int) + 3 * (C : Int) := by
                  have := HTOT.out
                  omega
                have z0 := HGL.out i hit
                have z1 := HD.out.seen.cell (by omega)
                have z2 := HD.out.seen.free i
                have z3 := HD.out.seen.lt
                have HD4 := Lib.hid HD.out.set
                have HG4 : Hid (∀ j, j < tot → (wr.setCell ⟨w2.heap.size + 1, i, none⟩ (.int .i64 1)).cell? ⟨gl, j, none⟩ = some (.int .i64 (j : Int))) := by
                  intro j hj
                  rw [World.cell?_setCell_other (h := fun q => HNE.out (congrArg Addr.block q).symm)]
                  exact HGL.out j hj
                clear HD HGL
                go_wp2
                exact ⟨⟨i + 1, by first | rfl | (congr 1), by omega, HD4, HG4⟩, by simp [intOf]; omega⟩
              · have hit2 : ¬ (i : Int) < (tot : Int) := by omega
                have hbW := HD.out.below
                have HBW := Lib.hid hbW
                have HPL := Lib.hid HD.out.plan
                clear HD HGL hi hbW
                go_upto_region 25 with (go_at_call 9; refine (HNW.out _).mono ?_; rintro r w5 ⟨ws5, rfl, hl5, hx5, hm5, hb5⟩; have HM5 := Lib.hid hm5; have HL5 := Lib.hid hl5; have HB5 := Lib.hid (below_chain HBW.out hb5); have hx := (hb5.block w2.heap.size s6).trans HPL.out; obtain ⟨z0, z1, z2, z3, z4, z5, z6⟩ := cells6 hx; clear hm5 hl5 hx5 hb5 hx)
                have hq1 : ((tot : Int) == 3 + (k : Int) + 3 * (C : Int)) = true := by
                  rw [beq_iff_eq]
                  have := HTOT.out
                  omega
                have HLN : Hid (∀ m, Calls Try.prog 10 #[.pointer (some ⟨wr.heap.size + 1, 0, none⟩)] (w5.drewN m) fun e w' => e = .returned (.int .i64 (3 + (k : Int) + 3 * (C : Int))) ∧ w' = w5.drewN m) := by
                  intro m
                  have h := len_any (HM5.out.on (drewN_below w5 m))
                  rw [HL5.out] at h
                  exact h
                go_quiet ((go_at_call 10; exact Calls.quiet_of_same (HLN.out _)))
                go_wp2
                go_ret
                exact ⟨rfl, below_chain HB5.out (drewN_below _ _)⟩

set_option maxRecDepth 100000 in
theorem lifted (os : Os) (started : os.Started) (H : Type) (enc : TypeId × Value → H) :
    ReturnsInHanded {} Try.checked os 6 .any (Rows.memDealsSpec.pre6 enc Try.prog Try.f6 Rows.memDealsRow.domain false) (Rows.memDealsSpec.post enc Try.prog Try.f6 false true false false) := by
  refine returnsInHanded_of_change (C := Try.checked) ownK started (by kernel_rfl) Try.func6
    (ChangeSpec.witness6 (enc := enc) (C := Try.checked) false ⟨#[], #[.agg #[.int .i64 0, .int .i64 0, .int .i64 0, .int .i64 0]], []⟩ 8 (by kernel_rfl) (by kernel_rfl) (by kernel_rfl) (by kernel_rfl)) ?_
  intro W base args ds gs before hval0 hW _ _
  have hval : ∀ (j : Nat) t v, Try.f6.params[j]? = some t → args[j]? = some v → Value.okWide Try.prog W .any base t v := hval0
  have hW2 := hW
  obtain ⟨p, q, hA0, hV, rfl, _, _⟩ := hW
  have hA : DataW.TrodAll enc Try.prog W 0 (fun _ => true) true Try.f6.params.toList args.toList ds p := hA0
  rw [Try.params6] at hA hval
  obtain ⟨v0, vs0, d0, ds0, p0, q0, hargs, rfl, rfl, h0, r0⟩ := trodAll_cons hA
  obtain ⟨rfl, rfl, rfl⟩ := trodAll_nil r0
  obtain rfl : args = #[v0] := by cases args; simp_all
  obtain ⟨rfl, rfl⟩ := trodVars_none hV
  obtain ⟨a0, b0, c0, e0, rfl⟩ := open_cfg (hval 0 43 v0 rfl rfl) h0
  clear hA0 hval0
  simp only [List.append_nil] at hW2
  have hlt : ∀ x ∈ p0, x.block < W.heap.size := fun x hx => by simpa using hW2.lt x (by simpa using hx)
  refine (walk a0 b0 c0 e0 W).mono fun e W2 ⟨he, hnx⟩ => ?_
  subst he
  exact ⟨_, rfl, _, _, _, [], _, [], hW2, trodAll_mk1 (shut_bool Try.underlying4 _), (trodAll_cons_mk (Below.trod laidOut (by kernel_rfl) (of_decide_eq_true (by kernel_rfl)) h0 hnx (fun x hx => hlt x (by simpa using hx))) trodAll_mk0), rfl, hnx.frame _, fun h => by cases h⟩

/-- the statement -/
theorem proved : Rows.MemDealsSaid :=
  OpenClaim.holds_of_wide 6 Try.f6 rfl rfl rfl rfl rfl rfl rfl ⟨rfl, rfl, rfl, rfl, rfl⟩ rfl rfl rfl rfl rfl (by kernel_rfl) Try.func6 (by kernel_rfl)
    (of_decide_eq_true (by kernel_rfl)) (by unfold Func.isWrapper; first | (rw [if_pos (by decide +kernel)]; kernel_rfl) | (rw [if_neg (by decide +kernel)]; exact ⟨rfl, rfl⟩))
    (fun os started H enc _ => lifted os started H enc)
end Go.Proofs.Ytbeijepdklchaaa.memDeals
