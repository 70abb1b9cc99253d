/- For every bound and every script of steps the statement BufferPlays answers true: each answer of the program's buffer, of its clones too, is the document's, and so are the length and the list at the end; where the document makes no buffer the program makes none. No condition. -/
import Derived.Test.YtlebjdohneiaaaaYO
import Derived.Test.YtlebjdohneiaaaaYQ
namespace Go.Proofs.Ytlebjdohneiaaaa.bufferPlays
open Go.ChangeShapes Go.WideShapes Go.ChangeAt Go.RowKit

set_option maxHeartbeats 4000000 in
set_option maxRecDepth 100000 in
theorem walk (a0 : Int) (ao : Option Addr) (len cap : Nat) (K C : Nat → Int) (X : Nat → Nat) (_w0 : (Lit.int .i64 a0).wf = true) (hmax : len ≤ maxLen) (W : World) (hops : BopsAt W ao len K C X) : Calls Try.prog 4 #[.int .i64 a0, .slice ao len cap] W fun r W2 => r = .returned (.bool true) ∧ Below W.heap.size W W2 := by
  have hmm : len ≤ 9223372036854775807 := hmax
  have HOPS := Lib.hid hops
  clear hops hmax _w0
  cases hn : mayM a0
  · have HN := Lib.hid (fun w => new_none hn w)
    have HRN := Lib.hid (fun w => refNew_none hn w)
    clear hn
    go_enter Try.func4, Try.ntmps4
    go_wp2_with (first
      | (go_at_call 9; refine (live_any _).mono ?_; rintro e w1 ⟨rfl, hb⟩; have HB1 := Lib.hid hb; clear hb)
      | (go_at_call 7; refine (HN.out _).mono ?_; rintro e w2 ⟨rfl, hw⟩; subst w2)
      | (go_at_call 10; refine (HRN.out _).mono ?_; rintro e w2 ⟨rfl, hw⟩; subst w2))
    go_ret
    exact ⟨by simp, HB1.out⟩
  · have HN := Lib.hid (fun w => new_some hn w)
    have HRN := Lib.hid (fun w => refNew_some hn w)
    clear hn
    go_enter Try.func4, Try.ntmps4
    go_wp2_with (first
      | (go_at_call 10; refine (HRN.out _).mono ?_; rintro e w3 ⟨br, G, rfl, hc, ha, hb⟩; have HG3 := Lib.hid (goes_new HB1.out HC2.out HA2.out HB2.out hc ha hb); clear hc ha hb)
      | (go_at_call 7; refine (HN.out _).mono ?_; rintro e w2 ⟨bm, F, rfl, hc, ha, hb⟩; have HC2 := Lib.hid hc; have HA2 := Lib.hid ha; have HB2 := Lib.hid hb; clear hc ha hb)
      | (go_at_call 9; refine (live_any _).mono ?_; rintro e w1 ⟨rfl, hb⟩; have HB1 := Lib.hid hb; clear hb))
    clear HB1 HC2 HA2 HB2 HN HRN
    go_loopw [6, 42] (fun vb vi wr => ∃ (i bm : Nat), vb = .pointer (some ⟨bm, 0, none⟩) ∧ vi = .int .i64 i ∧ i ≤ len ∧ Hid (Goes W wr bm br a0)) (fun _ vi _ => len - (intOf vi).toNat)
    case atStart => exact ⟨0, _, rfl, rfl, Nat.zero_le _, HG3⟩
    case round =>
      clear HG3
      obtain ⟨i, bm, rfl, rfl, hi, HG⟩ := hrel
      obtain ⟨Fm, Fr, l, hp⟩ := HG.out
      by_cases hlt : i < len
      · have hlt' : (i : Int) < (len : Int) := by omega
        obtain ⟨b0, off, hao, hbW, k0, k1, k2, hwf, _⟩ := HOPS.out i hlt
        subst hao
        rw [← hp.below.cell (p := ⟨b0, off + i * 3, none⟩) hbW] at k0
        rw [← hp.below.cell (p := ⟨b0, off + i * 3 + 1, none⟩) hbW] at k1
        rw [← hp.below.cell (p := ⟨b0, off + i * 3 + 2, none⟩) hbW] at k2
        have hbw : b0 < wr.heap.size := Nat.lt_of_lt_of_le hbW hp.below.size
        have HSTEP : Hid (∀ w1 bm1, Goes W w1 bm1 br a0 → Calls Try.prog 13 #[.pointer (some ⟨bm1, 0, none⟩), .pointer (some ⟨br, 0, none⟩), .agg #[.int .i64 (K i), .int .i64 (C i), .int .u64 (X i)]] w1 fun e w' => e = .returned (.bool true) ∧ Goes W w' bm1 br a0) := fun w1 bm1 hg => step_any hg (K i) hwf (X i)
        clear hwf
        generalize K i = kk at k0 HSTEP
        generalize C i = cc at k1 HSTEP
        generalize X i = xx at k2 HSTEP
        have HP := Lib.hid (hp.alloc (.cells #[.int .i64 kk, .int .i64 cc, .int .u64 xx] 34))
        have HX := Lib.hid (heap_alloc_new wr (.cells #[.int .i64 kk, .int .i64 cc, .int .u64 xx] 34))
        have HBL := Lib.hid hp.m.blw
        clear hp HG hbW
        by_cases h6 : kk = 5
        · subst h6
          go_wp2_with (first
            | (go_at_call 13; refine (HSTEP.out _ _ HG5.out).mono ?_; rintro e w6 ⟨rfl, hg⟩; have HG6 := Lib.hid hg; clear hg)
            | (go_at_call 12; refine (stir_any (HP.out.m.on HB4.out)).mono ?_; rintro e w5 ⟨F5, rfl, hc⟩; have HG5 := Lib.hid (Goes.mk (HP.out.clone HM4.out HA4.out HB4.out hc)); have hx := (box_old hc HBL.out HB4.out).trans HX.out; obtain ⟨q0, q1, q2, q3⟩ := cells3 hx; clear hc hx)
            | (go_at_call 11; refine (clone_any HP.out.m).mono ?_; rintro e w4 ⟨nb, F', rfl, hm, ha, hb⟩; have HM4 := Lib.hid hm; have HA4 := Lib.hid ha; have HB4 := Lib.hid hb; clear hm ha hb))
          exact ⟨⟨i + 1, _, rfl, by first | rfl | (congr 1), by omega, HG6⟩, by simp [intOf]; omega⟩
        by_cases h7 : kk = 6
        · subst h7
          go_wp2_with (first
            | (go_at_call 13; refine (HSTEP.out _ _ HG5.out).mono ?_; rintro e w6 ⟨rfl, hg⟩; have HG6 := Lib.hid hg; clear hg)
            | (go_at_call 12; refine (stir_any HM4.out).mono ?_; rintro e w5 ⟨F5, rfl, hc⟩; have HG5 := Lib.hid (Goes.mk (HP.out.leave HA4.out HB4.out hc)); have hx := (box_new hc HA4.out HB4.out).trans HX.out; obtain ⟨q0, q1, q2, q3⟩ := cells3 hx; clear hc hx)
            | (go_at_call 11; refine (clone_any HP.out.m).mono ?_; rintro e w4 ⟨nb, F', rfl, hm, ha, hb⟩; have HM4 := Lib.hid hm; have HA4 := Lib.hid ha; have HB4 := Lib.hid hb; clear hm ha hb))
          exact ⟨⟨i + 1, _, rfl, by first | rfl | (congr 1), by omega, HG6⟩, by simp [intOf]; omega⟩
        go_wp2_with (go_at_call 13; refine (HSTEP.out _ _ (Goes.mk HP.out)).mono ?_; rintro e w6 ⟨rfl, hg⟩; have HG6 := Lib.hid hg; clear hg)
        exact ⟨⟨i + 1, _, rfl, by first | rfl | (congr 1), by omega, HG6⟩, by simp [intOf]; omega⟩
      · have hlt' : ¬ (i : Int) < (len : Int) := by omega
        have HL : Hid (l.length ≤ 9223372036854775807) := by have := hp.m.few; show l.length ≤ 9223372036854775807; omega
        have HP := Lib.hid hp
        clear hp HG hlt hi HOPS
        go_wp2_with (first
          | (go_at_call 14; refine (refAll_any HP.out.r).mono ?_; rintro e w1 ⟨p, c, rfl, hr, _, hb⟩; have HR1 := Lib.hid hr; have HP1 := Lib.hid (HP.out.on hb); clear hr hb)
          | (go_at_call 8; refine (len_any HP1.out.m).mono ?_; rintro e w2 ⟨rfl, hw⟩; subst w2)
          | (go_at_call 15; refine (refLen_any HP1.out.r).mono ?_; rintro e w2 ⟨rfl, hw⟩; subst w2)
          | (go_at_call 17; refine (all_any HP1.out.m).mono ?_; rintro e w2 ⟨rfl, hr, hb⟩; have HR2 := Lib.hid hr; have HR3 := Lib.hid (HR1.out.on hb); have HP2 := Lib.hid (HP1.out.on hb); clear hr hb HR1)
          | (go_at_call 16; refine (exact_same rfl HL.out HR2.out HR3.out).mono ?_; rintro e w3 ⟨rfl, hw⟩; have HP3 := Lib.hid (HP2.out.same hw); clear hw))
        go_ret
        exact ⟨by simp, HP3.out.below⟩

set_option maxRecDepth 100000 in
theorem lifted (os : Os) (started : os.Started) (H : Type) (enc : TypeId × Value → H) :
    ReturnsInHanded {} Try.checked os 4 .any (Rows.bufferPlaysSpec.pre6 enc Try.prog Try.f4 Rows.bufferPlaysRow.domain false) (Rows.bufferPlaysSpec.post enc Try.prog Try.f4 false true false false) := by
  refine returnsInHanded_of_change (C := Try.checked) ownK started (by kernel_rfl) Try.func4
    (ChangeSpec.witness6 (enc := enc) (C := Try.checked) false ⟨#[], #[.int .i64 0, .slice none 0 0], []⟩ 8 (by kernel_rfl) (by kernel_rfl) (by kernel_rfl) (by kernel_rfl)) ?_
  intro W base args ds gs before hval0 hW _ _
  have hval : ∀ (j : Nat) t v, Try.f4.params[j]? = some t → args[j]? = some v → Value.okWide Try.prog W .any base t v := hval0
  have hW2 := hW
  obtain ⟨p, q, hA0, hV, rfl, _, _⟩ := hW
  have hA : DataW.TrodAll enc Try.prog W 0 (fun _ => true) true Try.f4.params.toList args.toList ds p := hA0
  rw [Try.params4] at hA hval
  obtain ⟨v0, vs0, d0, ds0, p0, q0, hargs, rfl, rfl, h0, r0⟩ := trodAll_cons hA
  obtain ⟨v1, vs1, d1, ds1, p1, q1, rfl, rfl, rfl, h1, r1⟩ := trodAll_cons r0
  obtain ⟨rfl, rfl, rfl⟩ := trodAll_nil r1
  obtain rfl : args = #[v0, v1] := by cases args; simp_all
  obtain ⟨rfl, rfl⟩ := trodVars_none hV
  obtain ⟨a0, rfl, rfl, rfl, w0⟩ := open_int Try.underlying3 (hval 0 3 v0 rfl rfl) h0
  obtain ⟨o1, l1, c1, K1, C1, X1, rfl, fm1, fW1⟩ := open_bops (hval 1 28 v1 rfl rfl) h1
  clear hA0 hval0
  simp only [List.append_nil] at hW2
  have hlt : ∀ x ∈ p1, x.block < W.heap.size := fun x hx => by simpa using hW2.lt x (by simpa using hx)
  refine (walk a0 o1 l1 c1 K1 C1 X1 w0 fm1 W fW1).mono fun e W2 ⟨he, hnx⟩ => ?_
  subst he
  exact ⟨_, rfl, _, _, _, [], _, [], hW2, trodAll_mk1 (shut_bool Try.underlying4 _), (trodAll_cons_mk (shut_int Try.underlying3 w0) (trodAll_cons_mk (Below.trod laidOut (by kernel_rfl) (of_decide_eq_true (by kernel_rfl)) h1 hnx (fun x hx => hlt x (by first | simpa using hx | (simp at hx ⊢; simp [hx])))) trodAll_mk0)), rfl, hnx.frame _, fun h => by cases h⟩

/-- the statement -/
theorem proved : Rows.BufferPlaysSaid :=
  OpenClaim.holds_of_wide 4 Try.f4 rfl rfl rfl rfl rfl rfl rfl ⟨rfl, rfl, rfl, rfl, rfl⟩ rfl rfl rfl rfl rfl (by kernel_rfl) Try.func4 (by kernel_rfl)
    (of_decide_eq_true (by kernel_rfl)) (by unfold Func.isWrapper; first | (rw [if_pos (by decide +kernel)]; kernel_rfl) | (rw [if_neg (by decide +kernel)]; exact ⟨rfl, rfl⟩))
    (fun os started H enc _ => lifted os started H enc)
end Go.Proofs.Ytlebjdohneiaaaa.bufferPlays
