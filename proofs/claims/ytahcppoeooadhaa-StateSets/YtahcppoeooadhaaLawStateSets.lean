/- For every list of bits, every cell and every number's bits the statement StateSets answers true: a state made of the list tells it, one made of what All tells is the same, a Set that may be lays what it is handed, fixed, in its cell alone, and one that may not changes nothing; where the list is too short or too long there is no state, and ErrArg. No condition. -/
import Derived.Test.YtahcppoeooadhaaXO
import Derived.Test.YtahcppoeooadhaaXR
import Derived.Deep.DeepCutAuto
import Derived.Deep.Cut
import Derived.Deep.CutRange
namespace Go.Proofs.Ytahcppoeooadhaa.stateSets
open Go.ChangeShapes Go.WideShapes Go.ChangeAt Go.RowKit

open Num
attribute [local go_sem] run_store_float frombits_run bits_run
theorem same_fix (l : List Nat) : sameB ((l.map fixB).map fixB) (l.map fixB) = true := by
  unfold sameB
  rw [beq_iff_eq]
  simp [Function.comp_def, fixB_fixB]
/-- what lies in a cell behind the Set is what is wanted there, fixed -/
theorem wanted {l : List Nat} {cell : Int} {x i : Nat} (hi : i < l.length) : (setL (l.map fixB) cell x).getD i 0 = fixB (if (i : Int) = cell then x else (l.map fixB).getD i 0) := by
  have hm : i < (l.map fixB).length := by simpa using hi
  by_cases h : (i : Int) = cell
  · subst h
    have hh : hasN (l.map fixB).length (i : Int) = true := by rw [hasN_nat]; simpa using hi
    rw [if_pos rfl]
    unfold setL
    rw [hh]
    simp [hi]
  · rw [if_neg h]
    have e : (l.map fixB).getD i 0 = fixB (l.getD i 0) := by simp [hi]
    rw [e, fixB_fixB]
    unfold setL
    split
    · rename_i hh
      obtain ⟨k, rfl, hk⟩ := hasN_pos hh
      have hne : k ≠ i := fun z => h (by rw [z])
      simp [hi, hne]
    · exact e
section
variable {w : World} {bm : Nat} {F l : List Nat} {n : Nat}
theorem get_in (h : Cel 54 w bm F l) (hl : l.length = n) (i : Nat) (hi : i < n) : Calls Try.prog 20 #[.pointer (some ⟨bm, 0, none⟩), .int .i64 i] w fun e w' => e = .returned (.tuple #[.float .f64 (l.getD i 0), .int .i64 0]) ∧ w' = w := by
  have hh : hasN l.length (i : Int) = true := by rw [hasN_nat]; simp; omega
  have := get_any h i
  unfold getV cellE at this
  rw [hh] at this
  simpa using this
end
set_option maxHeartbeats 4000000 in
set_option maxRecDepth 100000 in
theorem walk (bo : Option Addr) (bcap : Nat) (l : List Nat) (cell a2 : Int) (_hm0 : l.length ≤ maxLen ∧ ∀ i, i < l.length → l.getD i 0 < 18446744073709551616) (hz0 : l.length * 8 ≤ reachBytes) (_w1 : (Lit.int .i64 cell).wf = true) (w2 : (Lit.int .u64 a2).wf = true) (W : World) (hbits : BitsAt W bo l) : Calls Try.prog 6 #[.slice bo l.length bcap, .int .i64 cell, .int .u64 a2] W fun r W2 => r = .returned (.bool true) ∧ Below W.heap.size W W2 := by
  obtain ⟨x, rfl, _⟩ := nat_of_u64 w2
  have HF : Hid (∀ w, Below W.heap.size W w → Calls Try.prog 14 #[.slice bo l.length bcap] w fun e w' => ∃ q c, e = .returned (.slice q l.length c) ∧ RowAt 44 w' q c (fls l) ∧ Abv w.heap.size (fpR q) ∧ Below w.heap.size w w') := fun w k => floats_any (hbits.on k (Nat.le_refl _)) hz0
  clear _hm0 hbits hz0 w2 _w1
  cases hn : mayN (l.length : Int)
  · have HN : Hid (∀ w q c, Calls Try.prog 13 #[.slice q l.length c] w fun e w' => e = .returned (.tuple #[.pointer none, .int .i64 1]) ∧ w' = w) := fun w q c => of_none hn w
    have hor : (l.length : Int) < 1 ∨ (¬ (l.length : Int) < 1 ∧ 256 < (l.length : Int)) := by unfold mayN at hn; simp at hn; omega
    clear hn
    rcases hor with h1 | ⟨h1, h2⟩
    all_goals
      go_enter Try.func6, Try.ntmps6
      go_wp2_with (first
        | (go_at_call 13; refine (HN.out _ _ _).mono ?_; rintro e w3 ⟨rfl, hw⟩; subst w3)
        | (go_at_call 14; refine (HF.out _ HB1.out).mono ?_; rintro e w2 ⟨q, c, rfl, hr, ha, hb⟩; have HB2 := Lib.hid (below_chain HB1.out hb); clear hr ha hb)
        | (go_at_call 10; refine (live_any _).mono ?_; rintro e w1 ⟨rfl, hb⟩; have HB1 := Lib.hid hb; clear hb))
      go_ret
      exact ⟨by simp, HB2.out⟩
  · have HWANT : Hid (∀ i, i < l.length → (setL (l.map fixB) cell x).getD i 0 = fixB (if (i : Int) = cell then x else (l.map fixB).getD i 0)) := fun i hi => wanted hi
    have HSF := Lib.hid (same_fix l)
    have HN : Hid (∀ w q c, RowAt 44 w q c (fls l) → Calls Try.prog 13 #[.slice q l.length c] w fun e w' => ∃ b F, e = .returned (.tuple #[.pointer (some ⟨b, 0, none⟩), .int .i64 0]) ∧ Cel 54 w' b F (l.map fixB) ∧ Abv w.heap.size F ∧ Below w.heap.size w w') := fun w q c k => of_some k hn
    have hl0 : (l.map fixB).length = l.length := List.length_map ..
    have hl1 : (setL (l.map fixB) cell x).length = l.length := by rw [setL_len, hl0]
    have HN2 : Hid (∀ w q c, RowAt 44 w q c (fls (l.map fixB)) → Calls Try.prog 13 #[.slice q l.length c] w fun e w' => ∃ b F, e = .returned (.tuple #[.pointer (some ⟨b, 0, none⟩), .int .i64 0]) ∧ Cel 54 w' b F ((l.map fixB).map fixB) ∧ Abv w.heap.size F ∧ Below w.heap.size w w') := fun w q c k => of_some' hl0 k hn
    have HAL1 := Lib.hid (fun w b F (h : Cel 54 w b F (l.map fixB)) => all_any h)
    have HAL2 := Lib.hid (fun w b F (h : Cel 54 w b F (setL (l.map fixB) cell x)) => all_any h)
    have HSAME := Lib.hid (fun w b d F G (a : Cel 54 w b F ((l.map fixB).map fixB)) (k : Cel 54 w d G (l.map fixB)) => sameState_any a k)
    have HSET := Lib.hid (fun w b F (a : Cel 54 w b F (l.map fixB)) => set_any a cell x)
    rw [HSF.out] at HSAME
    rw [hl0] at HAL1 HSET
    rw [hl1] at HAL2
    obtain ⟨n, hl⟩ : ∃ n, l.length = n := ⟨_, rfl⟩
    rw [hl] at HN HN2 HF HAL1 HAL2 HSET HWANT hl0 hl1 hn ⊢
    have hn1 : ¬ (n : Int) < 1 := by unfold mayN at hn; simp at hn; omega
    have hn2 : ¬ 256 < (n : Int) := by unfold mayN at hn; simp at hn; omega
    have HL0 := Lib.hid hl0
    have HL1 := Lib.hid hl1
    generalize setL (l.map fixB) cell x = l2 at HSET HAL2 HWANT HL1
    generalize (l.map fixB).map fixB = l3 at HN2 HSAME
    generalize l.map fixB = l1 at HN HN2 HSAME HSET HAL1 HWANT HL0
    clear hn hl hl0 hl1 HSF
    have hc : (∃ k : Nat, cell = k ∧ (k : Int) < (n : Int) ∧ cellE n cell = 0) ∨ (¬ 0 ≤ cell ∧ cellE n cell = 60) ∨ (0 ≤ cell ∧ ¬ cell < (n : Int) ∧ cellE n cell = 60) := by
      unfold cellE
      cases hh : hasN n cell
      · rcases hasN_neg hh with q | ⟨q, q2⟩
        · exact .inr (.inl ⟨by omega, rfl⟩)
        · exact .inr (.inr ⟨by omega, by omega, rfl⟩)
      · obtain ⟨k, rfl, hk⟩ := hasN_pos hh
        exact .inl ⟨k, rfl, by omega, rfl⟩
    generalize cellE n cell = gv at hc HSET
    have HCC := Lib.hid hc
    clear hc
    go_enter Try.func6, Try.ntmps6
    go_upto_region 12 with (first
        | (go_at_call 16; refine (HAL2.out _ _ _ HC7.out).mono ?_; rintro e w8 ⟨rfl, hr, hb⟩; have HR8 := Lib.hid hr; have HC8 := Lib.hid (HC7.out.on hb); have HQ8 := Lib.hid (HQ7.out.on hb); have HB8 := Lib.hid (below_chain HB7.out hb); clear hr hb)
        | (go_at_call 18; refine (HSET.out _ _ _ HC6.out).mono ?_; rintro e w7 ⟨rfl, hc, ht⟩; have HC7 := Lib.hid hc; have HQ7 := Lib.hid (HQ6.out.turn ht HSP.out); have HB7 := Lib.hid (turn_chain HB6.out ht HA3.out); clear hc ht)
        | (go_at_call 19; refine (raw6_any _ _).mono ?_; rintro e wx ⟨rfl, hw⟩; subst wx)
        | (go_at_call 17; refine (HSAME.out _ _ _ _ _ HC5.out (HC4.out.on HB5.out)).mono ?_; rintro e w6 ⟨rfl, hw⟩; have HC6 := Lib.hid ((HC4.out.on HB5.out).same hw); have HQ6 := Lib.hid ((HQ4.out.on HB5.out).on (hw.below _)); have HB6 := Lib.hid ((below_chain HB4.out HB5.out).trans (hw.below _)); clear hw)
        | (go_at_call 13; refine (HN2.out _ _ _ HQ4.out).mono ?_; rintro e w5 ⟨ba, FA, rfl, hc, _, hb⟩; have HC5 := Lib.hid hc; have HB5 := Lib.hid hb; clear hc hb)
        | (go_at_call 16; refine (HAL1.out _ _ _ HC3.out).mono ?_; rintro e w4 ⟨rfl, hr, hb⟩; have HQ4 := Lib.hid hr; have HC4 := Lib.hid (HC3.out.on hb); have HSP : Hid (Sep (fpR (some ⟨w3.heap.size, 0, none⟩)) F) := (abv_new w3).sep HC3.out.blw; have HB4 := Lib.hid (below_chain HB3.out hb); clear hr hb)
        | (go_at_call 13; refine (HN.out _ _ _ HR2.out).mono ?_; rintro e w3 ⟨bm, F, rfl, hc, ha, hb⟩; have HC3 := Lib.hid hc; have HA3 := Lib.hid (ha.mono HB2.out.size); have HB3 := Lib.hid (below_chain HB2.out hb); clear hc ha hb)
        | (go_at_call 14; refine (HF.out _ HB1.out).mono ?_; rintro e w2 ⟨q, c, rfl, hr, ha, hb⟩; have HR2 := Lib.hid hr; have HB2 := Lib.hid (below_chain HB1.out hb); clear hr ha hb)
        | (go_at_call 10; refine (live_any _).mono ?_; rintro e w1 ⟨rfl, hb⟩; have HB1 := Lib.hid hb; clear hb))
    clear HB1 HB2 HB3 HB4 HB5 HB6 HB7 HR2 HC3 HC4 HC5 HC6 HC7 HA3 HSP HQ4 HQ6 HQ7 HF HN HN2 HAL1 HAL2 HSAME HSET
    go_cut [102] (fun s wc => s = .bool false ∧ wc = w8)
    case first =>
      rcases HCC.out with ⟨k, hk0, hk, hce⟩ | ⟨hc0, hce⟩ | ⟨hc0, hc1, hce⟩
      all_goals
        clear HCC
        (try subst hk0)
        subst hce
        go_wp2
        go_meet
        exact ⟨by first | rfl | (simp; omega), rfl⟩
    case' rest =>
      obtain ⟨rfl, hw⟩ := hcut
      subst wc
      go_wp2
    go_loopw [16] (fun vi wr => ∃ (i d : Nat), vi = .int .i64 i ∧ i ≤ n ∧ wr = w8.drewN d) (fun vi _ => n - (intOf vi).toNat)
    case atStart => exact ⟨0, 0, rfl, Nat.zero_le _, by rw [World.drewN_zero]⟩
    case round =>
      obtain ⟨i, d, rfl, hi, rfl⟩ := hrel
      by_cases hlt : i < n
      · have hlt' : (i : Int) < (n : Int) := by omega
        obtain ⟨gb, eb, gb1, qb, _⟩ := row_getD HQ8.out i (by rw [HL0.out]; exact hlt)
        obtain ⟨ga, ea, ga1, qa, _⟩ := row_getD HR8.out i (by rw [HL1.out]; exact hlt)
        cases eb
        cases ea
        have HG := Lib.hid (get_in (HC8.out.same (Same.drewN w8 d)) HL1.out i hlt)
        have hv := HWANT.out i hlt
        generalize l2.getD i 0 = z at qa HG hv
        generalize l1.getD i 0 = y at qb hv
        subst hv
        by_cases hic : (i : Int) = cell
        · rw [if_pos hic] at qa HG
          have hcb := beq_iff_eq.2 hic
          clear hic
          cases hnan : nan x
          · have ho := self_num hnan
            rw [fixB_num hnan] at qa HG
            clear hnan
            go_wp2_with (first
              | (go_at_call 20; refine HG.out.mono ?_; rintro e wx ⟨rfl, hw⟩; subst wx)
              | (go_at_call 19; refine (raw6_any _ _).mono ?_; rintro e wx ⟨rfl, hw⟩; subst wx))
            go_quiet (fail)
            go_wp2
            exact ⟨⟨i + 1, _, by first | rfl | (congr 1), by omega, rfl⟩, by simp [intOf]; omega⟩
          · have ho := self_nan hnan
            rw [fixB_nan hnan] at qa HG
            clear hnan
            go_wp2_with (first
              | (go_at_call 20; refine HG.out.mono ?_; rintro e wx ⟨rfl, hw⟩; subst wx)
              | (go_at_call 19; refine (raw6_any _ _).mono ?_; rintro e wx ⟨rfl, hw⟩; subst wx))
            go_quiet (fail)
            go_wp2
            exact ⟨⟨i + 1, _, by first | rfl | (congr 1), by omega, rfl⟩, by simp [intOf]; omega⟩
        · rw [if_neg hic] at qa HG
          have hcb := beq_eq_false_iff_ne.2 hic
          clear hic
          cases hnan : nan y
          · have ho := self_num hnan
            rw [fixB_num hnan] at qa HG
            clear hnan
            go_wp2_with (first
              | (go_at_call 20; refine HG.out.mono ?_; rintro e wx ⟨rfl, hw⟩; subst wx)
              | (go_at_call 19; refine (raw6_any _ _).mono ?_; rintro e wx ⟨rfl, hw⟩; subst wx))
            go_quiet (fail)
            go_wp2
            exact ⟨⟨i + 1, _, by first | rfl | (congr 1), by omega, rfl⟩, by simp [intOf]; omega⟩
          · have ho := self_nan hnan
            rw [fixB_nan hnan] at qa HG
            clear hnan
            go_wp2_with (first
              | (go_at_call 20; refine HG.out.mono ?_; rintro e wx ⟨rfl, hw⟩; subst wx)
              | (go_at_call 19; refine (raw6_any _ _).mono ?_; rintro e wx ⟨rfl, hw⟩; subst wx))
            go_quiet (fail)
            go_wp2
            exact ⟨⟨i + 1, _, by first | rfl | (congr 1), by omega, rfl⟩, by simp [intOf]; omega⟩
      · have hlt' : ¬ (i : Int) < (n : Int) := by omega
        go_wp2
        go_ret
        exact ⟨rfl, HB8.out.trans ((Same.drewN _ _).below _)⟩

set_option maxRecDepth 100000 in
theorem lifted (os : Os) (started : os.Started) (H : Type) (enc : TypeId × Value → H) :
    ReturnsInHanded {} Try.checked os 6 .any (Rows.stateSetsSpec.pre6 enc Try.prog Try.f6 Rows.stateSetsRow.domain false) (Rows.stateSetsSpec.post enc Try.prog Try.f6 false true false false) := by
  refine returnsInHanded_of_change_sized (C := Try.checked) ownK started (by kernel_rfl) Try.func6
    (ChangeSpec.witness6 (enc := enc) (C := Try.checked) false ⟨#[], #[.slice none 0 0, .int .i64 0, .int .u64 0], []⟩ 8 (by kernel_rfl) (by kernel_rfl) (by kernel_rfl) (by kernel_rfl)) ?_
  intro W base args ds gs before hval0 hW _ hsz0 _
  have hval : ∀ (j : Nat) t v, Try.f6.params[j]? = some t → args[j]? = some v → Value.okWide Try.prog W .any base t v := hval0
  have hW2 := hW
  obtain ⟨p, q, hA0, hV, rfl, _, _⟩ := hW
  have hA : DataW.TrodAll enc Try.prog W 0 (fun _ => true) true Try.f6.params.toList args.toList ds p := hA0
  have hsz : (DataW.weightsEach Try.prog (Try.f6.params.toList ++ Rows.stateSetsSpec.plain.varTypes Try.prog) (ds ++ gs)).all (· ≤ reachBytes) = true := hsz0
  clear hsz0
  rw [Try.params6] at hA hval hsz
  obtain ⟨v0, vs0, d0, ds0, p0, q0, hargs, rfl, rfl, h0, r0⟩ := trodAll_cons hA
  obtain ⟨v1, vs1, d1, ds1, p1, q1, rfl, rfl, rfl, h1, r1⟩ := trodAll_cons r0
  obtain ⟨v2, vs2, d2, ds2, p2, q2, rfl, rfl, rfl, h2, r2⟩ := trodAll_cons r1
  obtain ⟨rfl, rfl, rfl⟩ := trodAll_nil r2
  obtain rfl : args = #[v0, v1, v2] := by cases args; simp_all
  obtain ⟨rfl, rfl⟩ := trodVars_none hV
  obtain ⟨o0, c0, l0, rfl, fm0, fz0, fW0⟩ := open_bits (hval 0 34 v0 rfl rfl) h0
  obtain ⟨a1, rfl, rfl, rfl, w1⟩ := open_int Try.underlying3 (hval 1 3 v1 rfl rfl) h1
  obtain ⟨a2, rfl, rfl, rfl, w2⟩ := open_int Try.underlying40 (hval 2 40 v2 rfl rfl) h2
  have fz0 := fz0 hsz (j := 0) rfl rfl
  clear hA0 hval0
  simp only [List.append_nil] at hW2
  have hlt : ∀ x ∈ p0, x.block < W.heap.size := fun x hx => by simpa using hW2.lt x (by simpa using hx)
  refine (walk o0 c0 l0 a1 a2 fm0 fz0 w1 w2 W fW0).mono fun e W2 ⟨he, hnx⟩ => ?_
  subst he
  exact ⟨_, rfl, _, _, _, [], _, [], hW2, trodAll_mk1 (shut_bool Try.underlying4 _), (trodAll_cons_mk (Below.trod laidOut (by kernel_rfl) (of_decide_eq_true (by kernel_rfl)) h0 hnx (fun x hx => hlt x (by first | simpa using hx | (simp at hx ⊢; simp [hx])))) (trodAll_cons_mk (shut_int Try.underlying3 w1) (trodAll_cons_mk (shut_int Try.underlying40 w2) trodAll_mk0))), rfl, hnx.frame _, fun h => by cases h⟩

/-- the statement -/
theorem proved : Rows.StateSetsSaid :=
  OpenClaim.holds_of_wide 6 Try.f6 rfl rfl rfl rfl rfl rfl rfl ⟨rfl, rfl, rfl, rfl, rfl⟩ rfl rfl rfl rfl rfl (by kernel_rfl) Try.func6 (by kernel_rfl)
    (of_decide_eq_true (by kernel_rfl)) (by unfold Func.isWrapper; first | (rw [if_pos (by decide +kernel)]; kernel_rfl) | (rw [if_neg (by decide +kernel)]; exact ⟨rfl, rfl⟩))
    (fun os started H enc _ => lifted os started H enc)
end Go.Proofs.Ytahcppoeooadhaa.stateSets
