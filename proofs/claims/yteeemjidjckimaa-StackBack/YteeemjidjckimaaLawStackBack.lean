/- For every room and every list of numbers the statement StackBack answers true: what is pushed onto a stack is there, as many as there is room for and no more; Pick tells the lowest at the depth of the last, Pop tells what was pushed, the last first, until nothing is there. No condition. -/
import Derived.Test.YteeemjidjckimaaS3
namespace Go.Proofs.Yteeemjidjckimaa.stackBack
open Go.ChangeShapes Go.WideShapes Go.ChangeAt Go.RowKit

theorem sliced_all (a : Option Addr) (h c : Nat) : sliced a 0 h c 1 = .slice a h c := by
  cases a <;> simp [sliced, Addr.add]
theorem min_step {i r m : Nat} (h : m = min i r) (hlt : m < r) : m = i ∧ m + 1 = min (i + 1) r := by omega
theorem min_stay {i r m : Nat} (h : m = min i r) (hlt : ¬ m < r) : m = min (i + 1) r := by omega
set_option maxHeartbeats 4000000 in
set_option maxRecDepth 100000 in
theorem walk (a0 : Int) (ao : Option Addr) (len cap : Nat) (x : Nat → Int) (_w0 : (Lit.int .i64 a0).wf = true) (hm : len ≤ cap ∧ cap ≤ maxLen ∧ (ao = none → len = 0 ∧ cap = 0) ∧ ∀ a, ao = some a → 0 < len → a.spot = none) (W : World) (hx : IntsAt W ao len x) : Calls Try.prog 6 #[.int .i64 a0, .slice ao len cap] W fun r W2 => r = .returned (.bool true) ∧ Below W.heap.size W W2 := by
  obtain ⟨r, hr⟩ : ∃ r : Nat, roomV a0 = r := ⟨(roomV a0).toNat, by have := roomV_ok a0; omega⟩
  have hr1 : r ≤ 65536 := by have := roomV_ok a0; omega
  have HN := Lib.hid (fun w => iNew_any a0 w)
  rw [hr] at HN
  have HX := Lib.hid hx
  have HNIL := Lib.hid hm.2.2
  have hlc : len ≤ cap := hm.1
  have hcm : cap ≤ 9223372036854775807 := hm.2.1
  clear hr hx hm _w0
  go_enter Try.func6, Try.ntmps6
  go_wp2_with (first
    | (go_at_call 12; refine (live_any _).mono ?_; rintro e w1 ⟨rfl, hb⟩; have HB1 := Lib.hid hb; clear hb)
    | (go_at_call 9; refine (HN.out _).mono ?_; rintro e w2 ⟨b, rfl, hb0, hm, hb⟩; have HS2 : Hid (Stk 57 3 w2 b [b] (i64s (upto x 0)) r) := hm; have HA2 := Lib.hid (abv_one (Nat.le_trans HB1.out.size (Nat.le_of_eq hb0.symm))); have HB2 := Lib.hid (below_chain HB1.out hb); clear hm hb hb0 HB1))
  go_loopw [7, 8] (fun vn vi wr => ∃ (m i : Nat) (F : List Nat), vn = .int .i64 m ∧ vi = .int .i64 i ∧ i ≤ len ∧ Hid (m = min i r) ∧ Hid (Stk 57 3 wr b F (i64s (upto x m)) r) ∧ Hid (Abv W.heap.size F) ∧ Hid (Below W.heap.size W wr)) (fun _ vi _ => len - (intOf vi).toNat)
  case atStart => exact ⟨0, 0, _, rfl, rfl, Nat.zero_le _, by show 0 = min 0 r; omega, HS2, HA2, HB2⟩
  case round =>
    clear HS2 HA2 HB2
    obtain ⟨m, i, F, rfl, rfl, hi, HM, HS, HA, HB⟩ := hrel
    by_cases hlt : i < len
    · have hlt' : (i : Int) < (len : Int) := by omega
      obtain ⟨g, o, hao, hgW, hc⟩ := HX.out i hlt
      subst hao
      rw [← HB.out.cell (p := ⟨g, o + i, none⟩) hgW] at hc
      have hgw : g < wr.heap.size := Nat.lt_of_lt_of_le hgW HB.out.size
      clear hgW
      by_cases hroom : m < r
      · have hroom' : (m : Int) < (r : Int) := by omega
        have HP := Lib.hid (iPush_any HS.out (x i))
        have e1 : pushE (upto x m) r = 0 := by simp [pushE, upto_len, hroom]
        have e2 : pushL (upto x m) r (x i) = upto x (m + 1) := by
          have := (min_step HM.out hroom).1
          subst this
          simp [pushL, upto_len, hroom, upto_snoc]
        rw [e1, e2] at HP
        clear e1 e2
        generalize x i = y at hc HP
        go_wp2_with (first
          | (go_at_call 30; refine HP.out.mono ?_; rintro e w3 ⟨F3, rfl, hs3, ht3⟩; have HS3 := Lib.hid hs3; have HA3 := Lib.hid (HA.out.turn HB.out.size ht3); have HB3 := Lib.hid (turn_chain HB.out ht3 HA.out); clear hs3 ht3)
          | (go_at_call 11; refine (iRoom_any HS3.out).mono ?_; rintro e w4 ⟨rfl, hw⟩; subst w4))
        exact ⟨⟨m + 1, i + 1, _, by first | rfl | (congr 1), by first | rfl | (congr 1), by omega, (min_step HM.out hroom).2, HS3, HA3, HB3⟩, by simp [intOf]; omega⟩
      · have hroom' : ¬ (m : Int) < (r : Int) := by omega
        have HP := Lib.hid (iPush_any HS.out (x i))
        have e1 : pushE (upto x m) r = 40 := by simp [pushE, upto_len, hroom]
        have e2 : pushL (upto x m) r (x i) = upto x m := by simp [pushL, upto_len, hroom]
        rw [e1, e2] at HP
        clear e1 e2
        generalize x i = y at hc HP
        go_wp2_with (first
          | (go_at_call 30; refine HP.out.mono ?_; rintro e w3 ⟨F3, rfl, hs3, ht3⟩; have HS3 := Lib.hid hs3; have HA3 := Lib.hid (HA.out.turn HB.out.size ht3); have HB3 := Lib.hid (turn_chain HB.out ht3 HA.out); clear hs3 ht3)
          | (go_at_call 11; refine (iRoom_any HS3.out).mono ?_; rintro e w4 ⟨rfl, hw⟩; subst w4))
        exact ⟨⟨m, i + 1, _, rfl, by first | rfl | (congr 1), by omega, min_stay HM.out hroom, HS3, HA3, HB3⟩, by simp [intOf]; omega⟩
    · have hlt' : ¬ (i : Int) < (len : Int) := by omega
      have hmr : m ≤ r := by have := HM.out; omega
      have hml : m ≤ len := by have := HM.out; omega
      have HLN := Lib.hid (fun w F (h : Stk 57 3 w b F (i64s (upto x m)) r) => iLen_any h)
      have HAL := Lib.hid (iAll_any HS.out)
      have HXM := Lib.hid (HX.out.take hml)
      rw [upto_len] at HLN HAL
      have k1 : ¬ r < m := by omega
      have k2 : (m : Int) ≤ (cap : Int) := by omega
      have hsl := fun h : Nat => sliced_all ao h cap
      have HML := Lib.hid (And.intro hml hmr)
      clear hlt hi hml
      go_wp2_with (first
        | (go_at_call 22; refine HAL.out.mono ?_; rintro e w3 ⟨rfl, hr3, hb3⟩; have HR3 := Lib.hid hr3.upto; have HS3 := Lib.hid (HS.out.on hb3); have HX3 := Lib.hid ((HXM.out.on HB.out).on hb3); have HB3 := Lib.hid (below_chain HB.out hb3); clear hr3 hb3)
        | (go_at_call 18; refine (HLN.out _ _ HS3.out).mono ?_; rintro e w4 ⟨rfl, hw⟩; subst w4)
        | (go_at_call 11; refine (iRoom_any HS3.out).mono ?_; rintro e w4 ⟨rfl, hw⟩; subst w4)
        | (go_at_call 21; refine (same_any _ _ (by omega) HR3.out HX3.out).mono ?_; rintro e w4 ⟨rfl, hw⟩; have HS4 := Lib.hid (HS3.out.same hw); have HB4 := Lib.hid (HB3.out.trans (hw.below _)); clear hw))
      have HA4 := Lib.hid HA.out
      clear HS HA HB HS3 HB3 HR3 HX3 HXM HLN HAL hsl hlt' HM k1 k2 hmr
      go_loopw [11] (fun vi wr => ∃ (z : Int) (k : Nat) (F : List Nat), vi = .int .i64 z ∧ z < 65536 ∧ Hid (z + 1 = k ∧ k ≤ len) ∧ Hid (Stk 57 3 wr b F (i64s (upto x k)) r) ∧ Hid (Abv W.heap.size F) ∧ Hid (Below W.heap.size W wr)) (fun vi _ => (intOf vi + 1).toNat)
      case atStart => exact ⟨_, m, _, rfl, by have := HML.out.2; omega, ⟨by omega, HML.out.1⟩, HS4, HA4, HB4⟩
      case round =>
        clear HS4 HA4 HB4
        obtain ⟨z, k, F5, rfl, hz6, HK, HS, HA, HB⟩ := hrel
        by_cases hz : 0 ≤ z
        · obtain ⟨j, rfl⟩ : ∃ j : Nat, z = j := ⟨z.toNat, by omega⟩
          obtain ⟨hk1, hk2⟩ := HK.out
          obtain rfl : k = j + 1 := by omega
          obtain ⟨g, o, hao, hgW, hc⟩ := HX.out j (by omega)
          subst hao
          obtain ⟨g', o', hao', _, hc0⟩ := HX.out 0 (by omega)
          cases hao'
          rw [Nat.add_zero] at hc0
          have HPK := Lib.hid (iPick_some HS.out j 0 (by rw [upto_len]; omega) (x 0) (upto_at x _ 0 (by omega)))
          have HSX : Hid (∀ w1, Same wr w1 → Stk 57 3 w1 b F5 (i64s (upto x j ++ [x j])) r) := fun w1 h => by
            have := HS.out.same h
            rw [upto_snoc] at this
            exact this
          have hjl : (j : Int) < (len : Int) := by omega
          have hl0 : (0 : Int) < (len : Int) := by omega
          have HJ := Lib.hid hk2
          generalize x 0 = x0 at hc0 HPK
          generalize hy : x j = y at hc HSX
          have HC := Lib.hid (And.intro hgW (And.intro hc hc0))
          clear hgW hk1 hk2 HK hy hc hc0
          go_wp2_with (first
            | (go_at_call 31; refine HPK.out.mono ?_; rintro e w5 ⟨rfl, hw⟩; have HS5 := Lib.hid (HSX.out w5 hw); have HB5 := Lib.hid (HB.out.trans (hw.below _)); clear hw)
            | (go_at_call 32; refine (iPop_some HS5.out).mono ?_; rintro e w6 ⟨F6, rfl, hs6, ht6⟩; have HS6 := Lib.hid hs6; have HA6 := Lib.hid (HA.out.turn HB5.out.size ht6); have HB6 := Lib.hid (turn_chain HB5.out ht6 HA.out); have q0 := (HB6.out.cell (p := ⟨g, o + j, none⟩) HC.out.1).trans HC.out.2.1; have q1 := (HB6.out.cell (p := ⟨g, o, none⟩) HC.out.1).trans HC.out.2.2; have q2 : g < w6.heap.size := Nat.lt_of_lt_of_le HC.out.1 HB6.out.size; clear hs6 ht6))
          exact ⟨⟨_, j, _, rfl, by omega, ⟨by omega, by have := HJ.out; omega⟩, HS6, HA6, HB6⟩, by simp [intOf]⟩
        · have hz' : z < 0 := by omega
          have hk : k = 0 := by have := HK.out.1; omega
          subst hk
          have HS0 : Hid (Stk 57 3 wr b F5 (i64s []) r) := HS.out
          clear HS HK
          go_wp2_with (first
            | (go_at_call 32; refine (iPop_none HS0.out).mono ?_; rintro e w5 ⟨rfl, hw⟩; subst w5)
            | (go_at_call 18; refine (iLen_any HS0.out).mono ?_; rintro e w5 ⟨rfl, hw⟩; subst w5))
          go_ret
          exact ⟨by simp, HB.out⟩

set_option maxRecDepth 100000 in
theorem lifted (os : Os) (started : os.Started) (H : Type) (enc : TypeId × Value → H) :
    ReturnsInHanded {} Try.checked os 6 .any (Rows.stackBackSpec.pre6 enc Try.prog Try.f6 Rows.stackBackRow.domain false) (Rows.stackBackSpec.post enc Try.prog Try.f6 false true false false) := by
  refine returnsInHanded_of_change (C := Try.checked) ownK started (by kernel_rfl) Try.func6
    (ChangeSpec.witness6 (enc := enc) (C := Try.checked) false ⟨#[], #[.int .i64 0, .slice none 0 0], []⟩ 8 (by kernel_rfl) (by kernel_rfl) (by kernel_rfl) (by kernel_rfl)) ?_
  intro W base args ds gs before hval0 hW _ _
  have hval : ∀ (j : Nat) t v, Try.f6.params[j]? = some t → args[j]? = some v → Value.okWide Try.prog W .any base t v := hval0
  have hW2 := hW
  obtain ⟨p, q, hA0, hV, rfl, _, _⟩ := hW
  have hA : DataW.TrodAll enc Try.prog W 0 (fun _ => true) true Try.f6.params.toList args.toList ds p := hA0
  rw [Try.params6] at hA hval
  obtain ⟨v0, vs0, d0, ds0, p0, q0, hargs, rfl, rfl, h0, r0⟩ := trodAll_cons hA
  obtain ⟨v1, vs1, d1, ds1, p1, q1, rfl, rfl, rfl, h1, r1⟩ := trodAll_cons r0
  obtain ⟨rfl, rfl, rfl⟩ := trodAll_nil r1
  obtain rfl : args = #[v0, v1] := by cases args; simp_all
  obtain ⟨rfl, rfl⟩ := trodVars_none hV
  obtain ⟨a0, rfl, rfl, rfl, w0⟩ := open_int Try.underlying3 (hval 0 3 v0 rfl rfl) h0
  obtain ⟨o1, l1, c1, x1, rfl, fm1, fW1⟩ := open_nums (hval 1 36 v1 rfl rfl) h1
  clear hA0 hval0
  simp only [List.append_nil] at hW2
  have hlt : ∀ x ∈ p1, x.block < W.heap.size := fun x hx => by simpa using hW2.lt x (by simpa using hx)
  refine (walk a0 o1 l1 c1 x1 w0 fm1 W fW1).mono fun e W2 ⟨he, hnx⟩ => ?_
  subst he
  exact ⟨_, rfl, _, _, _, [], _, [], hW2, trodAll_mk1 (shut_bool Try.underlying4 _), (trodAll_cons_mk (shut_int Try.underlying3 w0) (trodAll_cons_mk (Below.trod laidOut (by kernel_rfl) (of_decide_eq_true (by kernel_rfl)) h1 hnx (fun x hx => hlt x (by simpa using hx))) trodAll_mk0)), rfl, hnx.frame _, fun h => by cases h⟩

/-- the statement -/
theorem proved : Rows.StackBackSaid :=
  OpenClaim.holds_of_wide 6 Try.f6 rfl rfl rfl rfl rfl rfl rfl ⟨rfl, rfl, rfl, rfl, rfl⟩ rfl rfl rfl rfl rfl (by kernel_rfl) Try.func6 (by kernel_rfl)
    (of_decide_eq_true (by kernel_rfl)) (by unfold Func.isWrapper; first | (rw [if_pos (by decide +kernel)]; kernel_rfl) | (rw [if_neg (by decide +kernel)]; exact ⟨rfl, rfl⟩))
    (fun os started H enc _ => lifted os started H enc)
end Go.Proofs.Yteeemjidjckimaa.stackBack
