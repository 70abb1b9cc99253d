/- the document's Read, of a line without a blank, and of any -/
import Derived.Test.YtlnobfmbnnfbdaaGreatDoorCI
namespace Go.Proofs.YtlnobfmbnnfbdaaGreatDoor
open Go.ChangeShapes Go.WideShapes Go.ChangeAt Go.RowKit Num
attribute [local go_sem] run_store_float

theorem texts_one (w : World) : TextsAt (w.alloc onesO) w.heap.size oneT := fun k hk => onesO_at w k hk
theorem texts_two (w : World) : TextsAt (w.alloc twosO) w.heap.size twoT := fun k hk => twosO_at w k hk
theorem at_one (w : World) (A : List UInt8) : Calls Tryz.prog 52 #[.slice (some ⟨w.heap.size, 0, none⟩) 9 9, .string ⟨A.toArray⟩] (w.alloc onesO) fun e w' => e = .returned (.int .i64 (atN oneT A)) ∧ w' = w.alloc onesO :=
  refAt_any (T := oneT) (texts_one w) one_tab (by simp) (by decide) A
theorem at_two (w : World) (b : Nat) (hb : b = w.heap.size) (A : List UInt8) : Calls Tryz.prog 52 #[.slice (some ⟨b, 0, none⟩) 13 13, .string ⟨A.toArray⟩] (w.alloc twosO) fun e w' => e = .returned (.int .i64 (atN twoT A)) ∧ w' = w.alloc twosO := by
  subst hb
  exact refAt_any (T := twoT) (texts_two w) two_tab (by simp) (by decide) A
set_option maxHeartbeats 2000000 in
set_option maxRecDepth 100000 in
theorem refRead_onetwo (s : ByteArray) (w : World) (hsz : s.size ≤ 65536) (hm : (cutB 32 s.data.toList).2.2 = false) (hq : 0 < atN oneT (cutB 32 s.data.toList).1 ∨ 0 < atN twoT (cutB 32 s.data.toList).1) : Calls Tryz.prog 36 #[.string s] w fun e w' => ReadE s.data.toList e ∧ Below w.heap.size w w' := by
  have HC := Lib.hid (fun w' => refCut_any s w' hsz)
  rw [hm] at HC
  have H1 : Hid _ := fun k => @read_one s.data.toList k
  have H2 : Hid _ := fun k => @read_two s.data.toList k
  rw [hm] at H1 H2
  generalize (cutB 32 s.data.toList).1 = A at *
  generalize (cutB 32 s.data.toList).2.1 = B at *
  generalize s.data.toList = L at *
  have HA1 := Lib.hid (fun w' => at_one w' A)
  have HA2 := Lib.hid (fun w' b hb => at_two w' b hb A)
  by_cases h1 : 0 < atN oneT A
  · have HR := Lib.hid (H1.out _ rfl rfl h1)
    clear H1 H2 hm hq HA2
    generalize atN oneT A = k at *
    have hk : (0 : Int) < (k : Int) := by omega
    go_enter Tryz.func36, Tryz.ntmps36
    go_wp2_with (first
      | (go_at_call 52; refine (HA1.out _).mono ?_; rintro e w2 ⟨rfl, hw⟩; subst w2)
      | (go_at_call 45; refine (ones_any _).mono ?_; rintro e w2 ⟨rfl, hw⟩; subst w2)
      | (go_at_call 51; refine (HC.out _).mono ?_; rintro e w1 ⟨rfl, hb⟩; have HB1 := Lib.hid (chain5 (box5 w _) hb); have hx1 : InsBox w1 w.heap.size := (hb.block w.heap.size (by simp)).trans (heap_alloc_new w _); obtain ⟨b0, b1, b2, b3⟩ := cells3_of hx1; have f0 := frozen_of_row _ _ 0 _ _ hx1; have f1 := frozen_of_row _ _ 1 _ _ hx1; have f2 := frozen_of_row _ _ 2 _ _ hx1; clear hb hx1))
    exact bodyPost_ret (v := .tuple #[.agg #[.int .i64 9, .int .i64 k, .float .f64 0], .bool true]) (by simp [results, Tryz.results36, go_sem, b0, b1, b2, b3]) rfl ⟨readE_some HR.out rfl, (by repeat (first | exact HB1.out | refine below_put _ ?_ (Nat.le_refl _) | apply bl_alloc))⟩
  · have e0 : atN oneT A = 0 := by omega
    have h2 : 0 < atN twoT A := by omega
    have HR := Lib.hid (H2.out _ rfl rfl h2)
    rw [e0] at HA1
    clear H1 H2 hm hq h1 e0
    generalize atN twoT A = k at *
    have hk : (0 : Int) < (k : Int) := by omega
    go_enter Tryz.func36, Tryz.ntmps36
    go_wp2_with (first
      | (go_at_call 52; have hgo := HTW; refine (HA2.out (w1.alloc onesO) _ (by simp)).mono ?_; rintro e w2 ⟨rfl, hw⟩; subst w2)
      | (go_at_call 52; refine (HA1.out _).mono ?_; rintro e w2 ⟨rfl, hw⟩; subst w2)
      | (go_at_call 46; refine (twos_any _).mono ?_; rintro e w2 ⟨rfl, hw⟩; subst w2; have HTW := trivial)
      | (go_at_call 45; refine (ones_any _).mono ?_; rintro e w2 ⟨rfl, hw⟩; subst w2)
      | (go_at_call 51; refine (HC.out _).mono ?_; rintro e w1 ⟨rfl, hb⟩; have HB1 := Lib.hid (chain5 (box5 w _) hb); have hx1 : InsBox w1 w.heap.size := (hb.block w.heap.size (by simp)).trans (heap_alloc_new w _); obtain ⟨b0, b1, b2, b3⟩ := cells3_of hx1; have f0 := frozen_of_row _ _ 0 _ _ hx1; have f1 := frozen_of_row _ _ 1 _ _ hx1; have f2 := frozen_of_row _ _ 2 _ _ hx1; clear hb hx1))
    exact bodyPost_ret (v := .tuple #[.agg #[.int .i64 10, .int .i64 k, .float .f64 0], .bool true]) (by simp [results, Tryz.results36, go_sem, b0, b1, b2, b3]) rfl ⟨readE_some HR.out rfl, (by repeat (first | exact HB1.out | refine below_put _ ?_ (Nat.le_refl _) | apply bl_alloc))⟩
set_option maxHeartbeats 2000000 in
set_option maxRecDepth 100000 in
theorem refRead_less (s : ByteArray) (w : World) (hsz : s.size ≤ 65536) (hm : (cutB 32 s.data.toList).2.2 = false) (h1 : atN oneT (cutB 32 s.data.toList).1 = 0) (h2 : atN twoT (cutB 32 s.data.toList).1 = 0) : Calls Tryz.prog 36 #[.string s] w fun e w' => ReadE s.data.toList e ∧ Below w.heap.size w w' := by
  have HC := Lib.hid (fun w' => refCut_any s w' hsz)
  rw [hm] at HC
  have HNO := Lib.hid (@read_miss s.data.toList)
  have HPU : Hid _ := @read_push s.data.toList
  have HBA : Hid _ := fun k => @read_bare s.data.toList k
  have HNU : Hid _ := fun k hk h1 hw hne hk1 hh v ok most => @read_num s.data.toList k hk h1 hw hne hk1 hh v ok most
  rw [hm] at HNO HPU HBA HNU
  have hlB : (⟨(cutB 32 s.data.toList).2.1.toArray⟩ : ByteArray).size ≤ 65536 := by
    have := (cut_le (c := 32) s.data.toList).2
    rw [size_list] at hsz ⊢
    simp
    omega
  generalize (cutB 32 s.data.toList).1 = A at *
  generalize (cutB 32 s.data.toList).2.1 = B at *
  have HRP := Lib.hid (fun w' => refParse_any ⟨B.toArray⟩ w')
  have HRN : Hid (∀ (z : Int) (most : Nat), z = most → most ≤ 1023 → ∀ w' : World, Calls Tryz.prog 54 #[.string ⟨B.toArray⟩, .int .i64 z] w' fun e w2 => NumE B most e ∧ w2 = w') := fun z most hz hm w' => by
    have := refNumber_any ⟨B.toArray⟩ most hm w' hlB
    rw [hz]
    exact this
  simp only at HRP
  generalize s.data.toList = L at *
  have HA1 := Lib.hid (fun w' => at_one w' A)
  have HA2 := Lib.hid (fun w' b hb => at_two w' b hb A)
  rw [h1] at HA1
  rw [h2] at HA2
  have HQ := Lib.hid (And.intro h1 h2)
  clear hm hlB h1 h2
  go_enter Tryz.func36, Tryz.ntmps36
  go_wp2_with (first
    | (go_at_call 52; have hgo := HTW; refine (HA2.out (w1.alloc onesO) _ (by simp)).mono ?_; rintro e w2 ⟨rfl, hw⟩; subst w2)
    | (go_at_call 52; refine (HA1.out _).mono ?_; rintro e w2 ⟨rfl, hw⟩; subst w2)
    | (go_at_call 46; refine (twos_any _).mono ?_; rintro e w2 ⟨rfl, hw⟩; subst w2; have HTW := trivial)
    | (go_at_call 45; refine (ones_any _).mono ?_; rintro e w2 ⟨rfl, hw⟩; subst w2)
    | (go_at_call 51; refine (HC.out _).mono ?_; rintro e w1 ⟨rfl, hb⟩; have HB1 := Lib.hid (chain5 (box5 w _) hb); have HX1 : Hid (InsBox w1 w.heap.size) := (hb.block w.heap.size (by simp)).trans (heap_alloc_new w _); clear hb)
    | (go_at_call 27; refine (rows_any _).mono ?_; rintro e w2 ⟨rfl, hw⟩; subst w2))
  have HB2 := Lib.hid (bl_alloc twosO (bl_alloc onesO HB1.out))
  have HX2 := Lib.hid (HX1.out.on (bl_alloc twosO (box5 w1 onesO)))
  clear HB1 HX1
  obtain ⟨w2, hw2⟩ : ∃ w2, w2 = (w1.alloc onesO).alloc twosO := ⟨_, rfl⟩
  have hz2 : w1.heap.size + 1 + 1 = w2.heap.size := by rw [hw2]; simp
  rw [← hw2] at HB2 HX2 ⊢
  try rw [hz2]
  clear hw2 hz2
  have HRW := Lib.hid (rowsO_at w2)
  go_loopw [40] (fun vi wr => ∃ i : Nat, vi = .int .i64 i ∧ i ≤ 21 ∧ Hid (∀ j, j < i → 1 ≤ j → A ≠ [] → (shp j).word ≠ A) ∧ Hid (Below (w2.alloc rowsO).heap.size (w2.alloc rowsO) wr)) (fun vi _ => 21 - (intOf vi).toNat)
  case atStart => exact ⟨0, rfl, Nat.zero_le _, fun j hj => absurd hj (Nat.not_lt_zero j), Below.refl _ _⟩
  case round =>
    obtain ⟨i, rfl, hi, HN, HB⟩ := hrel
    have HBW := Lib.hid (chain5 HB2.out (chain5 (box5 _ _) HB.out))
    have HXW := Lib.hid (HX2.out.on (chain5 (box5 _ _) HB.out))
    by_cases hlt : i < 21
    · have hlt' : (i : Int) < 21 := by omega
      obtain ⟨k0, k1, k2, k3, k4⟩ := (rows_on HRW.out HB.out).row i hlt
      have hrb := (rows_on HRW.out HB.out).lt
      unfold strB at k0
      have HNX : Hid ((i = 0 ∨ A = [] ∨ (shp i).word ≠ A) → ∀ j, j < i + 1 → 1 ≤ j → A ≠ [] → (shp j).word ≠ A) := fun hq j hj h1 hne => by
        rcases Nat.lt_succ_iff_lt_or_eq.1 hj with q | rfl
        · exact HN.out j q h1 hne
        · rcases hq with q | q | q
          · omega
          · exact absurd q hne
          · exact q
      obtain ⟨lo, hlo⟩ : ∃ lo, lo = rlo i := ⟨_, rfl⟩
      obtain ⟨hi', hhi⟩ : ∃ hi', hi' = rhi i := ⟨_, rfl⟩
      obtain ⟨wd, hwd⟩ : ∃ wd, wd = (shp i).word := ⟨_, rfl⟩
      rw [← hlo] at k1
      rw [← hhi] at k2
      rw [← hwd] at k0 HNX
      clear hlo
      generalize (shp i).takes = tk at *
      generalize (shp i).lays = ly at *
      have HWD := Lib.hid hwd
      have HHI := Lib.hid hhi
      clear hwd hhi
      by_cases hi0 : i = 0
      · subst hi0
        have HN2 := Lib.hid (HNX.out (.inl rfl))
        clear HNX HN
        go_wp2
        exact ⟨⟨1, rfl, by omega, HN2, chain5 HB.out (box5 _ _)⟩, by simp [intOf]⟩
      · have hi1 : 1 ≤ i := by omega
        have hz0 : ((i : Int) == 0) = false := by rw [beq_eq_false_iff_ne]; omega
        by_cases hA : A = []
        · have HN2 := Lib.hid (HNX.out (.inr (.inl hA)))
          subst hA
          clear HNX HN
          go_wp2
          exact ⟨⟨i + 1, by first | rfl | (congr 1), by omega, HN2, chain5 HB.out (box5 _ _)⟩, by simp [intOf]; omega⟩
        · have hA1 : A.isEmpty = false := by cases A <;> simp_all
          have hA2 : (A == []) = false := by rw [beq_eq_false_iff_ne]; exact hA
          by_cases hw : wd = A
          · subst hw
            obtain ⟨b0, b1, b2, b3⟩ := cells3_of HXW.out
            have f0 := frozen_of_row _ _ 0 _ _ HXW.out
            have f1 := frozen_of_row _ _ 1 _ _ HXW.out
            have f2 := frozen_of_row _ _ 2 _ _ HXW.out
            clear HNX HN hi0
            by_cases h1 : i = 1
            · subst h1
              have HPQ : Hid (∀ e, e = .returned (.tuple #[insV ⟨1, 0, (parseR B).1⟩, .bool (false && decide ((parseR B).2 = 0))]) → ReadE L e) := fun e he => HPU.out HWD.out.symm hA he
              clear HPU HBA HNU HNO HRN
              generalize (parseR B).1 = x at *
              generalize (parseR B).2 = e0 at *
              go_wp2_with (first
                | (go_at_call 53; refine (HRP.out _).mono ?_; rintro e w3 ⟨rfl, hb⟩; have HB3 := Lib.hid (chain5 (box5 _ _) hb); have hx3 := HXW.out.on (chain5 (box5 _ _) hb); obtain ⟨d0, d1, d2, d3⟩ := cells3_of hx3; have g0 := frozen_of_row _ _ 0 _ _ hx3; have g1 := frozen_of_row _ _ 1 _ _ hx3; have g2 := frozen_of_row _ _ 2 _ _ hx3; clear hb hx3))
              exact bodyPost_ret (v := .tuple #[.agg #[.int .i64 1, .int .i64 0, .float .f64 x], .bool false]) (by simp [results, Tryz.results36, go_sem, d0, d1, d2]) rfl ⟨HPQ.out _ (by simp [insV]), (by repeat (first | exact HBW.out | exact chain5 HBW.out HB3.out | refine below_put _ ?_ (Nat.le_refl _) | apply bl_alloc))⟩
            · have hz1 : ((i : Int) == 1) = false := by rw [beq_eq_false_iff_ne]; omega
              by_cases hh : hi' = 0
              · have HBQ : Hid (∀ e, e = .returned (.tuple #[insV ⟨i, 0, 0⟩, .bool (!false)]) → ReadE L e) := fun e he => HBA.out i hlt hi1 HWD.out.symm hA h1 (HHI.out.symm.trans hh) he
                clear HPU HBA HNU HNO HRN HRP
                subst hh
                go_wp2
                exact bodyPost_ret (v := .tuple #[.agg #[.int .i64 i, .int .i64 0, .float .f64 0], .bool true]) (by simp [results, Tryz.results36, go_sem, b0, b1, b2, b3]) rfl ⟨HBQ.out _ rfl, (by repeat (first | exact HBW.out | exact chain5 HBW.out HB3.out | refine below_put _ ?_ (Nat.le_refl _) | apply bl_alloc))⟩
              · have HNQ : Hid (∀ v ok (most : Nat), (most : Int) = (if hi' < 0 then (1023 : Int) else hi') → NumR B most v ok → ∀ e, e = .returned (.tuple #[insV ⟨i, v, 0⟩, .bool (false && ok)]) → ReadE L e) := fun v ok most hmost hn e he => by
                  have hr : rhi i ≠ 0 := fun q => hh (HHI.out.trans q)
                  have h2 := word_some i hlt (by rw [← HWD.out]; exact hA)
                  have h3 : (shp i).kind = 2 ∨ (shp i).kind = 3 := by
                    have q1 := rhi_kind i hlt hi1 h1 h2.2
                    have q2 := kind_all i hlt
                    have q3 : (shp i).kind ≠ 1 := fun q => h1 (kind_1 i hlt q)
                    have q4 : (shp i).kind ≠ 0 := fun q => hr (q1.2 q)
                    omega
                  exact HNU.out i hlt hi1 HWD.out.symm hA h1 hr v ok most (by rw [hmost, HHI.out]; exact (rhi_23 i hlt h3).2.1) hn he
                have HMX : Hid (hi' ≤ 1023) := by
                  show hi' ≤ 1023
                  rw [HHI.out]
                  exact rhi_le i hlt
                have hh1 : (hi' == 0) = false := by rw [beq_eq_false_iff_ne]; exact hh
                clear HPU HBA HNU HNO HRP
                by_cases hneg : hi' < 0
                · rw [if_pos hneg] at HNQ
                  go_wp2_with (first
                    | (go_at_call 54; refine (HRN.out 1023 1023 rfl (by decide) _).mono ?_; rintro e w3 ⟨⟨v, ok, rfl, hn⟩, hw3⟩; subst w3; have HNM := Lib.hid hn; clear hn))
                  exact bodyPost_ret (v := .tuple #[.agg #[.int .i64 i, .int .i64 v, .float .f64 0], .bool false]) (by simp [results, Tryz.results36, go_sem, b0, b1, b2, b3]) rfl ⟨HNQ.out v ok 1023 rfl HNM.out _ (by simp [insV]), (by repeat (first | exact HBW.out | exact chain5 HBW.out HB3.out | refine below_put _ ?_ (Nat.le_refl _) | apply bl_alloc))⟩
                · rw [if_neg hneg] at HNQ
                  have hnat : (hi'.toNat : Int) = hi' := by omega
                  have HHT := Lib.hid hnat
                  clear hnat
                  go_wp2_with (first
                    | (go_at_call 54; refine (HRN.out hi' hi'.toNat HHT.out.symm (by have := HMX.out; omega) _).mono ?_; rintro e w3 ⟨⟨v, ok, rfl, hn⟩, hw3⟩; subst w3; have HNM := Lib.hid hn; clear hn))
                  exact bodyPost_ret (v := .tuple #[.agg #[.int .i64 i, .int .i64 v, .float .f64 0], .bool false]) (by simp [results, Tryz.results36, go_sem, b0, b1, b2, b3]) rfl ⟨HNQ.out v ok hi'.toNat HHT.out HNM.out _ (by simp [insV]), (by repeat (first | exact HBW.out | exact chain5 HBW.out HB3.out | refine below_put _ ?_ (Nat.le_refl _) | apply bl_alloc))⟩
          · have HN2 := Lib.hid (HNX.out (.inr (.inr hw)))
            have hw2 : (wd == A) = false := by rw [beq_eq_false_iff_ne]; exact hw
            clear HNX HN
            go_wp2
            exact ⟨⟨i + 1, by first | rfl | (congr 1), by omega, HN2, chain5 HB.out (box5 _ _)⟩, by simp [intOf]; omega⟩
    · have hlt' : ¬ (i : Int) < 21 := by omega
      obtain ⟨b0, b1, b2, b3⟩ := cells3_of HXW.out
      have f0 := frozen_of_row _ _ 0 _ _ HXW.out
      have f1 := frozen_of_row _ _ 1 _ _ HXW.out
      have f2 := frozen_of_row _ _ 2 _ _ HXW.out
      have HRE := Lib.hid (HNO.out (fun j h1 h2 h3 => HN.out j (by omega) h2 h3) (.inr HQ.out))
      clear HNO HPU HBA HNU HRP HRN HN
      go_wp2
      exact bodyPost_ret (v := .tuple #[.agg #[.int .i64 0, .int .i64 0, .float .f64 0], .bool false]) (by simp [results, Tryz.results36, go_sem, b0, b1, b2]) rfl ⟨readE_none ⟨0, 0, 0⟩ HRE.out rfl, (by repeat (first | exact HBW.out | exact chain5 HBW.out HB3.out | refine below_put _ ?_ (Nat.le_refl _) | apply bl_alloc))⟩
theorem refReadLine_any (s : ByteArray) (w : World) (hsz : s.size ≤ 65536) : Calls Tryz.prog 36 #[.string s] w fun e w' => ReadE s.data.toList e ∧ Below w.heap.size w w' := by
  cases hm : (cutB 32 s.data.toList).2.2 with
  | true => exact refRead_more s w hsz hm
  | false =>
    by_cases hq : 0 < atN oneT (cutB 32 s.data.toList).1 ∨ 0 < atN twoT (cutB 32 s.data.toList).1
    · exact refRead_onetwo s w hsz hm hq
    · exact refRead_less s w hsz hm (by omega) (by omega)
end Go.Proofs.YtlnobfmbnnfbdaaGreatDoor
