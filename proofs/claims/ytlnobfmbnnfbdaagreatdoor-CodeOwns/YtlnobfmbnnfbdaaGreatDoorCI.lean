/- the document's Read -/
import Derived.Test.YtlnobfmbnnfbdaaGreatDoorCH2
import Derived.Test.YtlnobfmbnnfbdaaGreatDoorC7
import Derived.Test.YtlnobfmbnnfbdaaGreatDoorCG
namespace Go.Proofs.YtlnobfmbnnfbdaaGreatDoor
open Go.ChangeShapes Go.WideShapes Go.ChangeAt Go.RowKit Num
attribute [local go_sem] run_store_float

theorem cut_le {c : UInt8} (l : List UInt8) : (cutB c l).1.length ≤ l.length ∧ (cutB c l).2.1.length ≤ l.length := by
  rcases cutB_cases c l with ⟨a, b, rfl, _, e⟩ | ⟨_, e⟩ <;> rw [e] <;> simp <;> omega
/-- what reading a line comes to -/
def ReadE (l : List UInt8) (e : Ending) : Prop := match readI l with
  | some i => e = .returned (.tuple #[insV i, .bool true])
  | none => ∃ i : Ins, e = .returned (.tuple #[insV i, .bool false])
theorem readE_some {l : List UInt8} {i : Ins} {e : Ending} (h : readI l = some i) (he : e = .returned (.tuple #[insV i, .bool true])) : ReadE l e := by
  unfold ReadE
  rw [h]
  exact he
theorem readE_none {l : List UInt8} (i : Ins) {e : Ending} (h : readI l = none) (he : e = .returned (.tuple #[insV i, .bool false])) : ReadE l e := by
  unfold ReadE
  rw [h]
  exact ⟨i, he⟩
theorem at_pos {T : List (List UInt8)} {w : List UInt8} {k : Nat} (h : atN T w = k) (hk : 0 < k) : k < T.length ∧ T.getD k [] = w := by
  unfold atN at h
  cases hq : findW T w with
  | none => rw [hq] at h; simp at h; omega
  | some j =>
    rw [hq] at h
    simp at h
    subst h
    exact ⟨(findW_some.1 hq).1, (findW_some.1 hq).2.1⟩
section
variable {l : List UInt8}
theorem read_one {k : Nat} (hm : (cutB 32 l).2.2 = false) (h : atN oneT (cutB 32 l).1 = k) (hk : 0 < k) : readI l = some ⟨9, k, 0⟩ := by
  obtain ⟨h1, h2⟩ := at_pos h hk
  have h3 := (one_facts k h1 hk).2.2
  have h2' : oneW k = (cutB 32 l).1 := h2
  unfold readI
  rw [← h2', h3, hm]
  show (if (shp 9).kind = 1 then _ else _) = _
  rw [shp_9.1]
  rfl
theorem read_two {k : Nat} (hm : (cutB 32 l).2.2 = false) (h : atN twoT (cutB 32 l).1 = k) (hk : 0 < k) : readI l = some ⟨10, k, 0⟩ := by
  obtain ⟨h1, h2⟩ := at_pos h hk
  have h3 := (two_facts k h1 hk).2.2
  have h2' : twoW k = (cutB 32 l).1 := h2
  unfold readI
  rw [← h2', h3, hm]
  show (if (shp 10).kind = 1 then _ else _) = _
  rw [shp_10.1]
  rfl
theorem read_miss (hn : ∀ j, j < 21 → 1 ≤ j → (cutB 32 l).1 ≠ [] → (shp j).word ≠ (cutB 32 l).1) (hm : (cutB 32 l).2.2 = true ∨ (atN oneT (cutB 32 l).1 = 0 ∧ atN twoT (cutB 32 l).1 = 0)) : readI l = none := by
  cases hq : namedW (cutB 32 l).1 with
  | none => unfold readI; rw [hq]
  | some q =>
    have hne : (cutB 32 l).1 ≠ [] := fun e => by rw [e] at hq; cases hq
    obtain ⟨h1, h2, h3⟩ := named_facts hq
    rcases h3 with ⟨_, h4, _⟩ | ⟨h4, h5, h6, h7⟩ | ⟨h4, h5, h6, h7⟩
    · exact absurd h4 (hn _ h1 h2 hne)
    · rcases hm with hm | hm
      · unfold readI
        rw [hq, hm]
        show (if (shp q.1).kind = 1 then _ else _) = _
        rw [h4, shp_9.1]
        rfl
      · have := one_self q.2 h5 h6
        rw [h7, hm.1] at this
        omega
    · rcases hm with hm | hm
      · unfold readI
        rw [hq, hm]
        show (if (shp q.1).kind = 1 then _ else _) = _
        rw [h4, shp_10.1]
        rfl
      · have := two_self q.2 h5 h6
        rw [h7, hm.2] at this
        omega
theorem read_hit {k : Nat} (hk : k < 21) (h1 : 1 ≤ k) (hw : (shp k).word = (cutB 32 l).1) (hne : (cutB 32 l).1 ≠ []) : readI l =
    (if (shp k).kind = 1 then (if (parseR (cutB 32 l).2.1).2 = 0 then some ⟨k, 0, (parseR (cutB 32 l).2.1).1⟩ else none)
    else if (shp k).kind = 2 ∨ (shp k).kind = 3 then (if (wholeR (cutB 32 l).2.1).2 = 0 ∧ fitsB k (wholeR (cutB 32 l).2.1).1 = true then some ⟨k, (wholeR (cutB 32 l).2.1).1, 0⟩ else none)
    else if (cutB 32 l).2.2 = true then none else some ⟨k, 0, 0⟩) := by
  have h2 := word_some k hk (by rw [hw]; exact hne)
  have h3 := (word_facts k hk (by have := kind_all k hk; omega)).2.2
  unfold readI
  rw [← hw, h3]
  rfl
theorem cut_more (hm : (cutB 32 l).2.2 = false) : (cutB 32 l).2.1 = [] := by
  rcases cutB_cases 32 l with ⟨a, b, _, _, e⟩ | ⟨_, e⟩
  · rw [e] at hm; cases hm
  · rw [e]
theorem read_push (hw : (shp 1).word = (cutB 32 l).1) (hne : (cutB 32 l).1 ≠ []) {e : Ending} (he : e = .returned (.tuple #[insV ⟨1, 0, (parseR (cutB 32 l).2.1).1⟩, .bool ((cutB 32 l).2.2 && decide ((parseR (cutB 32 l).2.1).2 = 0))])) : ReadE l e := by
  have h := read_hit (l := l) (k := 1) (by decide) (by decide) hw hne
  rw [if_pos (by decide +kernel)] at h
  by_cases h0 : (parseR (cutB 32 l).2.1).2 = 0
  · rw [if_pos h0] at h
    have hm : (cutB 32 l).2.2 = true := by
      cases hq : (cutB 32 l).2.2 with
      | true => rfl
      | false =>
        rw [cut_more hq] at h0
        exact absurd h0 parseR_nil
    rw [hm, decide_eq_true h0] at he
    exact readE_some h he
  · rw [if_neg h0] at h
    rw [decide_eq_false h0, Bool.and_false] at he
    exact readE_none _ h he
theorem read_bare {k : Nat} (hk : k < 21) (h1 : 1 ≤ k) (hw : (shp k).word = (cutB 32 l).1) (hne : (cutB 32 l).1 ≠ []) (hk1 : k ≠ 1) (hh : rhi k = 0) {e : Ending} (he : e = .returned (.tuple #[insV ⟨k, 0, 0⟩, .bool (!(cutB 32 l).2.2)])) : ReadE l e := by
  have h2 := word_some k hk (by rw [hw]; exact hne)
  have h3 := (rhi_kind k hk h1 hk1 h2.2).1 hh
  have h := read_hit hk h1 hw hne
  rw [if_neg (by omega), if_neg (by omega)] at h
  cases hm : (cutB 32 l).2.2 with
  | true => rw [hm] at h he; exact readE_none _ h he
  | false => rw [hm] at h he; exact readE_some h he
theorem read_num {k : Nat} (hk : k < 21) (h1 : 1 ≤ k) (hw : (shp k).word = (cutB 32 l).1) (hne : (cutB 32 l).1 ≠ []) (hk1 : k ≠ 1) (hh : rhi k ≠ 0) {v : Int} {ok : Bool} {most : Nat} (hmost : (most : Int) = (shp k).hi) (hn : NumR (cutB 32 l).2.1 most v ok) {e : Ending} (he : e = .returned (.tuple #[insV ⟨k, v, 0⟩, .bool ((cutB 32 l).2.2 && ok)])) : ReadE l e := by
  have h2 := word_some k hk (by rw [hw]; exact hne)
  have h3 : (shp k).kind = 2 ∨ (shp k).kind = 3 := by
    have q1 := rhi_kind k hk h1 hk1 h2.2
    have q2 := kind_all k hk
    have q3 : (shp k).kind ≠ 1 := fun q => hk1 (kind_1 k hk q)
    have q4 : (shp k).kind ≠ 0 := fun q => hh (q1.2 q)
    omega
  obtain ⟨_, _, h5, _, _⟩ := rhi_23 k hk h3
  have h := read_hit hk h1 hw hne
  rw [if_neg (by omega), if_pos h3] at h
  cases ok with
  | true =>
    obtain ⟨n1, n2, n3⟩ := hn.1 rfl
    have n4 := (wholeR_ok n1).2
    have hm : (cutB 32 l).2.2 = true := by
      cases hq : (cutB 32 l).2.2 with
      | true => rfl
      | false =>
        rw [cut_more hq] at n1
        exact absurd n1 wholeR_nil
    rw [if_pos ⟨n1, by unfold fitsB; simp; omega⟩, ← n3] at h
    rw [hm] at he
    exact readE_some h he
  | false =>
    have n1 := hn.2 rfl
    rw [if_neg (fun q => n1 ⟨q.1, by have q2 := q.2; unfold fitsB at q2; simp at q2; omega⟩)] at h
    rw [Bool.and_false] at he
    exact readE_none _ h he
end
theorem rhi_le : ∀ k, k < 21 → rhi k ≤ 1023 := by decide +kernel
theorem decide_eq_beq' (a b : Int) : decide (a = b) = (a == b) := by by_cases h : a = b <;> simp [h]
theorem rows_on {w w' : World} {b : Nat} (h : RowsAt w b) (hb : Below w.heap.size w w') : RowsAt w' b :=
  ⟨Nat.lt_of_lt_of_le h.lt hb.size, fun k hk => by
    obtain ⟨c0, c1, c2, c3, c4⟩ := h.row k hk
    exact ⟨(hb.cell (p := ⟨b, k * 5, none⟩) h.lt).trans c0, (hb.cell (p := ⟨b, k * 5 + 1, none⟩) h.lt).trans c1, (hb.cell (p := ⟨b, k * 5 + 2, none⟩) h.lt).trans c2, (hb.cell (p := ⟨b, k * 5 + 3, none⟩) h.lt).trans c3, (hb.cell (p := ⟨b, k * 5 + 4, none⟩) h.lt).trans c4⟩⟩
/-- an instruction's box -/
def InsBox (w : World) (b : Nat) : Prop := w.heap[b]? = some (.cells #[.int .i64 0, .int .i64 0, .float .f64 0] 42 (0, 0))
theorem InsBox.on {w w' : World} {b : Nat} (h : InsBox w b) (hb : Below w.heap.size w w') : InsBox w' b := (hb.block b (lt_of_block h)).trans h
set_option maxHeartbeats 8000000 in
set_option maxRecDepth 100000 in
theorem refRead_more (s : ByteArray) (w : World) (hsz : s.size ≤ 65536) (hm : (cutB 32 s.data.toList).2.2 = true) : Calls Tryz.prog 36 #[.string s] w fun e w' => ReadE s.data.toList e ∧ Below w.heap.size w w' := by
  have HC := Lib.hid (fun w' => refCut_any s w' hsz)
  rw [hm] at HC
  have HNO := Lib.hid (@read_miss s.data.toList)
  have HPU : Hid _ := @read_push s.data.toList
  have HBA : Hid _ := fun k => @read_bare s.data.toList k
  have HNU : Hid _ := fun k hk h1 hw hne hk1 hh v ok most => @read_num s.data.toList k hk h1 hw hne hk1 hh v ok most
  rw [hm] at HNO HPU HBA HNU
  have hlB : (⟨(cutB 32 s.data.toList).2.1.toArray⟩ : ByteArray).size ≤ 65536 := by
    have := (cut_le (c := 32) s.data.toList).2
    rw [size_list] at hsz ⊢
    simp
    omega
  generalize (cutB 32 s.data.toList).1 = A at *
  generalize (cutB 32 s.data.toList).2.1 = B at *
  have HRP := Lib.hid (fun w' => refParse_any ⟨B.toArray⟩ w')
  have HRN : Hid (∀ (z : Int) (most : Nat), z = most → most ≤ 1023 → ∀ w' : World, Calls Tryz.prog 54 #[.string ⟨B.toArray⟩, .int .i64 z] w' fun e w2 => NumE B most e ∧ w2 = w') := fun z most hz hm w' => by
    have := refNumber_any ⟨B.toArray⟩ most hm w' hlB
    rw [hz]
    exact this
  simp only at HRP
  generalize s.data.toList = L at *
  clear hm hlB
  go_enter Tryz.func36, Tryz.ntmps36
  go_wp2_with (first
    | (go_at_call 51; refine (HC.out _).mono ?_; rintro e w1 ⟨rfl, hb⟩; have HB1 := Lib.hid (chain5 (box5 w _) hb); have HX1 : Hid (InsBox w1 w.heap.size) := (hb.block w.heap.size (by simp)).trans (heap_alloc_new w _); clear hb)
    | (go_at_call 27; refine (rows_any _).mono ?_; rintro e w2 ⟨rfl, hw⟩; subst w2))
  have HRW := Lib.hid (rowsO_at w1)
  go_loopw [40] (fun vi wr => ∃ i : Nat, vi = .int .i64 i ∧ i ≤ 21 ∧ Hid (∀ j, j < i → 1 ≤ j → A ≠ [] → (shp j).word ≠ A) ∧ Hid (Below (w1.alloc rowsO).heap.size (w1.alloc rowsO) wr)) (fun vi _ => 21 - (intOf vi).toNat)
  case atStart => exact ⟨0, rfl, Nat.zero_le _, fun j hj => absurd hj (Nat.not_lt_zero j), Below.refl _ _⟩
  case round =>
    obtain ⟨i, rfl, hi, HN, HB⟩ := hrel
    have HBW := Lib.hid (chain5 HB1.out (chain5 (box5 _ _) HB.out))
    have HXW := Lib.hid (HX1.out.on (chain5 (box5 _ _) HB.out))
    by_cases hlt : i < 21
    · have hlt' : (i : Int) < 21 := by omega
      obtain ⟨k0, k1, k2, k3, k4⟩ := (rows_on HRW.out HB.out).row i hlt
      have hrb := (rows_on HRW.out HB.out).lt
      unfold strB at k0
      have HNX : Hid ((i = 0 ∨ A = [] ∨ (shp i).word ≠ A) → ∀ j, j < i + 1 → 1 ≤ j → A ≠ [] → (shp j).word ≠ A) := fun hq j hj h1 hne => by
        rcases Nat.lt_succ_iff_lt_or_eq.1 hj with q | rfl
        · exact HN.out j q h1 hne
        · rcases hq with q | q | q
          · omega
          · exact absurd q hne
          · exact q
      obtain ⟨lo, hlo⟩ : ∃ lo, lo = rlo i := ⟨_, rfl⟩
      obtain ⟨hi', hhi⟩ : ∃ hi', hi' = rhi i := ⟨_, rfl⟩
      obtain ⟨wd, hwd⟩ : ∃ wd, wd = (shp i).word := ⟨_, rfl⟩
      rw [← hlo] at k1
      rw [← hhi] at k2
      rw [← hwd] at k0 HNX
      clear hlo
      generalize (shp i).takes = tk at *
      generalize (shp i).lays = ly at *
      have HWD := Lib.hid hwd
      have HHI := Lib.hid hhi
      clear hwd hhi
      by_cases hi0 : i = 0
      · subst hi0
        have HN2 := Lib.hid (HNX.out (.inl rfl))
        clear HNX HN
        go_wp2
        exact ⟨⟨1, rfl, by omega, HN2, chain5 HB.out (box5 _ _)⟩, by simp [intOf]⟩
      · have hi1 : 1 ≤ i := by omega
        have hz0 : ((i : Int) == 0) = false := by rw [beq_eq_false_iff_ne]; omega
        by_cases hA : A = []
        · have HN2 := Lib.hid (HNX.out (.inr (.inl hA)))
          subst hA
          clear HNX HN
          go_wp2
          exact ⟨⟨i + 1, by first | rfl | (congr 1), by omega, HN2, chain5 HB.out (box5 _ _)⟩, by simp [intOf]; omega⟩
        · have hA1 : A.isEmpty = false := by cases A <;> simp_all
          have hA2 : (A == []) = false := by rw [beq_eq_false_iff_ne]; exact hA
          by_cases hw : wd = A
          · subst hw
            obtain ⟨b0, b1, b2, b3⟩ := cells3_of HXW.out
            have f0 := frozen_of_row _ _ 0 _ _ HXW.out
            have f1 := frozen_of_row _ _ 1 _ _ HXW.out
            have f2 := frozen_of_row _ _ 2 _ _ HXW.out
            clear HNX HN hi0
            by_cases h1 : i = 1
            · subst h1
              have HPQ : Hid (∀ e, e = .returned (.tuple #[insV ⟨1, 0, (parseR B).1⟩, .bool (true && decide ((parseR B).2 = 0))]) → ReadE L e) := fun e he => HPU.out HWD.out.symm hA he
              clear HPU HBA HNU HNO HRN
              generalize (parseR B).1 = x at *
              generalize (parseR B).2 = e0 at *
              go_wp2_with (first
                | (go_at_call 53; refine (HRP.out _).mono ?_; rintro e w3 ⟨rfl, hb⟩; have HB3 := Lib.hid (chain5 (box5 _ _) hb); have hx3 := HXW.out.on (chain5 (box5 _ _) hb); obtain ⟨d0, d1, d2, d3⟩ := cells3_of hx3; have g0 := frozen_of_row _ _ 0 _ _ hx3; have g1 := frozen_of_row _ _ 1 _ _ hx3; have g2 := frozen_of_row _ _ 2 _ _ hx3; clear hb hx3))
              exact bodyPost_ret (v := .tuple #[.agg #[.int .i64 1, .int .i64 0, .float .f64 x], .bool (e0 == 0)]) (by simp [results, Tryz.results36, go_sem, d0, d1, d2]) rfl ⟨HPQ.out _ (by simp [insV, decide_eq_beq']), (by repeat (first | exact HBW.out | exact chain5 HBW.out HB3.out | refine below_put _ ?_ (Nat.le_refl _) | apply bl_alloc))⟩
            · have hz1 : ((i : Int) == 1) = false := by rw [beq_eq_false_iff_ne]; omega
              by_cases hh : hi' = 0
              · have HBQ : Hid (∀ e, e = .returned (.tuple #[insV ⟨i, 0, 0⟩, .bool (!true)]) → ReadE L e) := fun e he => HBA.out i hlt hi1 HWD.out.symm hA h1 (HHI.out.symm.trans hh) he
                clear HPU HBA HNU HNO HRN HRP
                subst hh
                go_wp2
                exact bodyPost_ret (v := .tuple #[.agg #[.int .i64 i, .int .i64 0, .float .f64 0], .bool false]) (by simp [results, Tryz.results36, go_sem, b0, b1, b2, b3]) rfl ⟨HBQ.out _ rfl, (by repeat (first | exact HBW.out | exact chain5 HBW.out HB3.out | refine below_put _ ?_ (Nat.le_refl _) | apply bl_alloc))⟩
              · have HNQ : Hid (∀ v ok (most : Nat), (most : Int) = (if hi' < 0 then (1023 : Int) else hi') → NumR B most v ok → ∀ e, e = .returned (.tuple #[insV ⟨i, v, 0⟩, .bool (true && ok)]) → ReadE L e) := fun v ok most hmost hn e he => by
                  have hr : rhi i ≠ 0 := fun q => hh (HHI.out.trans q)
                  have h2 := word_some i hlt (by rw [← HWD.out]; exact hA)
                  have h3 : (shp i).kind = 2 ∨ (shp i).kind = 3 := by
                    have q1 := rhi_kind i hlt hi1 h1 h2.2
                    have q2 := kind_all i hlt
                    have q3 : (shp i).kind ≠ 1 := fun q => h1 (kind_1 i hlt q)
                    have q4 : (shp i).kind ≠ 0 := fun q => hr (q1.2 q)
                    omega
                  exact HNU.out i hlt hi1 HWD.out.symm hA h1 hr v ok most (by rw [hmost, HHI.out]; exact (rhi_23 i hlt h3).2.1) hn he
                have HMX : Hid (hi' ≤ 1023) := by
                  show hi' ≤ 1023
                  rw [HHI.out]
                  exact rhi_le i hlt
                have hh1 : (hi' == 0) = false := by rw [beq_eq_false_iff_ne]; exact hh
                clear HPU HBA HNU HNO HRP
                by_cases hneg : hi' < 0
                · rw [if_pos hneg] at HNQ
                  go_wp2_with (first
                    | (go_at_call 54; refine (HRN.out 1023 1023 rfl (by decide) _).mono ?_; rintro e w3 ⟨⟨v, ok, rfl, hn⟩, hw3⟩; subst w3; have HNM := Lib.hid hn; clear hn))
                  exact bodyPost_ret (v := .tuple #[.agg #[.int .i64 i, .int .i64 v, .float .f64 0], .bool ok]) (by simp [results, Tryz.results36, go_sem, b0, b1, b2, b3]) rfl ⟨HNQ.out v ok 1023 rfl HNM.out _ (by simp [insV]), (by repeat (first | exact HBW.out | exact chain5 HBW.out HB3.out | refine below_put _ ?_ (Nat.le_refl _) | apply bl_alloc))⟩
                · rw [if_neg hneg] at HNQ
                  have hnat : (hi'.toNat : Int) = hi' := by omega
                  have HHT := Lib.hid hnat
                  clear hnat
                  go_wp2_with (first
                    | (go_at_call 54; refine (HRN.out hi' hi'.toNat HHT.out.symm (by have := HMX.out; omega) _).mono ?_; rintro e w3 ⟨⟨v, ok, rfl, hn⟩, hw3⟩; subst w3; have HNM := Lib.hid hn; clear hn))
                  exact bodyPost_ret (v := .tuple #[.agg #[.int .i64 i, .int .i64 v, .float .f64 0], .bool ok]) (by simp [results, Tryz.results36, go_sem, b0, b1, b2, b3]) rfl ⟨HNQ.out v ok hi'.toNat HHT.out HNM.out _ (by simp [insV]), (by repeat (first | exact HBW.out | exact chain5 HBW.out HB3.out | refine below_put _ ?_ (Nat.le_refl _) | apply bl_alloc))⟩
          · have HN2 := Lib.hid (HNX.out (.inr (.inr hw)))
            have hw2 : (wd == A) = false := by rw [beq_eq_false_iff_ne]; exact hw
            clear HNX HN
            go_wp2
            exact ⟨⟨i + 1, by first | rfl | (congr 1), by omega, HN2, chain5 HB.out (box5 _ _)⟩, by simp [intOf]; omega⟩
    · have hlt' : ¬ (i : Int) < 21 := by omega
      obtain ⟨b0, b1, b2, b3⟩ := cells3_of HXW.out
      have f0 := frozen_of_row _ _ 0 _ _ HXW.out
      have f1 := frozen_of_row _ _ 1 _ _ HXW.out
      have f2 := frozen_of_row _ _ 2 _ _ HXW.out
      have HRE := Lib.hid (HNO.out (fun j h1 h2 h3 => HN.out j (by omega) h2 h3) (.inl trivial))
      clear HNO HPU HBA HNU HRP HRN HN
      go_wp2
      exact bodyPost_ret (v := .tuple #[.agg #[.int .i64 0, .int .i64 0, .float .f64 0], .bool false]) (by simp [results, Tryz.results36, go_sem, b0, b1, b2]) rfl ⟨readE_none ⟨0, 0, 0⟩ HRE.out rfl, (by repeat (first | exact HBW.out | exact chain5 HBW.out HB3.out | refine below_put _ ?_ (Nat.le_refl _) | apply bl_alloc))⟩
end Go.Proofs.YtlnobfmbnnfbdaaGreatDoor
