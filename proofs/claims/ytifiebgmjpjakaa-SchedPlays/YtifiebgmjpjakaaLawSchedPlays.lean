/- For every number of threads and every script the statement SchedPlays answers true: each answer of the program's rounds, of its clones too, is the document's, and so are Over and Due at the end. No condition. -/
import Derived.Test.YtifiebgmjpjakaaDO
import Derived.Test.YtifiebgmjpjakaaDP
namespace Go.Proofs.Ytifiebgmjpjakaa.schedPlays
open Go.ChangeShapes Go.WideShapes Go.ChangeAt Go.RowKit

set_option maxHeartbeats 4000000 in
set_option maxRecDepth 100000 in
theorem walk_no (a0 : Int) (v : Value) (ht : mayT a0 = false) (W : World) : Calls Try.prog 5 #[.int .i64 a0, v] W fun r W2 => r = .returned (.bool true) ∧ Below W.heap.size W W2 := by
  have HN := Lib.hid (new_no a0 ht)
  have HR := Lib.hid (rnew_no a0 ht)
  clear ht
  go_enter Try.func5, Try.ntmps5
  go_wp2_with (first
    | (go_at_call 10; refine (live_any _).mono ?_; rintro e w1 ⟨rfl, hb⟩; have HB1 := Lib.hid hb; clear hb)
    | (go_at_call 8; refine (HN.out _).mono ?_; rintro e w2 ⟨rfl, hw⟩; subst w2)
    | (go_at_call 14; refine (HR.out _).mono ?_; rintro e w2 ⟨rfl, hw⟩; subst w2))
  go_ret
  exact ⟨by rfl, HB1.out⟩
theorem play_new {W w1 w2 w3 : World} {b br n : Nat} {F : List Nat} (h1 : 1 ≤ n) (h8 : n ≤ 8) (hB : Below W.heap.size W w1) (e1 : b = w1.heap.size) (hm : RdAt w2 b (newR n)) (hb2 : Below w1.heap.size w1 w2) (hr : Ref w3 br F (newF n)) (ha : Abv w2.heap.size F) (hb3 : Below w2.heap.size w2 w3) : Play W w3 b br F (newR n) (newF n) 0 :=
  ⟨hm.on hb3, hr, (hB.trans (hb2.mono hB.size)).trans (hb3.mono (Nat.le_trans hB.size hb2.size)), by have := hB.size; omega, ha.mono (Nat.le_trans hB.size hb2.size), fun q => by have := ha b q; have := hm.lt; omega, new_inv n h1 h8, new_like n, Nat.le_refl _⟩
theorem rdue_ref {w : World} {b : Nat} {F : List Nat} {r : Rf} (h : Ref w b F r) (hn : r.n ≤ 8) : Calls Try.prog 19 #[.pointer (some ⟨b, 0, none⟩)] w fun e w' => ∃ p c, e = .returned (.slice p (pickU (rdueB r) r.n).length c) ∧ RowAt 3 w' p c (i64s (pickU (rdueB r) r.n)) ∧ Abv w.heap.size (fpR p) ∧ Below w.heap.size w w' := by
  obtain ⟨gf, ps, cs, hs, rfl⟩ := h
  exact rdue_any hs hn
/-- both have come to the same -/
def Goes (W w : World) (bm br i : Nat) : Prop := ∃ F m r, Play W w bm br F m r i
set_option maxHeartbeats 4000000 in
set_option maxRecDepth 100000 in
theorem walk_yes (n : Nat) (h1 : 1 ≤ n) (h8 : n ≤ 8) (ao : Option Addr) (len cap : Nat) (K T : Nat → Int) (hz : len * 16 ≤ 140737488355328) (W : World) (hops : RopsAt W ao len K T) : Calls Try.prog 5 #[.int .i64 (n : Int), .slice ao len cap] W fun r W2 => r = .returned (.bool true) ∧ Below W.heap.size W W2 := by
  have HN := Lib.hid (new_yes n h1 h8)
  have HR := Lib.hid (rnew_yes n h1 h8)
  have HP0 : Hid (∀ {w1 w2 w3 : World} {b br : Nat} {F : List Nat}, Below W.heap.size W w1 → b = w1.heap.size → RdAt w2 b (newR n) → Below w1.heap.size w1 w2 → Ref w3 br F (newF n) → Abv w2.heap.size F → Below w2.heap.size w2 w3 → Play W w3 b br F (newR n) (newF n) 0) := fun a b c d e f g => play_new h1 h8 a b c d e f g
  have HOPS := Lib.hid hops
  have hmm : len ≤ 9223372036854775807 := by omega
  clear hops h1 h8
  go_enter Try.func5, Try.ntmps5
  go_wp2_with (first
    | (go_at_call 14; refine (HR.out _).mono ?_; rintro e w3 ⟨br, F, rfl, q1, q2, q3⟩; have HG : Hid (Goes W w3 b br 0) := ⟨_, _, _, HP0.out HB1.out HE2.out.1 HE2.out.2.1 HE2.out.2.2 q1 q2 q3⟩; clear q1 q2 q3 HE2 HB1)
    | (go_at_call 8; refine (HN.out _).mono ?_; rintro e w2 ⟨rfl, q1, q2⟩; obtain ⟨b, hb⟩ : ∃ b, b = w1.heap.size := ⟨_, rfl⟩; rw [← hb]; have HE2 : Hid (b = w1.heap.size ∧ RdAt w2 b (newR n) ∧ Below w1.heap.size w1 w2) := ⟨hb, by rw [hb]; exact q1, q2⟩; clear q1 q2 hb)
    | (go_at_call 10; refine (live_any _).mono ?_; rintro e w1 ⟨rfl, hb⟩; have HB1 := Lib.hid hb; clear hb))
  go_loopw [6, 46] (fun vm vi wr => ∃ (i bm : Nat), vi = .int .i64 i ∧ vm = .pointer (some ⟨bm, 0, none⟩) ∧ i ≤ len ∧ Hid (Goes W wr bm br i)) (fun _ vi _ => len - (intOf vi).toNat)
  case atStart => exact ⟨0, _, rfl, rfl, Nat.zero_le _, HG⟩
  case round =>
    clear HG HN HR HP0
    obtain ⟨i, bm, rfl, rfl, hi, HG⟩ := hrel
    obtain ⟨F, m, r, hp⟩ := HG.out
    clear HG
    have ho : m.o + 30 < 9223372036854775807 := by have := hp.o; omega
    by_cases hlt : i < len
    · have hlt' : (i : Int) < (len : Int) := by omega
      obtain ⟨b0, off, hao, hbW, k0, k1⟩ := HOPS.out i hlt
      subst hao
      rw [← hp.below.cell (p := ⟨b0, off + i * 2, none⟩) hbW] at k0
      rw [← hp.below.cell (p := ⟨b0, off + i * 2 + 1, none⟩) hbW] at k1
      have hbw : b0 < wr.heap.size := Nat.lt_of_lt_of_le hbW hp.below.size
      generalize K i = kk at k0
      generalize T i = tt at k1
      have hpa := hp.alloc (.cells #[.int .i64 kk, .int .i64 tt] 38)
      have HX := Lib.hid (heap_alloc_new wr (.cells #[.int .i64 kk, .int .i64 tt] 38))
      have hbl := hp.mm.lt
      have HBL : Hid (wr.heap.size ∉ [bm]) := by
        show wr.heap.size ∉ [bm]
        simp
        omega
      clear hbW HOPS hbl
      by_cases h1 : kk = 1
      · subst h1
        have HS1 := Lib.hid (step_any hpa.mm tt hpa.inv.hi (by omega))
        have HS2 : Hid (∀ w', RdAt w' bm (stepM m tt) → Turn [bm] [bm] (wr.alloc (.cells #[.int .i64 1, .int .i64 tt] 38)) w' → Calls Try.prog 16 #[.pointer (some ⟨br, 0, none⟩), .int .i64 tt] w' fun e w2 => e = .returned (.int .i64 (errT m tt)) ∧ Goes W w2 bm br (i + 1)) := fun w' q1 q2 => by
          obtain ⟨a1, a2, a3, a4⟩ := hpa.onM q1 q2
          have q := rstep_any a2 tt hpa.small.1 (by rw [hpa.like.o]; omega) hpa.small.2
          rw [err_like hpa.like] at q
          exact q.mono fun e w2 ⟨F2, he, z1, z2⟩ => ⟨he, F2, _, _, hpa.both q1 q2 z1 z2 (stepM_inv hpa.inv tt) (stepM_like hpa.inv hpa.like tt) (by have := (stepM_o m tt).2; have := hpa.o; omega)⟩
        generalize errT m tt = z at HS1 HS2
        generalize stepM m tt = m' at HS1 HS2
        clear hpa hp
        go_wp2_with (first
          | (go_at_call 16; refine (HS2.out _ HM4.out.1 HM4.out.2).mono ?_; rintro e w5 ⟨rfl, hg⟩; have HG5 := Lib.hid hg; clear hg)
          | (go_at_call 15; refine HS1.out.mono ?_; rintro e w4 ⟨rfl, q1, q2⟩; have HM4 := Lib.hid (And.intro q1 q2); obtain ⟨z0, z1, z2⟩ := cells2 ((turn_box q2 (Below.refl _ _) HBL.out).trans HX.out); clear q1 q2))
        exact ⟨⟨i + 1, _, by first | rfl | (congr 1), rfl, by omega, HG5⟩, by simp [intOf]; omega⟩
      by_cases h2 : kk = 2
      · subst h2
        have HS1 := Lib.hid (fin_any hpa.mm tt hpa.inv.hi (by omega))
        have HS2 : Hid (∀ w', RdAt w' bm (finM m tt) → Turn [bm] [bm] (wr.alloc (.cells #[.int .i64 2, .int .i64 tt] 38)) w' → Calls Try.prog 18 #[.pointer (some ⟨br, 0, none⟩), .int .i64 tt] w' fun e w2 => e = .returned (.int .i64 (errT m tt)) ∧ Goes W w2 bm br (i + 1)) := fun w' q1 q2 => by
          obtain ⟨a1, a2, a3, a4⟩ := hpa.onM q1 q2
          have q := rfin_any a2 tt hpa.small.1 (by rw [hpa.like.o]; omega)
          rw [err_like hpa.like] at q
          exact q.mono fun e w2 ⟨F2, he, z1, z2⟩ => ⟨he, F2, _, _, hpa.both q1 q2 z1 z2 (finM_inv hpa.inv tt) (finM_like hpa.inv hpa.like tt) (by have := (finM_o m tt).2; have := hpa.o; omega)⟩
        generalize errT m tt = z at HS1 HS2
        generalize finM m tt = m' at HS1 HS2
        clear hpa hp
        go_wp2_with (first
          | (go_at_call 18; refine (HS2.out _ HM4.out.1 HM4.out.2).mono ?_; rintro e w5 ⟨rfl, hg⟩; have HG5 := Lib.hid hg; clear hg)
          | (go_at_call 17; refine HS1.out.mono ?_; rintro e w4 ⟨rfl, q1, q2⟩; have HM4 := Lib.hid (And.intro q1 q2); obtain ⟨z0, z1, z2⟩ := cells2 ((turn_box q2 (Below.refl _ _) HBL.out).trans HX.out); clear q1 q2))
        exact ⟨⟨i + 1, _, by first | rfl | (congr 1), rfl, by omega, HG5⟩, by simp [intOf]; omega⟩
      by_cases h3 : kk = 3
      · subst h3
        have HP := Lib.hid hpa
        have HD := Lib.hid (due_like hpa.like)
        have HO := Lib.hid hpa.like.o
        obtain ⟨l, hl⟩ : ∃ l, l = dueL m := ⟨_, rfl⟩
        have HLL : Hid (l = dueL m) := hl
        have HL : Hid (l.length ≤ 9223372036854775807) := by
          have q := dueU_len m m.n
          have := hpa.inv.hi
          show l.length ≤ _
          rw [hl]
          show (dueU m m.n).length ≤ _
          omega
        have HD1 : Hid (∀ u, Play W u bm br F m r i → Calls Try.prog 19 #[.pointer (some ⟨br, 0, none⟩)] u fun e w' => ∃ p c, e = .returned (.slice p l.length c) ∧ RowAt 3 w' p c (i64s l) ∧ Abv u.heap.size (fpR p) ∧ Below u.heap.size u w') := fun u hu => by
          rw [hl, due_like hu.like]
          exact rdue_ref hu.rr hu.small.1
        have HD2 : Hid (∀ u, Play W u bm br F m r i → Calls Try.prog 9 #[.pointer (some ⟨bm, 0, none⟩)] u fun e w' => ∃ p c, e = .returned (.slice p l.length c) ∧ RowAt 3 w' p c (i64s l) ∧ Abv u.heap.size (fpR p) ∧ Below u.heap.size u w') := fun u hu => by
          rw [hl]
          exact due_any hu.mm hu.inv.hi
        have HO1 : Hid (∀ u, Play W u bm br F m r i → Calls Try.prog 21 #[.pointer (some ⟨br, 0, none⟩)] u fun e w' => e = .returned (.int .i64 m.o) ∧ w' = u) := fun u hu => by
          rw [← hu.like.o]
          exact rover_any hu.rr
        clear hpa hp hl HD
        go_wp2_with (first
          | (go_at_call 13; refine (same_any _ _ HL.out R2.out R1.out).mono ?_; rintro e w6 ⟨rfl, hw⟩; have HG6 : Hid (Goes W w6 bm br (i + 1)) := ⟨_, _, _, (HP2.out.on (hw.below _)).le (Nat.le_succ i)⟩; clear hw)
          | (go_at_call 9; refine (HD2.out _ HP1.out).mono ?_; rintro e w5 ⟨p2, c2, rfl, q1, q2, q3⟩; have R2 := Lib.hid q1.ints; have R1 := Lib.hid (R0.out.on q3).ints; have HP2 := Lib.hid (HP1.out.on q3); clear q1 q2 q3)
          | (go_at_call 20; refine (over_any HP1.out.mm).mono ?_; rintro e w5 ⟨rfl, hw⟩; subst w5)
          | (go_at_call 21; refine (HO1.out _ HP1.out).mono ?_; rintro e w5 ⟨rfl, hw⟩; subst w5)
          | (go_at_call 19; refine (HD1.out _ HP.out).mono ?_; rintro e w4 ⟨p1, c1, rfl, q1, q2, q3⟩; have R0 := Lib.hid q1; have HP1 := Lib.hid (HP.out.on q3); clear q1 q2 q3))
        exact ⟨⟨i + 1, _, by first | rfl | (congr 1), rfl, by omega, HG6⟩, by simp [intOf]; omega⟩
      by_cases h4 : kk = 4
      · subst h4
        have HP := Lib.hid hpa
        have HST : Hid (∀ u, RdAt u bm m → Calls Try.prog 23 #[.pointer (some ⟨bm, 0, none⟩)] u fun e w' => e = .returned (.tuple #[]) ∧ Turn [bm] [bm] u w') := fun u hu => stir_any hu hp.inv.hi (by omega)
        clear hpa hp
        go_wp2_with (first
          | (go_at_call 23; refine (HST.out _ (HP.out.mm.on C4.out.2.2)).mono ?_; rintro e w5 ⟨rfl, ht⟩; have HG5 : Hid (Goes W w5 nb br (i + 1)) := ⟨_, _, _, (HP.out.clone C4.out.1 C4.out.2.1 C4.out.2.2 ht).le (Nat.le_succ i)⟩; clear ht)
          | (go_at_call 22; refine (clone_any HP.out.mm).mono ?_; rintro e w4 ⟨nb, rfl, q1, q2, q3⟩; have C4 := Lib.hid (And.intro q1 (And.intro q2 q3)); clear q1 q2 q3))
        exact ⟨⟨i + 1, _, by first | rfl | (congr 1), rfl, by omega, HG5⟩, by simp [intOf]; omega⟩
      by_cases h5 : kk = 5
      · subst h5
        have HP := Lib.hid hpa
        have HST : Hid (∀ u nb, RdAt u nb m → Calls Try.prog 23 #[.pointer (some ⟨nb, 0, none⟩)] u fun e w' => e = .returned (.tuple #[]) ∧ Turn [nb] [nb] u w') := fun u nb hu => stir_any hu hp.inv.hi (by omega)
        clear hpa hp
        go_wp2_with (first
          | (go_at_call 23; refine (HST.out _ _ C4.out.1).mono ?_; rintro e w5 ⟨rfl, ht⟩; have HG5 : Hid (Goes W w5 bm br (i + 1)) := ⟨_, _, _, (HP.out.leave C4.out.2.1 C4.out.2.2 ht).le (Nat.le_succ i)⟩; clear ht)
          | (go_at_call 22; refine (clone_any HP.out.mm).mono ?_; rintro e w4 ⟨nb, rfl, q1, q2, q3⟩; have C4 := Lib.hid (And.intro q1 (And.intro q2 q3)); clear q1 q2 q3))
        exact ⟨⟨i + 1, _, by first | rfl | (congr 1), rfl, by omega, HG5⟩, by simp [intOf]; omega⟩
      have HG5 : Hid (Goes W (wr.alloc (.cells #[.int .i64 kk, .int .i64 tt] 38)) bm br (i + 1)) := ⟨_, _, _, hpa.le (Nat.le_succ i)⟩
      clear hpa hp
      go_wp2
      exact ⟨⟨i + 1, _, by first | rfl | (congr 1), rfl, by omega, HG5⟩, by simp [intOf]; omega⟩
    · have hlt' : ¬ (i : Int) < (len : Int) := by omega
      have HP := Lib.hid hp
      obtain ⟨l, hl⟩ : ∃ l, l = dueL m := ⟨_, rfl⟩
      have HL : Hid (l.length ≤ 9223372036854775807) := by
        have q := dueU_len m m.n
        have := hp.inv.hi
        show l.length ≤ _
        rw [hl]
        show (dueU m m.n).length ≤ _
        omega
      have HD1 : Hid (∀ u, Play W u bm br F m r i → Calls Try.prog 19 #[.pointer (some ⟨br, 0, none⟩)] u fun e w' => ∃ p c, e = .returned (.slice p l.length c) ∧ RowAt 3 w' p c (i64s l) ∧ Abv u.heap.size (fpR p) ∧ Below u.heap.size u w') := fun u hu => by
        rw [hl, due_like hu.like]
        exact rdue_ref hu.rr hu.small.1
      have HD2 : Hid (∀ u, Play W u bm br F m r i → Calls Try.prog 9 #[.pointer (some ⟨bm, 0, none⟩)] u fun e w' => ∃ p c, e = .returned (.slice p l.length c) ∧ RowAt 3 w' p c (i64s l) ∧ Abv u.heap.size (fpR p) ∧ Below u.heap.size u w') := fun u hu => by
        rw [hl]
        exact due_any hu.mm hu.inv.hi
      have HO1 : Hid (∀ u, Play W u bm br F m r i → Calls Try.prog 21 #[.pointer (some ⟨br, 0, none⟩)] u fun e w' => e = .returned (.int .i64 m.o) ∧ w' = u) := fun u hu => by
        rw [← hu.like.o]
        exact rover_any hu.rr
      clear hp hl HOPS
      go_wp2_with (first
        | (go_at_call 13; refine (same_any _ _ HL.out R2.out R1.out).mono ?_; rintro e w6 ⟨rfl, hw⟩; have HB6 := Lib.hid (HP2.out.on (hw.below _)).below; clear hw)
        | (go_at_call 9; refine (HD2.out _ HP1.out).mono ?_; rintro e w5 ⟨p2, c2, rfl, q1, q2, q3⟩; have R2 := Lib.hid q1.ints; have R1 := Lib.hid (R0.out.on q3).ints; have HP2 := Lib.hid (HP1.out.on q3); clear q1 q2 q3)
        | (go_at_call 20; refine (over_any HP1.out.mm).mono ?_; rintro e w5 ⟨rfl, hw⟩; subst w5)
        | (go_at_call 21; refine (HO1.out _ HP1.out).mono ?_; rintro e w5 ⟨rfl, hw⟩; subst w5)
        | (go_at_call 19; refine (HD1.out _ HP.out).mono ?_; rintro e w4 ⟨p1, c1, rfl, q1, q2, q3⟩; have R0 := Lib.hid q1; have HP1 := Lib.hid (HP.out.on q3); clear q1 q2 q3))
      go_ret
      exact ⟨by simp, HB6.out⟩
theorem walk (a0 : Int) (o1 : Option Addr) (l1 c1 : Nat) (K1 T1 : Nat → Int) (_w0 : (Lit.int .i64 a0).wf = true) (_fm1 : l1 ≤ maxLen) (fz1 : l1 * 16 ≤ reachBytes) (W : World) (fW1 : RopsAt W o1 l1 K1 T1) : Calls Try.prog 5 #[.int .i64 a0, .slice o1 l1 c1] W fun r W2 => r = .returned (.bool true) ∧ Below W.heap.size W W2 := by
  cases ht : mayT a0
  · exact walk_no a0 _ ht W
  · obtain ⟨n, rfl, h1, h8⟩ := mayT_nat ht
    exact walk_yes n h1 h8 o1 l1 c1 K1 T1 (by unfold reachBytes at fz1; omega) W fW1

set_option maxRecDepth 100000 in
theorem lifted (os : Os) (started : os.Started) (H : Type) (enc : TypeId × Value → H) :
    ReturnsInHanded {} Try.checked os 5 .any (Rows.schedPlaysSpec.pre6 enc Try.prog Try.f5 Rows.schedPlaysRow.domain false) (Rows.schedPlaysSpec.post enc Try.prog Try.f5 false true false false) := by
  refine returnsInHanded_of_change_sized (C := Try.checked) ownK started (by kernel_rfl) Try.func5
    (ChangeSpec.witness6 (enc := enc) (C := Try.checked) false ⟨#[], #[.int .i64 0, .slice none 0 0], []⟩ 8 (by kernel_rfl) (by kernel_rfl) (by kernel_rfl) (by kernel_rfl)) ?_
  intro W base args ds gs before hval0 hW _ hsz0 _
  have hval : ∀ (j : Nat) t v, Try.f5.params[j]? = some t → args[j]? = some v → Value.okWide Try.prog W .any base t v := hval0
  have hW2 := hW
  obtain ⟨p, q, hA0, hV, rfl, _, _⟩ := hW
  have hA : DataW.TrodAll enc Try.prog W 0 (fun _ => true) true Try.f5.params.toList args.toList ds p := hA0
  have hsz : (DataW.weightsEach Try.prog (Try.f5.params.toList ++ Rows.schedPlaysSpec.plain.varTypes Try.prog) (ds ++ gs)).all (· ≤ reachBytes) = true := hsz0
  clear hsz0
  rw [Try.params5] at hA hval hsz
  obtain ⟨v0, vs0, d0, ds0, p0, q0, hargs, rfl, rfl, h0, r0⟩ := trodAll_cons hA
  obtain ⟨v1, vs1, d1, ds1, p1, q1, rfl, rfl, rfl, h1, r1⟩ := trodAll_cons r0
  obtain ⟨rfl, rfl, rfl⟩ := trodAll_nil r1
  obtain rfl : args = #[v0, v1] := by cases args; simp_all
  obtain ⟨rfl, rfl⟩ := trodVars_none hV
  obtain ⟨a0, rfl, rfl, rfl, w0⟩ := open_int Try.underlying3 (hval 0 3 v0 rfl rfl) h0
  obtain ⟨o1, l1, c1, K1, T1, rfl, fm1, fz1, fW1⟩ := open_rops (hval 1 33 v1 rfl rfl) h1
  have fz1 := fz1 hsz (j := 1) rfl rfl
  clear hA0 hval0
  simp only [List.append_nil] at hW2
  have hlt : ∀ x ∈ p1, x.block < W.heap.size := fun x hx => by simpa using hW2.lt x (by simpa using hx)
  refine (walk a0 o1 l1 c1 K1 T1 w0 fm1 fz1 W fW1).mono fun e W2 ⟨he, hnx⟩ => ?_
  subst he
  exact ⟨_, rfl, _, _, _, [], _, [], hW2, trodAll_mk1 (shut_bool Try.underlying4 _), (trodAll_cons_mk (shut_int Try.underlying3 w0) (trodAll_cons_mk (Below.trod laidOut (by kernel_rfl) (of_decide_eq_true (by kernel_rfl)) h1 hnx (fun x hx => hlt x (by first | simpa using hx | (simp at hx ⊢; simp [hx])))) trodAll_mk0)), rfl, hnx.frame _, fun h => by cases h⟩

/-- the statement -/
theorem proved : Rows.SchedPlaysSaid :=
  OpenClaim.holds_of_wide 5 Try.f5 rfl rfl rfl rfl rfl rfl rfl ⟨rfl, rfl, rfl, rfl, rfl⟩ rfl rfl rfl rfl rfl (by kernel_rfl) Try.func5 (by kernel_rfl)
    (of_decide_eq_true (by kernel_rfl)) (by unfold Func.isWrapper; first | (rw [if_pos (by decide +kernel)]; kernel_rfl) | (rw [if_neg (by decide +kernel)]; exact ⟨rfl, rfl⟩))
    (fun os started H enc _ => lifted os started H enc)
end Go.Proofs.Ytifiebgmjpjakaa.schedPlays
