/- For every room and every list of numbers the statement StackFresh answers true: the list that All tells is the caller's own, what is done to it does not come back, nor does what is done to a clone. No condition. -/
import Derived.Test.YteeemjidjckimaaS3
import Derived.Test.YteeemjidjckimaaS4
namespace Go.Proofs.Yteeemjidjckimaa.stackFresh
open Go.ChangeShapes Go.WideShapes Go.ChangeAt Go.RowKit

theorem cell_two_new (w : World) (x y : Value) (t : TypeId) : ∀ j u, [x, y][j]? = some u → (w.alloc (.cells #[x, y] t)).cell? ((⟨w.heap.size, 0, none⟩ : Addr).add j) = some u := by
  intro j u hj
  match j, hj with
  | 0, hj => simp at hj; subst hj; simp [Addr.add]
  | 1, hj => simp at hj; subst hj; simp [Addr.add]
theorem sliced_all (a : Option Addr) (h c : Nat) : sliced a 0 h c 1 = .slice a h c := by
  cases a <;> simp [sliced, Addr.add]
theorem min_step {i r m : Nat} (h : m = min i r) (hlt : m < r) : m = i ∧ m + 1 = min (i + 1) r := by omega
theorem min_stay {i r m : Nat} (h : m = min i r) (hlt : ¬ m < r) : m = min (i + 1) r := by omega
theorem grown_turn {w w' : World} {g : Nat} (h : w.grownBy w' (some g)) : Turn [g] [g] w w' :=
  ⟨h.os, h.tape, h.output, h.size, fun k hk hn => h.block k hk (by simp at hn ⊢; omega), fun k hk => .inl hk⟩
theorem row_store {E : TypeId} {w : World} {g c : Nat} {xs : List Value} (h : RowAt E w (some ⟨g, 0, none⟩) c xs) (i : Nat) (z : Value) : RowAt E (w.setCell ⟨g, i, none⟩ z) (some ⟨g, 0, none⟩) c (xs.set i z) ∧ Turn [g] [g] w (w.setCell ⟨g, i, none⟩ z) := by
  obtain ⟨hs, hg⟩ := h.own.stored i z
  exact ⟨⟨by rw [List.length_set]; exact hs⟩, grown_turn hg⟩
theorem ints_turn {w w' : World} {p : Option Addr} {n : Nat} {x : Nat → Int} {F F' : List Nat} (h : IntsAt w p n x) (ht : Turn F F' w w') (hs : ∀ a, p = some a → a.block ∉ F) : IntsAt w' p n x := fun i hi => by
  obtain ⟨g, o, h1, h2, h3⟩ := h i hi
  exact ⟨g, o, h1, Nat.lt_of_lt_of_le h2 ht.size, (World.cell?_of_block (a := ⟨g, o + i, none⟩) (ht.block g h2 (hs _ h1))).trans h3⟩
/-- the stack, its clone, and a list of one's own -/
structure Three (W w : World) (b : Nat) (F : List Nat) (nb : Nat) (Fc : List Nat) (g : Nat) (l : List Int) (r : Int) : Prop where
  m : Stk 57 3 w b F (i64s l) r
  c : Stk 57 3 w nb Fc (i64s l) r
  below : Below W.heap.size W w
  am : Abv W.heap.size F
  ac : Abv W.heap.size Fc
  ag : W.heap.size ≤ g
  ap : Sep F Fc
  mg : g ∉ F
  cg : g ∉ Fc
theorem Three.turn {W w w' : World} {b nb g : Nat} {F Fc : List Nat} {l : List Int} {r : Int} (h : Three W w b F nb Fc g l r) (ht : Turn [g] [g] w w') : Three W w' b F nb Fc g l r :=
  ⟨h.m.turn ht (fun k hk q => by simp at q; subst q; exact h.mg hk), h.c.turn ht (fun k hk q => by simp at q; subst q; exact h.cg hk), turn_chain h.below ht (abv_one h.ag), h.am, h.ac, h.ag, h.ap, h.mg, h.cg⟩
theorem Three.alloc {W w : World} {b nb g : Nat} {F Fc : List Nat} {l : List Int} {r : Int} (h : Three W w b F nb Fc g l r) (o : Obj) : Three W (w.alloc o) b F nb Fc g l r :=
  ⟨h.m.alloc o, h.c.alloc o, h.below.alloc h.below.size o, h.am, h.ac, h.ag, h.ap, h.mg, h.cg⟩
theorem three {W w w3 w4 : World} {b nb : Nat} {F Fc : List Nat} {l : List Int} {r : Int} (hs : Stk 57 3 w b F (i64s l) r) (hc : Stk 57 3 w3 nb Fc (i64s l) r) (ha : Abv W.heap.size F) (hac : Abv w.heap.size Fc) (hb : Below W.heap.size W w) (hbc : Below w.heap.size w w3) (h4 : Below w3.heap.size w3 w4) : Three W w4 b F nb Fc w3.heap.size l r :=
  ⟨(hs.on hbc).on h4, hc.on h4, below_chain (below_chain hb hbc) h4, ha, hac.mono hb.size, Nat.le_trans hb.size hbc.size, (hac.sep hs.blw).symm, fun q => absurd (hs.blw _ q) (Nat.not_lt.2 hbc.size), fun q => absurd (hc.blw _ q) (Nat.lt_irrefl _)⟩
set_option maxHeartbeats 4000000 in
set_option maxRecDepth 100000 in
theorem walk (a0 : Int) (ao : Option Addr) (len cap : Nat) (x : Nat → Int) (_w0 : (Lit.int .i64 a0).wf = true) (hm : len ≤ cap ∧ cap ≤ maxLen ∧ (ao = none → len = 0 ∧ cap = 0) ∧ ∀ a, ao = some a → 0 < len → a.spot = none) (W : World) (hx : IntsAt W ao len x) : Calls Try.prog 7 #[.int .i64 a0, .slice ao len cap] W fun r W2 => r = .returned (.bool true) ∧ Below W.heap.size W W2 := by
  obtain ⟨r, hr⟩ : ∃ r : Nat, roomV a0 = r := ⟨(roomV a0).toNat, by have := roomV_ok a0; omega⟩
  have hr1 : r ≤ 65536 := by have := roomV_ok a0; omega
  have HN := Lib.hid (fun w => iNew_any a0 w)
  rw [hr] at HN
  have HX := Lib.hid hx
  have hlc : len ≤ cap := hm.1
  have hcm : cap ≤ 9223372036854775807 := hm.2.1
  have t1 : True := trivial
  have t2 : True := trivial
  clear hr hx hm _w0
  go_enter Try.func7, Try.ntmps7
  go_wp2_with (first
    | (go_at_call 12; refine (live_any _).mono ?_; rintro e w1 ⟨rfl, hb⟩; have HB1 := Lib.hid hb; clear hb)
    | (go_at_call 9; refine (HN.out _).mono ?_; rintro e w2 ⟨b, rfl, hb0, hm, hb⟩; have HS2 : Hid (Stk 57 3 w2 b [b] (i64s (upto x 0)) r) := hm; have HA2 := Lib.hid (abv_one (Nat.le_trans HB1.out.size (Nat.le_of_eq hb0.symm))); have HB2 := Lib.hid (below_chain HB1.out hb); clear hm hb hb0 HB1))
  go_loopw [7] (fun vi wr => ∃ (m i : Nat) (F : List Nat), vi = .int .i64 i ∧ i ≤ len ∧ Hid (m = min i r) ∧ Hid (Stk 57 3 wr b F (i64s (upto x m)) r) ∧ Hid (Abv W.heap.size F) ∧ Hid (Below W.heap.size W wr)) (fun vi _ => len - (intOf vi).toNat)
  case atStart => exact ⟨0, 0, _, rfl, Nat.zero_le _, by show 0 = min 0 r; omega, HS2, HA2, HB2⟩
  case round =>
    clear HS2 HA2 HB2
    obtain ⟨m, i, F, rfl, hi, HM, HS, HA, HB⟩ := hrel
    by_cases hlt : i < len
    · have hlt' : (i : Int) < (len : Int) := by omega
      obtain ⟨g, o, hao, hgW, hc⟩ := HX.out i hlt
      subst hao
      rw [← HB.out.cell (p := ⟨g, o + i, none⟩) hgW] at hc
      have hgw : g < wr.heap.size := Nat.lt_of_lt_of_le hgW HB.out.size
      clear hgW t1 t2
      have HP := Lib.hid (iPush_any HS.out (x i))
      obtain ⟨m2, HM2, e2⟩ : ∃ m2, Hid (m2 = min (i + 1) r) ∧ pushL (upto x m) r (x i) = upto x m2 := by
        by_cases hroom : m < r
        · refine ⟨m + 1, (min_step HM.out hroom).2, ?_⟩
          have := (min_step HM.out hroom).1
          subst this
          simp [pushL, upto_len, hroom, upto_snoc]
        · exact ⟨m, min_stay HM.out hroom, by simp [pushL, upto_len, hroom]⟩
      rw [e2] at HP
      clear e2
      generalize pushE (upto x m) r = ev at HP
      generalize x i = y at hc HP
      go_wp2_with (go_at_call 30; refine HP.out.mono ?_; rintro e w3 ⟨F3, rfl, hs3, ht3⟩; have HS3 := Lib.hid hs3; have HA3 := Lib.hid (HA.out.turn HB.out.size ht3); have HB3 := Lib.hid (turn_chain HB.out ht3 HA.out); clear hs3 ht3)
      exact ⟨⟨m2, i + 1, _, by first | rfl | (congr 1), by omega, HM2, HS3, HA3, HB3⟩, by simp [intOf]; omega⟩
    · have hlt' : ¬ (i : Int) < (len : Int) := by omega
      have hml : m ≤ len := by have := HM.out; omega
      have hmr : m ≤ 65536 := by have := HM.out; omega
      have HLN := Lib.hid (fun w F (h : Stk 57 3 w b F (i64s (upto x m)) r) => iLen_any h)
      have HAL := Lib.hid (fun w F (h : Stk 57 3 w b F (i64s (upto x m)) r) => iAll_any h)
      have HXM := Lib.hid (HX.out.take hml)
      have HUL := Lib.hid (upto_len x m)
      rw [upto_len] at HLN HAL
      have hsl := fun h : Nat => sliced_all ao h cap
      have k2 : (m : Int) ≤ (cap : Int) := by omega
      clear hlt hi HX HM
      go_wp2_with (first
        | (go_at_call 14; refine (iClone_any HS.out).mono ?_; rintro e w3 ⟨nb, Fc, rfl, hm, ha, hb⟩; have HC3 := Lib.hid hm; have HAC := Lib.hid ha; have HBC := Lib.hid hb; clear hm ha hb)
        | (go_at_call 22; refine (HAL.out _ _ (HS.out.on HBC.out)).mono ?_; rintro e w4 ⟨rfl, hr, hb⟩; have HR4 := Lib.hid hr; have HT4 := Lib.hid (three HS.out HC3.out HA.out HAC.out HB.out HBC.out hb); clear hr hb))
      have HSZ : Hid (w3.heap.size < w4.heap.size) := HR4.out.blw _ (by simp [fpR])
      generalize hg : w3.heap.size = ga at HR4 HT4 HSZ ⊢
      clear hg HS HA HB HC3 HAC HBC
      go_loopw [10] (fun vi wr => ∃ (i : Nat), vi = .int .i64 i ∧ i ≤ m ∧ Hid (Three W wr b F nb Fc ga (upto x m) r) ∧ Hid (∃ l : List Int, l.length = m ∧ RowAt 3 wr (some ⟨ga, 0, none⟩) m (i64s l))) (fun vi _ => m - (intOf vi).toNat)
      case atStart => exact ⟨0, rfl, Nat.zero_le _, HT4, ⟨_, HUL.out, HR4.out⟩⟩
      case round =>
        clear HT4 HR4 HSZ
        obtain ⟨i, rfl, hi, HT, HR⟩ := hrel
        by_cases hlt : i < m
        · have hlt' : (i : Int) < (m : Int) := by omega
          obtain ⟨l, hl, hr⟩ := HR.out
          have q0 : wr.cell? ⟨ga, i, none⟩ = some (.int .i64 (l.getD i 0)) := by
            obtain ⟨g', o', e1, _, e3⟩ := hr.ints i (by omega)
            cases e1
            rw [Nat.zero_add] at e3
            exact e3
          have q1 : wr.frozen? ⟨ga, i, none⟩ = false := by
            rcases hr.own.2 with ⟨q, _⟩ | ⟨g, _, _, hv, _, hg, _⟩
            · cases q
            · cases hv; exact frozen_of_row wr _ i _ _ hg
          have q2 : ga < wr.heap.size := hr.blw _ (by simp [fpR])
          generalize l.getD i 0 = y at q0
          have HF : Hid (∀ z : Int, (∃ l : List Int, l.length = m ∧ RowAt 3 (wr.setCell ⟨ga, i, none⟩ (.int .i64 z)) (some ⟨ga, 0, none⟩) m (i64s l)) ∧ Three W (wr.setCell ⟨ga, i, none⟩ (.int .i64 z)) b F nb Fc ga (upto x m) r) := fun z => by
            have q := row_store hr i (.int .i64 z)
            refine ⟨⟨l.set i z, by rw [List.length_set]; exact hl, ?_⟩, HT.out.turn q.2⟩
            have e : i64s (l.set i z) = (i64s l).set i (.int .i64 z) := by simp [i64s]
            rw [e]
            exact q.1
          clear hl hr HR HT
          go_wp2
          exact ⟨⟨i + 1, by first | rfl | (congr 1), by omega, (HF.out _).2, (HF.out _).1⟩, by simp [intOf]; omega⟩
        · have hlt' : ¬ (i : Int) < (m : Int) := by omega
          obtain ⟨l, hl, hr⟩ := HR.out
          have HO : Hid (wr.ownsRow 0 3 1 (.slice (some ⟨ga, 0, none⟩) m m) m (i64s l)) := by
            have := hr.own
            rw [i64s_len, hl] at this
            exact this
          obtain ⟨i0, hi0, hz0, hz1, hz2⟩ := info_parts iInfo
          have HZI := Lib.hid (And.intro hi0 (And.intro hz0 (And.intro hz1 hz2)))
          have HFO : Hid (∀ (k : Nat) (w : World) (v : Value) (xs : List Value), w.ownsRow 0 3 1 v (k + 2) xs → ∃ g c, v = .slice (some ⟨g, 0, none⟩) (k + 2) c) := by
            intro k w v xs h
            rcases h.2 with ⟨_, q⟩ | ⟨g, c, _, e, _⟩
            · omega
            · exact ⟨g, c, e⟩
          have HMK : Hid (∀ (ob : Obj) (w : World), (wr.alloc ob).grownBy w (some ga) → Three W w b F nb Fc ga (upto x m) r) := fun ob w hg => (HT.out.alloc ob).turn (grown_turn hg)
          have k1 : (m : Int) ≤ (len : Int) := by omega
          clear hl hr HR HT hi hlt hi0 hz0 hz1 hz2
          go_wp2_with (first
            | (at_builtin; refine wpList_append_own _ rfl _ _ 36 rfl 0 3 i0 (.int .i64 0) 1 8 Try.underlying36 HZI.out.1 HZI.out.2.1 HZI.out.2.2.1 HZI.out.2.2.2 rfl (by decide) _ m _ rfl (World.ownsRow.alloc HO.out _) ⟨wr.heap.size, 0, none⟩ 2 2 [.int .i64 1, .int .i64 2] rfl rfl (cell_two_new _ _ _ _) (fun u hu => by simp at hu; rcases hu with rfl | rfl <;> rfl) (by unfold maxLen; omega) (by omega) (by simp) ?_; intro v3 w5 hown3 hgrow3 hnil3; obtain ⟨g3, c3, rfl⟩ := HFO.out _ _ _ _ hown3; have HT5 := Lib.hid (HMK.out _ _ hgrow3); clear hown3 hgrow3 hnil3 HMK)
            | (go_at_call 18; refine (HLN.out _ _ HT5.out.m).mono ?_; rintro e w6 ⟨rfl, hw⟩; subst w6)
            | (go_at_call 22; have _t := t1; refine (HAL.out _ _ HT5.out.m).mono ?_; rintro e w6 ⟨rfl, hr, hb⟩; have HR6 := Lib.hid hr.upto; have HB6 := Lib.hid hb; clear hr hb t1)
            | (go_at_call 30; refine (iPush_any (HT5.out.c.on HB6.out) 9).mono ?_; rintro e w7 ⟨F7, rfl, hm, hc⟩; have HC7 := Lib.hid hm; have HD7 := Lib.hid hc; clear hm hc)
            | (go_at_call 32; have _t := t2; refine (iPop_any HC7.out).mono ?_; rintro e w8 ⟨F8, rfl, hm, hc⟩; have HC8 := Lib.hid hm; have HD8 := Lib.hid (HD7.out.trans hc); clear hm hc t2)
            | (go_at_call 32; refine (iPop_any HC8.out).mono ?_; rintro e w9 ⟨F9, rfl, hm, hc⟩; have HD9 := Lib.hid (HD8.out.trans hc); clear hm hc)
            | (go_at_call 22; refine (HAL.out _ _ ((HT5.out.m.on HB6.out).turn HD9.out HT5.out.ap)).mono ?_; rintro e w10 ⟨rfl, hr, hb⟩; have HR10 := Lib.hid hr.upto; have HB9 := Lib.hid (turn_chain (below_chain HT5.out.below HB6.out) HD9.out HT5.out.ac); have HR11 := Lib.hid ((ints_turn HR6.out HD9.out (fun a ha => by cases ha; exact fun q => absurd (HT5.out.c.blw _ q) (Nat.lt_irrefl _))).on hb); have HB10 := Lib.hid (below_chain HB9.out hb); have HX10 := Lib.hid (HXM.out.on HB10.out); clear hr hb)
            | (go_at_call 21; refine (same_any _ _ (by omega) HR11.out HX10.out).mono ?_; rintro e w11 ⟨rfl, hw⟩; have HX11 := Lib.hid (HX10.out.on (hw.below _)); have HR12 := Lib.hid (HR10.out.on (hw.below _)); have HB11 := Lib.hid (HB10.out.trans (hw.below _)); clear hw HX10 HR10)
            | (go_at_call 21; refine (same_any _ _ (by omega) HR12.out HX11.out).mono ?_; rintro e w12 ⟨rfl, hw⟩; have HB12 := Lib.hid (HB11.out.trans (hw.below _)); clear hw))
          go_ret
          exact ⟨by simp, HB12.out⟩

set_option maxRecDepth 100000 in
theorem lifted (os : Os) (started : os.Started) (H : Type) (enc : TypeId × Value → H) :
    ReturnsInHanded {} Try.checked os 7 .any (Rows.stackFreshSpec.pre6 enc Try.prog Try.f7 Rows.stackFreshRow.domain false) (Rows.stackFreshSpec.post enc Try.prog Try.f7 false true false false) := by
  refine returnsInHanded_of_change (C := Try.checked) ownK started (by kernel_rfl) Try.func7
    (ChangeSpec.witness6 (enc := enc) (C := Try.checked) false ⟨#[], #[.int .i64 0, .slice none 0 0], []⟩ 8 (by kernel_rfl) (by kernel_rfl) (by kernel_rfl) (by kernel_rfl)) ?_
  intro W base args ds gs before hval0 hW _ _
  have hval : ∀ (j : Nat) t v, Try.f7.params[j]? = some t → args[j]? = some v → Value.okWide Try.prog W .any base t v := hval0
  have hW2 := hW
  obtain ⟨p, q, hA0, hV, rfl, _, _⟩ := hW
  have hA : DataW.TrodAll enc Try.prog W 0 (fun _ => true) true Try.f7.params.toList args.toList ds p := hA0
  rw [Try.params7] at hA hval
  obtain ⟨v0, vs0, d0, ds0, p0, q0, hargs, rfl, rfl, h0, r0⟩ := trodAll_cons hA
  obtain ⟨v1, vs1, d1, ds1, p1, q1, rfl, rfl, rfl, h1, r1⟩ := trodAll_cons r0
  obtain ⟨rfl, rfl, rfl⟩ := trodAll_nil r1
  obtain rfl : args = #[v0, v1] := by cases args; simp_all
  obtain ⟨rfl, rfl⟩ := trodVars_none hV
  obtain ⟨a0, rfl, rfl, rfl, w0⟩ := open_int Try.underlying3 (hval 0 3 v0 rfl rfl) h0
  obtain ⟨o1, l1, c1, x1, rfl, fm1, fW1⟩ := open_nums (hval 1 36 v1 rfl rfl) h1
  clear hA0 hval0
  simp only [List.append_nil] at hW2
  have hlt : ∀ x ∈ p1, x.block < W.heap.size := fun x hx => by simpa using hW2.lt x (by simpa using hx)
  refine (walk a0 o1 l1 c1 x1 w0 fm1 W fW1).mono fun e W2 ⟨he, hnx⟩ => ?_
  subst he
  exact ⟨_, rfl, _, _, _, [], _, [], hW2, trodAll_mk1 (shut_bool Try.underlying4 _), (trodAll_cons_mk (shut_int Try.underlying3 w0) (trodAll_cons_mk (Below.trod laidOut (by kernel_rfl) (of_decide_eq_true (by kernel_rfl)) h1 hnx (fun x hx => hlt x (by simpa using hx))) trodAll_mk0)), rfl, hnx.frame _, fun h => by cases h⟩

/-- the statement -/
theorem proved : Rows.StackFreshSaid :=
  OpenClaim.holds_of_wide 7 Try.f7 rfl rfl rfl rfl rfl rfl rfl ⟨rfl, rfl, rfl, rfl, rfl⟩ rfl rfl rfl rfl rfl (by kernel_rfl) Try.func7 (by kernel_rfl)
    (of_decide_eq_true (by kernel_rfl)) (by unfold Func.isWrapper; first | (rw [if_pos (by decide +kernel)]; kernel_rfl) | (rw [if_neg (by decide +kernel)]; exact ⟨rfl, rfl⟩))
    (fun os started H enc _ => lifted os started H enc)
end Go.Proofs.Yteeemjidjckimaa.stackFresh
