/- For every list of bits the statement StateFresh answers true: the list that Of is handed is not changed by it, what is done to it afterwards does not reach the state, nor does what is done to a list that All told; where the document makes no state the program makes none. No condition. -/
import Derived.Test.YtahcppoeooadhaaXO
import Derived.Test.YtahcppoeooadhaaXR
namespace Go.Proofs.Ytahcppoeooadhaa.stateFresh
open Go.ChangeShapes Go.WideShapes Go.ChangeAt Go.RowKit

open Num
attribute [local go_sem] run_store_float
theorem cell_two_new (w : World) (x y : Value) (t : TypeId) : ∀ j u, [x, y][j]? = some u → (w.alloc (.cells #[x, y] t)).cell? ((⟨w.heap.size, 0, none⟩ : Addr).add j) = some u := by
  intro j u hj
  match j, hj with
  | 0, hj => simp at hj; subst hj; simp [Addr.add]
  | 1, hj => simp at hj; subst hj; simp [Addr.add]
theorem play_turn {W w w' : World} {bm br : Nat} {Fm Fr G l : List Nat} (h : Play W w bm Fm br Fr l) (ht : Turn G G w w') (s1 : Sep Fm G) (s2 : Sep Fr G) (a : Abv W.heap.size G) : Play W w' bm Fm br Fr l :=
  ⟨h.m.turn ht s1, h.r.turn ht s2, turn_chain h.below ht a, h.am, h.ar, h.ap⟩
/-- both states, and a list of one's own beside them -/
structure Beside (W w : World) (bm : Nat) (Fm : List Nat) (br : Nat) (Fr : List Nat) (l : List Nat) (g c n : Nat) : Prop where
  play : Play W w bm Fm br Fr l
  sm : Sep Fm [g]
  sr : Sep Fr [g]
  ag : W.heap.size ≤ g
  row : ∃ m : List Nat, m.length = n ∧ RowAt 44 w (some ⟨g, 0, none⟩) c (fls m)
section
variable {W w w' : World} {bm br g c n : Nat} {Fm Fr l : List Nat}
theorem bs_store (h : Beside W w bm Fm br Fr l g c n) (i z : Nat) : Beside W (w.setCell ⟨g, i, none⟩ (.float .f64 z)) bm Fm br Fr l g c n := by
  obtain ⟨m, hm, hr⟩ := h.row
  have q := row_store hr i (.float .f64 z)
  rw [fls_set] at q
  exact ⟨play_turn h.play q.2 h.sm h.sr (abv_one h.ag), h.sm, h.sr, h.ag, m.set i z, by rw [List.length_set]; exact hm, q.1⟩
theorem bs_cell (h : Beside W w bm Fm br Fr l g c n) (i : Nat) (hi : i < n) : ∃ y : Nat, w.cell? ⟨g, i, none⟩ = some (.float .f64 y) ∧ w.frozen? ⟨g, i, none⟩ = false ∧ g < w.heap.size := by
  obtain ⟨m, hm, hr⟩ := h.row
  obtain ⟨g', e, h1, h2, h3⟩ := row_num hr i (by omega)
  cases e
  exact ⟨_, h2, h3, h1⟩
/-- the two that are made out of a list -/
theorem bs_new {w1 w2 w3 w4 : World} {q : Option Addr} {m : List Nat} (hb : Below W.heap.size W w1) (hr : RowAt 44 w1 (some ⟨g, 0, none⟩) c (fls m)) (hag : W.heap.size ≤ g) (hm : Cel 54 w2 bm Fm l) (ha : Abv w1.heap.size Fm) (hb2 : Below w1.heap.size w1 w2) (hr3 : Cel 56 w3 br Fr l) (ha3 : Abv w2.heap.size Fr) (hb3 : Below w2.heap.size w2 w3) (hb4 : Below w3.heap.size w3 w4) (_h : q = q) : Beside W w4 bm Fm br Fr l g c m.length := by
  have b12 := below_chain hb2 hb3
  have b := below_chain b12 hb4
  refine ⟨⟨(hm.on hb3).on hb4, hr3.on hb4, below_chain hb b, ha.mono hb.size, ha3.mono (Nat.le_trans hb.size hb2.size), (ha3.sep hm.blw).symm⟩, ?_, ?_, hag, m, rfl, hr.on b⟩
  · exact ha.sep hr.blw
  · exact (ha3.mono hb2.size).sep hr.blw
/-- a list that All told beside them -/
theorem bs_all {w1 : World} {c' : Nat} {m : List Nat} (h : Play W w bm Fm br Fr l) (hr : RowAt 44 w1 (some ⟨w.heap.size, 0, none⟩) c' (fls m)) (hb : Below w.heap.size w w1) : Beside W w1 bm Fm br Fr l w.heap.size c' m.length :=
  ⟨h.on hb, fun k hk q => by simp at q; have := h.m.blw k hk; omega, fun k hk q => by simp at q; have := h.r.blw k hk; omega, h.below.size, m, rfl, hr⟩
end
set_option maxHeartbeats 4000000 in
set_option maxRecDepth 100000 in
theorem walk (bo : Option Addr) (bcap : Nat) (l : List Nat) (_hm0 : l.length ≤ maxLen ∧ ∀ i, i < l.length → l.getD i 0 < 18446744073709551616) (hz0 : l.length * 8 ≤ reachBytes) (W : World) (hbits : BitsAt W bo l) : Calls Try.prog 7 #[.slice bo l.length bcap] W fun r W2 => r = .returned (.bool true) ∧ Below W.heap.size W W2 := by
  have HF : Hid (∀ w, Below W.heap.size W w → Calls Try.prog 14 #[.slice bo l.length bcap] w fun e w' => ∃ q c, e = .returned (.slice q l.length c) ∧ RowAt 44 w' q c (fls l) ∧ Abv w.heap.size (fpR q) ∧ Below w.heap.size w w') := fun w k => floats_any (hbits.on k (Nat.le_refl _)) hz0
  clear _hm0 hbits hz0
  cases hn : mayN (l.length : Int)
  · have HN : Hid (∀ w q c, Calls Try.prog 13 #[.slice q l.length c] w fun e w' => e = .returned (.tuple #[.pointer none, .int .i64 1]) ∧ w' = w) := fun w q c => of_none hn w
    have HRN : Hid (∀ w q c, Calls Try.prog 15 #[.slice q l.length c] w fun e w' => e = .returned (.tuple #[.pointer none, .int .i64 1]) ∧ w' = w) := fun w q c => refOf_none hn w
    clear hn
    go_enter Try.func7, Try.ntmps7
    go_wp2_with (first
      | (go_at_call 15; refine (HRN.out _ _ _).mono ?_; rintro e w5 ⟨rfl, hw⟩; subst w5)
      | (go_at_call 13; refine (HN.out _ _ _).mono ?_; rintro e w3 ⟨rfl, hw⟩; subst w3)
      | (go_at_call 14; refine (HF.out _ HB1.out).mono ?_; rintro e w2 ⟨q, c, rfl, hr, ha, hb⟩; have HB2 := Lib.hid (below_chain HB1.out hb); clear hr ha hb)
      | (go_at_call 10; refine (live_any _).mono ?_; rintro e w1 ⟨rfl, hb⟩; have HB1 := Lib.hid hb; clear hb))
    go_ret
    exact ⟨by simp, HB2.out⟩
  · have HN : Hid (∀ w q c, RowAt 44 w q c (fls l) → Calls Try.prog 13 #[.slice q l.length c] w fun e w' => ∃ b F, e = .returned (.tuple #[.pointer (some ⟨b, 0, none⟩), .int .i64 0]) ∧ Cel 54 w' b F (l.map Num.fixB) ∧ Abv w.heap.size F ∧ Below w.heap.size w w') := fun w q c k => of_some k hn
    have HRN : Hid (∀ w q c, RowAt 44 w q c (fls l) → Calls Try.prog 15 #[.slice q l.length c] w fun e w' => ∃ b F, e = .returned (.tuple #[.pointer (some ⟨b, 0, none⟩), .int .i64 0]) ∧ Cel 56 w' b F (l.map Num.fixB) ∧ Abv w.heap.size F ∧ Below w.heap.size w w') := fun w q c k => refOf_some k hn
    obtain ⟨n, hl⟩ : ∃ n, l.length = n := ⟨_, rfl⟩
    have hn1 : 1 ≤ n := by rw [hl] at hn; unfold mayN at hn; simp at hn; omega
    have hn2 : n ≤ 256 := by rw [hl] at hn; unfold mayN at hn; simp at hn; omega
    have hl2 : (l.map Num.fixB).length = n := by rw [List.length_map]; exact hl
    have HAL := Lib.hid (fun w b F (h : Cel 54 w b F (l.map Num.fixB)) => all_any h)
    have HRA := Lib.hid (fun w b F (h : Cel 56 w b F (l.map Num.fixB)) => refAll_any h)
    rw [hl2] at HAL HRA
    rw [hl] at HN HRN HF ⊢
    have HEX : Hid (∀ w pa pb ca cb, RowAt 44 w pa ca (fls l) → RowAt 44 w pb cb (fls l) → Calls Try.prog 22 #[.slice pa n ca, .slice pb n cb] w fun e w' => e = .returned (.bool true) ∧ Same w w') := fun w pa pb ca cb a b => exact_same hl (by omega) a b
    have HEX2 : Hid (∀ w pa pb ca cb, RowAt 44 w pa ca (fls (l.map Num.fixB)) → RowAt 44 w pb cb (fls (l.map Num.fixB)) → Calls Try.prog 22 #[.slice pa n ca, .slice pb n cb] w fun e w' => e = .returned (.bool true) ∧ Same w w') := fun w pa pb ca cb a b => exact_same hl2 (by omega) a b
    have HL := Lib.hid hl
    have HL2 := Lib.hid hl2
    have HSOME : Hid (∀ w q c, RowAt 44 w q c (fls l) → ∃ g, q = some ⟨g, 0, none⟩) := fun w q c h => by
      obtain ⟨g, e, _⟩ := row_num h 0 (by omega)
      exact ⟨g, e⟩
    generalize l.map Num.fixB = m at HN HRN HAL HRA HEX2 HL2
    clear hn hl hl2
    go_enter Try.func7, Try.ntmps7
    go_wp2_with (first
      | (go_at_call 22; refine (HEX.out _ _ _ _ _ HI5.out HR5.out).mono ?_; rintro e w6 ⟨rfl, hw⟩; have HBS := Lib.hid (bs_new (q := none) HB2.out HR2.out HAG.out HC3.out HA3.out HB3.out HC4.out HA4.out HB4.out (HB5.out.trans (hw.below _)) rfl); clear hw)
      | (go_at_call 14; refine (HF.out _ HBW4.out).mono ?_; rintro e w5 ⟨q', c', rfl, hr, ha, hb⟩; have HR5 := Lib.hid hr; have HI5 := Lib.hid (HI4.out.on hb); have HB5 := Lib.hid hb; clear hr ha hb)
      | (go_at_call 15; refine (HRN.out _ _ _ (HR2.out.on HB3.out)).mono ?_; rintro e w4 ⟨br, G, rfl, hc, ha, hb⟩; have HC4 := Lib.hid hc; have HA4 := Lib.hid ha; have HB4 := Lib.hid hb; have HI4 := Lib.hid ((HR2.out.on HB3.out).on hb); have HBW4 := Lib.hid (below_chain (below_chain HB2.out HB3.out) hb); clear hc ha hb)
      | (go_at_call 13; refine (HN.out _ _ _ HR2.out).mono ?_; rintro e w3 ⟨bm, F, rfl, hc, ha, hb⟩; have HC3 := Lib.hid hc; have HA3 := Lib.hid ha; have HB3 := Lib.hid hb; clear hc ha hb)
      | (go_at_call 14; refine (HF.out _ HB1.out).mono ?_; rintro e w2 ⟨q, c, rfl, hr, ha, hb⟩; obtain ⟨g, hq⟩ := HSOME.out _ _ _ hr; subst hq; have HR2 := Lib.hid hr; have HAG := Lib.hid (Nat.le_trans HB1.out.size (ha g (by simp [fpR]))); have HB2 := Lib.hid (below_chain HB1.out hb); clear hr ha hb)
      | (go_at_call 10; refine (live_any _).mono ?_; rintro e w1 ⟨rfl, hb⟩; have HB1 := Lib.hid hb; clear hb))
    rw [HL.out] at HBS
    clear HB1 HB2 HAG HR2 HC3 HA3 HB3 HC4 HA4 HB4 HI4 HBW4 HR5 HI5 HB5 HN HRN HF HEX HSOME
    go_loopw [10] (fun vi wr => ∃ (i : Nat), vi = .int .i64 i ∧ i ≤ n ∧ Hid (Beside W wr bm F br G m g c n)) (fun vi _ => n - (intOf vi).toNat)
    case atStart => exact ⟨0, rfl, Nat.zero_le _, HBS⟩
    case round =>
      clear HBS
      obtain ⟨i, rfl, hi, HBS⟩ := hrel
      by_cases hlt : i < n
      · have hlt' : (i : Int) < (n : Int) := by omega
        obtain ⟨y, q0, q1, q2⟩ := bs_cell HBS.out i hlt
        have HD := Lib.hid (fun z => bs_store HBS.out i z)
        go_wp2
        exact ⟨⟨i + 1, by first | rfl | (congr 1), by omega, HD.out _⟩, by simp [intOf]; omega⟩
      · have hlt' : ¬ (i : Int) < (n : Int) := by omega
        have HP := Lib.hid HBS.out.play
        clear HBS
        go_wp2_with (go_at_call 16; refine (HAL.out _ _ _ HP.out.m).mono ?_; rintro e w7 ⟨rfl, hr, hb⟩; have HB7 := Lib.hid (bs_all HP.out hr hb); clear hr hb)
        rw [HL2.out] at HB7
        generalize hgg : wr.heap.size = ga at HB7 ⊢
        clear hgg HP
        go_loopw [12] (fun vi wr => ∃ (i : Nat), vi = .int .i64 i ∧ i ≤ n ∧ Hid (Beside W wr bm F br G m ga n n)) (fun vi _ => n - (intOf vi).toNat)
        case atStart => exact ⟨0, rfl, Nat.zero_le _, HB7⟩
        case round =>
          clear HB7
          obtain ⟨i, rfl, hi, HBS⟩ := hrel
          by_cases hlt : i < n
          · have hlt' : (i : Int) < (n : Int) := by omega
            obtain ⟨y, q0, q1, q2⟩ := bs_cell HBS.out i hlt
            have HD := Lib.hid (fun z => bs_store HBS.out i z)
            go_wp2
            exact ⟨⟨i + 1, by first | rfl | (congr 1), by omega, HD.out _⟩, by simp [intOf]; omega⟩
          · have hlt' : ¬ (i : Int) < (n : Int) := by omega
            obtain ⟨m2, hm2, hr2⟩ := HBS.out.row
            have HO : Hid (wr.ownsRow 0 44 1 (.slice (some ⟨ga, 0, none⟩) n n) n (fls m2)) := by
              have := hr2.own
              rw [fls_len, hm2] at this
              exact this
            obtain ⟨i0, hi0, hz0, hz1, hz2⟩ := info_parts fInfo
            have HZI := Lib.hid (And.intro hi0 (And.intro hz0 (And.intro hz1 hz2)))
            have HFO : Hid (∀ (k : Nat) (w : World) (v : Value) (xs : List Value), w.ownsRow 0 44 1 v (k + 2) xs → ∃ g c, v = .slice (some ⟨g, 0, none⟩) (k + 2) c) := by
              intro k w v xs h
              rcases h.2 with ⟨_, q⟩ | ⟨g, c, _, e, _⟩
              · omega
              · exact ⟨g, c, e⟩
            have HMK : Hid (∀ (ob : Obj) (w : World), (wr.alloc ob).grownBy w (some ga) → Play W w bm F br G m) := fun ob w hg => play_turn (HBS.out.play.alloc ob) (grown_turn hg) HBS.out.sm HBS.out.sr (abv_one HBS.out.ag)
            clear hi0 hz0 hz1 hz2 hm2 hr2 HBS
            go_wp2_with (first
              | (at_builtin; refine wpList_append_own _ rfl _ _ 36 rfl 0 44 i0 (.float .f64 0) 1 8 Try.underlying36 HZI.out.1 HZI.out.2.1 HZI.out.2.2.1 HZI.out.2.2.2 rfl (by decide) _ n _ rfl (World.ownsRow.alloc HO.out _) ⟨wr.heap.size, 0, none⟩ 2 2 [.float .f64 4607182418800017408, .float .f64 4611686018427387904] rfl rfl (cell_two_new _ _ _ _) (fun u hu => by simp at hu; rcases hu with rfl | rfl <;> rfl) (by unfold maxLen; omega) (by omega) (Nat.zero_le _) ?_; intro v3 w8 hown3 hgrow3 hnil3; obtain ⟨g3, c3, hv3⟩ := HFO.out _ _ _ _ hown3; subst hv3; have HP8 := Lib.hid (HMK.out _ _ hgrow3); clear hown3 hgrow3 hnil3 HMK HFO)
              | (go_at_call 22; refine (HEX2.out _ _ _ _ _ HR10.out HR11.out).mono ?_; rintro e w11 ⟨rfl, hw⟩; have HP11 := Lib.hid (HP10.out.same hw); clear hw)
              | (go_at_call 16; refine (HAL.out _ _ _ HP9.out.m).mono ?_; rintro e w10 ⟨rfl, hr, hb⟩; have HR10 := Lib.hid hr; have HR11 := Lib.hid (HR9.out.on hb); have HP10 := Lib.hid (HP9.out.on hb); clear hr hb)
              | (go_at_call 23; refine (HRA.out _ _ _ HP8.out.r).mono ?_; rintro e w9 ⟨p9, c9, rfl, hr, _, hb⟩; have HR9 := Lib.hid hr; have HP9 := Lib.hid (HP8.out.on hb); clear hr hb))
            go_ret
            exact ⟨by simp, HP11.out.below⟩

set_option maxRecDepth 100000 in
theorem lifted (os : Os) (started : os.Started) (H : Type) (enc : TypeId × Value → H) :
    ReturnsInHanded {} Try.checked os 7 .any (Rows.stateFreshSpec.pre6 enc Try.prog Try.f7 Rows.stateFreshRow.domain false) (Rows.stateFreshSpec.post enc Try.prog Try.f7 false true false false) := by
  refine returnsInHanded_of_change_sized (C := Try.checked) ownK started (by kernel_rfl) Try.func7
    (ChangeSpec.witness6 (enc := enc) (C := Try.checked) false ⟨#[], #[.slice none 0 0], []⟩ 8 (by kernel_rfl) (by kernel_rfl) (by kernel_rfl) (by kernel_rfl)) ?_
  intro W base args ds gs before hval0 hW _ hsz0 _
  have hval : ∀ (j : Nat) t v, Try.f7.params[j]? = some t → args[j]? = some v → Value.okWide Try.prog W .any base t v := hval0
  have hW2 := hW
  obtain ⟨p, q, hA0, hV, rfl, _, _⟩ := hW
  have hA : DataW.TrodAll enc Try.prog W 0 (fun _ => true) true Try.f7.params.toList args.toList ds p := hA0
  have hsz : (DataW.weightsEach Try.prog (Try.f7.params.toList ++ Rows.stateFreshSpec.plain.varTypes Try.prog) (ds ++ gs)).all (· ≤ reachBytes) = true := hsz0
  clear hsz0
  rw [Try.params7] at hA hval hsz
  obtain ⟨v0, vs0, d0, ds0, p0, q0, hargs, rfl, rfl, h0, r0⟩ := trodAll_cons hA
  obtain ⟨rfl, rfl, rfl⟩ := trodAll_nil r0
  obtain rfl : args = #[v0] := by cases args; simp_all
  obtain ⟨rfl, rfl⟩ := trodVars_none hV
  obtain ⟨o0, c0, l0, rfl, fm0, fz0, fW0⟩ := open_bits (hval 0 34 v0 rfl rfl) h0
  have fz0 := fz0 hsz (j := 0) rfl rfl
  clear hA0 hval0
  simp only [List.append_nil] at hW2
  have hlt : ∀ x ∈ p0, x.block < W.heap.size := fun x hx => by simpa using hW2.lt x (by simpa using hx)
  refine (walk o0 c0 l0 fm0 fz0 W fW0).mono fun e W2 ⟨he, hnx⟩ => ?_
  subst he
  exact ⟨_, rfl, _, _, _, [], _, [], hW2, trodAll_mk1 (shut_bool Try.underlying4 _), (trodAll_cons_mk (Below.trod laidOut (by kernel_rfl) (of_decide_eq_true (by kernel_rfl)) h0 hnx (fun x hx => hlt x (by first | simpa using hx | (simp at hx ⊢; simp [hx])))) trodAll_mk0), rfl, hnx.frame _, fun h => by cases h⟩

/-- the statement -/
theorem proved : Rows.StateFreshSaid :=
  OpenClaim.holds_of_wide 7 Try.f7 rfl rfl rfl rfl rfl rfl rfl ⟨rfl, rfl, rfl, rfl, rfl⟩ rfl rfl rfl rfl rfl (by kernel_rfl) Try.func7 (by kernel_rfl)
    (of_decide_eq_true (by kernel_rfl)) (by unfold Func.isWrapper; first | (rw [if_pos (by decide +kernel)]; kernel_rfl) | (rw [if_neg (by decide +kernel)]; exact ⟨rfl, rfl⟩))
    (fun os started H enc _ => lifted os started H enc)
end Go.Proofs.Ytahcppoeooadhaa.stateFresh
