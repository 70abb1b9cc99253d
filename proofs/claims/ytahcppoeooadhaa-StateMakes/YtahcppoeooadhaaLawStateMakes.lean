/- For every list of bits and every script of steps the statement StateMakes answers true: of the state that the program makes of these numbers each answer is the document's, of its clones too, and so are the length and the list at the end; where the document makes no state the program makes none. No condition. -/
import Derived.Test.YtahcppoeooadhaaXO
import Derived.Test.YtahcppoeooadhaaXR
namespace Go.Proofs.Ytahcppoeooadhaa.stateMakes
open Go.ChangeShapes Go.WideShapes Go.ChangeAt Go.RowKit

set_option maxHeartbeats 4000000 in
set_option maxRecDepth 100000 in
theorem walk (bo : Option Addr) (bcap : Nat) (l : List Nat) (ao : Option Addr) (len cap : Nat) (K C : Nat → Int) (X : Nat → Nat) (P : Nat → Option Addr) (Q : Nat → Nat) (L : Nat → List (Int × Nat)) (_hm0 : l.length ≤ maxLen ∧ ∀ i, i < l.length → l.getD i 0 < 18446744073709551616) (hz0 : l.length * 8 ≤ reachBytes) (hmax : len ≤ maxLen) (hz : ∀ i, i < len → (L i).length * 16 ≤ reachBytes) (W : World) (hbits : BitsAt W bo l) (hops : ScrAt W ao len K C X P Q L) : Calls Try.prog 5 #[.slice bo l.length bcap, .slice ao len cap] W fun r W2 => r = .returned (.bool true) ∧ Below W.heap.size W W2 := by
  have hmm : len ≤ 9223372036854775807 := hmax
  have HPLAY : Hid (∀ w bm br, Goes W w bm br → Calls Try.prog 12 #[.pointer (some ⟨bm, 0, none⟩), .pointer (some ⟨br, 0, none⟩), .slice ao len cap] w fun e w' => e = .returned (.bool true) ∧ Below W.heap.size W w') := fun w bm br h => play_any h hops hz hmm
  have HF : Hid (∀ w, Below W.heap.size W w → Calls Try.prog 14 #[.slice bo l.length bcap] w fun e w' => ∃ q c, e = .returned (.slice q l.length c) ∧ RowAt 44 w' q c (fls l) ∧ Abv w.heap.size (fpR q) ∧ Below w.heap.size w w') := fun w k => floats_any (hbits.on k (Nat.le_refl _)) hz0
  clear hops hz hmax _hm0 hmm hbits hz0
  cases hn : mayN (l.length : Int)
  · have HN : Hid (∀ w q c, Calls Try.prog 13 #[.slice q l.length c] w fun e w' => e = .returned (.tuple #[.pointer none, .int .i64 1]) ∧ w' = w) := fun w q c => of_none hn w
    have HRN : Hid (∀ w q c, Calls Try.prog 15 #[.slice q l.length c] w fun e w' => e = .returned (.tuple #[.pointer none, .int .i64 1]) ∧ w' = w) := fun w q c => refOf_none hn w
    clear hn
    go_enter Try.func5, Try.ntmps5
    go_wp2_with (first
      | (go_at_call 15; refine (HRN.out _ _ _).mono ?_; rintro e w5 ⟨rfl, hw⟩; subst w5)
      | (go_at_call 14; refine (HF.out _ HB2.out).mono ?_; rintro e w4 ⟨q', c', rfl, hr, ha, hb⟩; have HB4 := Lib.hid (below_chain HB2.out hb); clear hr ha hb)
      | (go_at_call 13; refine (HN.out _ _ _).mono ?_; rintro e w3 ⟨rfl, hw⟩; subst w3)
      | (go_at_call 14; refine (HF.out _ HB1.out).mono ?_; rintro e w2 ⟨q, c, rfl, hr, ha, hb⟩; have HB2 := Lib.hid (below_chain HB1.out hb); clear hr ha hb)
      | (go_at_call 10; refine (live_any _).mono ?_; rintro e w1 ⟨rfl, hb⟩; have HB1 := Lib.hid hb; clear hb))
    go_ret
    exact ⟨by simp, HB4.out⟩
  · have HN : Hid (∀ w q c, RowAt 44 w q c (fls l) → Calls Try.prog 13 #[.slice q l.length c] w fun e w' => ∃ b F, e = .returned (.tuple #[.pointer (some ⟨b, 0, none⟩), .int .i64 0]) ∧ Cel 54 w' b F (l.map Num.fixB) ∧ Abv w.heap.size F ∧ Below w.heap.size w w') := fun w q c k => of_some k hn
    have HRN : Hid (∀ w q c, RowAt 44 w q c (fls l) → Calls Try.prog 15 #[.slice q l.length c] w fun e w' => ∃ b F, e = .returned (.tuple #[.pointer (some ⟨b, 0, none⟩), .int .i64 0]) ∧ Cel 56 w' b F (l.map Num.fixB) ∧ Abv w.heap.size F ∧ Below w.heap.size w w') := fun w q c k => refOf_some k hn
    clear hn
    generalize l.map Num.fixB = m at HN HRN
    go_enter Try.func5, Try.ntmps5
    go_wp2_with (first
      | (go_at_call 12; refine (HPLAY.out _ _ _ HG5.out).mono ?_; rintro e w6 ⟨rfl, hb⟩; have HB6 := Lib.hid hb; clear hb)
      | (go_at_call 15; refine (HRN.out _ _ _ HR4.out).mono ?_; rintro e w5 ⟨br, G, rfl, hc, ha, hb⟩; have HG5 := Lib.hid (goes_new HB2.out (HC3.out.on HB4.out) HA3.out (below_chain HB3.out HB4.out) hc ha hb); clear hc ha hb)
      | (go_at_call 14; refine (HF.out _ HBW3.out).mono ?_; rintro e w4 ⟨q', c', rfl, hr, ha, hb⟩; have HR4 := Lib.hid hr; have HB4 := Lib.hid hb; clear hr ha hb)
      | (go_at_call 13; refine (HN.out _ _ _ HR2.out).mono ?_; rintro e w3 ⟨bm, F, rfl, hc, ha, hb⟩; have HC3 := Lib.hid hc; have HA3 := Lib.hid ha; have HB3 := Lib.hid hb; have HBW3 := Lib.hid (below_chain HB2.out hb); clear hc ha hb)
      | (go_at_call 14; refine (HF.out _ HB1.out).mono ?_; rintro e w2 ⟨q, c, rfl, hr, ha, hb⟩; have HR2 := Lib.hid hr; have HB2 := Lib.hid (below_chain HB1.out hb); clear hr ha hb)
      | (go_at_call 10; refine (live_any _).mono ?_; rintro e w1 ⟨rfl, hb⟩; have HB1 := Lib.hid hb; clear hb))
    go_ret
    exact ⟨by simp, HB6.out⟩

set_option maxRecDepth 100000 in
theorem lifted (os : Os) (started : os.Started) (H : Type) (enc : TypeId × Value → H) :
    ReturnsInHanded {} Try.checked os 5 .any (Rows.stateMakesSpec.pre6 enc Try.prog Try.f5 Rows.stateMakesRow.domain false) (Rows.stateMakesSpec.post enc Try.prog Try.f5 false true false false) := by
  refine returnsInHanded_of_change_sized (C := Try.checked) ownK started (by kernel_rfl) Try.func5
    (ChangeSpec.witness6 (enc := enc) (C := Try.checked) false ⟨#[], #[.slice none 0 0, .slice none 0 0], []⟩ 8 (by kernel_rfl) (by kernel_rfl) (by kernel_rfl) (by kernel_rfl)) ?_
  intro W base args ds gs before hval0 hW _ hsz0 _
  have hval : ∀ (j : Nat) t v, Try.f5.params[j]? = some t → args[j]? = some v → Value.okWide Try.prog W .any base t v := hval0
  have hW2 := hW
  obtain ⟨p, q, hA0, hV, rfl, _, _⟩ := hW
  have hA : DataW.TrodAll enc Try.prog W 0 (fun _ => true) true Try.f5.params.toList args.toList ds p := hA0
  have hsz : (DataW.weightsEach Try.prog (Try.f5.params.toList ++ Rows.stateMakesSpec.plain.varTypes Try.prog) (ds ++ gs)).all (· ≤ reachBytes) = true := hsz0
  clear hsz0
  rw [Try.params5] at hA hval hsz
  obtain ⟨v0, vs0, d0, ds0, p0, q0, hargs, rfl, rfl, h0, r0⟩ := trodAll_cons hA
  obtain ⟨v1, vs1, d1, ds1, p1, q1, rfl, rfl, rfl, h1, r1⟩ := trodAll_cons r0
  obtain ⟨rfl, rfl, rfl⟩ := trodAll_nil r1
  obtain rfl : args = #[v0, v1] := by cases args; simp_all
  obtain ⟨rfl, rfl⟩ := trodVars_none hV
  obtain ⟨o0, c0, l0, rfl, fm0, fz0, fW0⟩ := open_bits (hval 0 34 v0 rfl rfl) h0
  obtain ⟨o1, l1, c1, K1, C1, X1, P1, Q1, L1, rfl, fm1, fz1, fW1⟩ := open_scr (hval 1 28 v1 rfl rfl) h1
  have fz0 := fz0 hsz (j := 0) rfl rfl
  have fz1 := fz1 hsz (j := 1) rfl rfl
  clear hA0 hval0
  simp only [List.append_nil] at hW2
  have hlt : ∀ x ∈ p0 ++ p1, x.block < W.heap.size := fun x hx => by simpa using hW2.lt x (by simpa using hx)
  refine (walk o0 c0 l0 o1 l1 c1 K1 C1 X1 P1 Q1 L1 fm0 fz0 fm1 fz1 W fW0 fW1).mono fun e W2 ⟨he, hnx⟩ => ?_
  subst he
  exact ⟨_, rfl, _, _, _, [], _, [], hW2, trodAll_mk1 (shut_bool Try.underlying4 _), (trodAll_cons_mk (Below.trod laidOut (by kernel_rfl) (of_decide_eq_true (by kernel_rfl)) h0 hnx (fun x hx => hlt x (by first | simpa using hx | (simp at hx ⊢; simp [hx])))) (trodAll_cons_mk (Below.trod laidOut (by kernel_rfl) (of_decide_eq_true (by kernel_rfl)) h1 hnx (fun x hx => hlt x (by first | simpa using hx | (simp at hx ⊢; simp [hx])))) trodAll_mk0)), rfl, hnx.frame _, fun h => by cases h⟩

/-- the statement -/
theorem proved : Rows.StateMakesSaid :=
  OpenClaim.holds_of_wide 5 Try.f5 rfl rfl rfl rfl rfl rfl rfl ⟨rfl, rfl, rfl, rfl, rfl⟩ rfl rfl rfl rfl rfl (by kernel_rfl) Try.func5 (by kernel_rfl)
    (of_decide_eq_true (by kernel_rfl)) (by unfold Func.isWrapper; first | (rw [if_pos (by decide +kernel)]; kernel_rfl) | (rw [if_neg (by decide +kernel)]; exact ⟨rfl, rfl⟩))
    (fun os started H enc _ => lifted os started H enc)
end Go.Proofs.Ytahcppoeooadhaa.stateMakes
