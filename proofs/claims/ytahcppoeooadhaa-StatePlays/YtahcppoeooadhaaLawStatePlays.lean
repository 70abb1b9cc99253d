/- For every number of cells and every script of steps the statement StatePlays answers true: each answer of the program's state, of its clones too, is the document's, and so are the length and the list at the end; where the document makes no state the program makes none. No condition. -/
import Derived.Test.YtahcppoeooadhaaXO
import Derived.Test.YtahcppoeooadhaaXR
namespace Go.Proofs.Ytahcppoeooadhaa.statePlays
open Go.ChangeShapes Go.WideShapes Go.ChangeAt Go.RowKit

set_option maxHeartbeats 4000000 in
set_option maxRecDepth 100000 in
theorem walk (a0 : Int) (ao : Option Addr) (len cap : Nat) (K C : Nat → Int) (X : Nat → Nat) (P : Nat → Option Addr) (Q : Nat → Nat) (L : Nat → List (Int × Nat)) (_w0 : (Lit.int .i64 a0).wf = true) (hmax : len ≤ maxLen) (hz : ∀ i, i < len → (L i).length * 16 ≤ reachBytes) (W : World) (hops : ScrAt W ao len K C X P Q L) : Calls Try.prog 4 #[.int .i64 a0, .slice ao len cap] W fun r W2 => r = .returned (.bool true) ∧ Below W.heap.size W W2 := by
  have hmm : len ≤ 9223372036854775807 := hmax
  have HPLAY : Hid (∀ w bm br, Goes W w bm br → Calls Try.prog 12 #[.pointer (some ⟨bm, 0, none⟩), .pointer (some ⟨br, 0, none⟩), .slice ao len cap] w fun e w' => e = .returned (.bool true) ∧ Below W.heap.size W w') := fun w bm br h => play_any h hops hz hmm
  clear hops hz hmax _w0 hmm
  cases hn : mayN a0
  · have HN := Lib.hid (fun w => new_none hn w)
    have HRN := Lib.hid (fun w => refNew_none hn w)
    clear hn
    go_enter Try.func4, Try.ntmps4
    go_wp2_with (first
      | (go_at_call 10; refine (live_any _).mono ?_; rintro e w1 ⟨rfl, hb⟩; have HB1 := Lib.hid hb; clear hb)
      | (go_at_call 8; refine (HN.out _).mono ?_; rintro e w2 ⟨rfl, hw⟩; subst w2)
      | (go_at_call 11; refine (HRN.out _).mono ?_; rintro e w2 ⟨rfl, hw⟩; subst w2))
    go_ret
    exact ⟨by simp, HB1.out⟩
  · obtain ⟨n, rfl⟩ : ∃ n : Nat, a0 = n := ⟨a0.toNat, by unfold mayN at hn; simp at hn; omega⟩
    have HN := Lib.hid (fun w => new_some hn w)
    have HRN := Lib.hid (fun w => refNew_some hn w)
    clear hn
    go_enter Try.func4, Try.ntmps4
    go_wp2_with (first
      | (go_at_call 12; refine (HPLAY.out _ _ _ HG3.out).mono ?_; rintro e w4 ⟨rfl, hb⟩; have HB4 := Lib.hid hb; clear hb)
      | (go_at_call 11; refine (HRN.out _).mono ?_; rintro e w3 ⟨br, G, rfl, hc, ha, hb⟩; have HG3 := Lib.hid (goes_new HB1.out HC2.out HA2.out HB2.out hc ha hb); clear hc ha hb)
      | (go_at_call 8; refine (HN.out _).mono ?_; rintro e w2 ⟨bm, F, rfl, hc, ha, hb⟩; have HC2 := Lib.hid hc; have HA2 := Lib.hid ha; have HB2 := Lib.hid hb; clear hc ha hb)
      | (go_at_call 10; refine (live_any _).mono ?_; rintro e w1 ⟨rfl, hb⟩; have HB1 := Lib.hid hb; clear hb))
    go_ret
    exact ⟨by simp, HB4.out⟩

set_option maxRecDepth 100000 in
theorem lifted (os : Os) (started : os.Started) (H : Type) (enc : TypeId × Value → H) :
    ReturnsInHanded {} Try.checked os 4 .any (Rows.statePlaysSpec.pre6 enc Try.prog Try.f4 Rows.statePlaysRow.domain false) (Rows.statePlaysSpec.post enc Try.prog Try.f4 false true false false) := by
  refine returnsInHanded_of_change_sized (C := Try.checked) ownK started (by kernel_rfl) Try.func4
    (ChangeSpec.witness6 (enc := enc) (C := Try.checked) false ⟨#[], #[.int .i64 0, .slice none 0 0], []⟩ 8 (by kernel_rfl) (by kernel_rfl) (by kernel_rfl) (by kernel_rfl)) ?_
  intro W base args ds gs before hval0 hW _ hsz0 _
  have hval : ∀ (j : Nat) t v, Try.f4.params[j]? = some t → args[j]? = some v → Value.okWide Try.prog W .any base t v := hval0
  have hW2 := hW
  obtain ⟨p, q, hA0, hV, rfl, _, _⟩ := hW
  have hA : DataW.TrodAll enc Try.prog W 0 (fun _ => true) true Try.f4.params.toList args.toList ds p := hA0
  have hsz : (DataW.weightsEach Try.prog (Try.f4.params.toList ++ Rows.statePlaysSpec.plain.varTypes Try.prog) (ds ++ gs)).all (· ≤ reachBytes) = true := hsz0
  clear hsz0
  rw [Try.params4] at hA hval hsz
  obtain ⟨v0, vs0, d0, ds0, p0, q0, hargs, rfl, rfl, h0, r0⟩ := trodAll_cons hA
  obtain ⟨v1, vs1, d1, ds1, p1, q1, rfl, rfl, rfl, h1, r1⟩ := trodAll_cons r0
  obtain ⟨rfl, rfl, rfl⟩ := trodAll_nil r1
  obtain rfl : args = #[v0, v1] := by cases args; simp_all
  obtain ⟨rfl, rfl⟩ := trodVars_none hV
  obtain ⟨a0, rfl, rfl, rfl, w0⟩ := open_int Try.underlying3 (hval 0 3 v0 rfl rfl) h0
  obtain ⟨o1, l1, c1, K1, C1, X1, P1, Q1, L1, rfl, fm1, fz1, fW1⟩ := open_scr (hval 1 28 v1 rfl rfl) h1
  have fz1 := fz1 hsz (j := 1) rfl rfl
  clear hA0 hval0
  simp only [List.append_nil] at hW2
  have hlt : ∀ x ∈ p1, x.block < W.heap.size := fun x hx => by simpa using hW2.lt x (by simpa using hx)
  refine (walk a0 o1 l1 c1 K1 C1 X1 P1 Q1 L1 w0 fm1 fz1 W fW1).mono fun e W2 ⟨he, hnx⟩ => ?_
  subst he
  exact ⟨_, rfl, _, _, _, [], _, [], hW2, trodAll_mk1 (shut_bool Try.underlying4 _), (trodAll_cons_mk (shut_int Try.underlying3 w0) (trodAll_cons_mk (Below.trod laidOut (by kernel_rfl) (of_decide_eq_true (by kernel_rfl)) h1 hnx (fun x hx => hlt x (by simpa using hx))) trodAll_mk0)), rfl, hnx.frame _, fun h => by cases h⟩

/-- the statement -/
theorem proved : Rows.StatePlaysSaid :=
  OpenClaim.holds_of_wide 4 Try.f4 rfl rfl rfl rfl rfl rfl rfl ⟨rfl, rfl, rfl, rfl, rfl⟩ rfl rfl rfl rfl rfl (by kernel_rfl) Try.func4 (by kernel_rfl)
    (of_decide_eq_true (by kernel_rfl)) (by unfold Func.isWrapper; first | (rw [if_pos (by decide +kernel)]; kernel_rfl) | (rw [if_neg (by decide +kernel)]; exact ⟨rfl, rfl⟩))
    (fun os started H enc _ => lifted os started H enc)
end Go.Proofs.Ytahcppoeooadhaa.statePlays
