/- For every script and every number of threads the statement SchedFolds answers true: Fold's answer is the document's, the script stays as it was, and what is answered is the caller's own. No condition. -/
import Derived.Test.YtifiebgmjpjakaaDO
import Derived.Test.YtifiebgmjpjakaaD7
namespace Go.Proofs.Ytifiebgmjpjakaa.schedFolds
open Go.ChangeShapes Go.WideShapes Go.ChangeAt Go.RowKit

theorem row_any {w : World} {p : Option Addr} {c : Nat} {y : List Int} (h : RowAt 3 w p c (i64s y)) (i : Nat) (hi : i < y.length) : ∃ g, p = some ⟨g, 0, none⟩ ∧ w.cell? ⟨g, i, none⟩ = some (.int .i64 (y.getD i 0)) ∧ w.frozen? ⟨g, i, none⟩ = false ∧ g < w.heap.size := by
  have ho := h.own
  rw [i64s_len] at ho
  rcases ho.2 with ⟨_, q⟩ | ⟨g, cap, cur, hv, _, hg, _⟩
  · omega
  · cases hv
    refine ⟨g, rfl, row_get h (j := i) (by simp [i64s, hi])⟩
/-- the copy of the script, what Fold told, what the document's did -/
structure St (W w : World) (pi : Option Addr) (ci : Nat) (pl pm : Option Addr) (cm : Nat) (u y : List Int) : Prop where
  below : Below W.heap.size W w
  rin : RowAt 3 w pi ci (i64s u)
  rm : RowAt 3 w pm cm (i64s y)
  si : Sep (fpR pi) (fpR pl)
  sm : Sep (fpR pm) (fpR pl)
  ab : Abv W.heap.size (fpR pl)
theorem St.turn {W w w' : World} {pi pl pm : Option Addr} {ci cm : Nat} {u y : List Int} (h : St W w pi ci pl pm cm u y) (t : Turn (fpR pl) (fpR pl) w w') : St W w' pi ci pl pm cm u y :=
  ⟨h.below.trans (t.below h.ab h.below.size), h.rin.turn t h.si, h.rm.turn t h.sm, h.si, h.sm, h.ab⟩
theorem St.on {W w w' : World} {pi pl pm : Option Addr} {ci cm : Nat} {u y : List Int} (h : St W w pi ci pl pm cm u y) (t : Below w.heap.size w w') : St W w' pi ci pl pm cm u y :=
  ⟨h.below.trans (t.mono h.below.size), h.rin.on t, h.rm.on t, h.si, h.sm, h.ab⟩
set_option maxHeartbeats 4000000 in
set_option maxRecDepth 100000 in
theorem walk_of (o0 : Option Addr) (l0 c0 : Nat) (x0 : Nat → Int) (a1 : Int) (fz0 : l0 * 8 ≤ 140737488355328) (hp : o0 = none → l0 = 0) (W : World) (fW0 : IntsAt W o0 l0 x0) (z : Int) (y : List Int) (n : Nat) (hn : y.length = n) (hm : n ≤ 65536)
    (hF : ∀ w, IntsAt w o0 l0 x0 → Calls Try.prog 11 #[.slice o0 l0 c0, .int .i64 a1] w fun e w' => ∃ q d, e = .returned (.tuple #[.slice q n d, .int .i64 z]) ∧ RowAt 3 w' q d (i64s y) ∧ Abv w.heap.size (fpR q) ∧ Below w.heap.size w w')
    (hR : ∀ w q d, IntsAt w q l0 x0 → Calls Try.prog 12 #[.slice q l0 d, .int .i64 a1] w fun e w' => ∃ q d, e = .returned (.tuple #[.slice q n d, .int .i64 z]) ∧ RowAt 3 w' q d (i64s y) ∧ Abv w.heap.size (fpR q) ∧ Below w.heap.size w w') :
    Calls Try.prog 4 #[.slice o0 l0 c0, .int .i64 a1] W fun r W2 => r = .returned (.bool true) ∧ Below W.heap.size W W2 := by
  have HX := Lib.hid fW0
  have HA : Hid (∀ w b ty, Below W.heap.size W w → b = w.heap.size → ∃ v w', (Builtin.append_ #[26, 26] ty #[.slice (some ⟨b, 0, none⟩) 0 0, .slice o0 l0 c0]).run Try.prog (w.alloc (.cells #[] 3)) = .ok v w' ∧ (∃ p' c', v = .slice p' l0 c' ∧ RowAt 3 w' p' c' (i64s (upto x0 l0)) ∧ Abv w.heap.size (fpR p') ∧ Below w.heap.size w w')) := fun w b ty hb hw => app_ints (fW0.on hb) hp fz0 hw ty
  have HF := Lib.hid hF
  have HR := Lib.hid hR
  have HN := Lib.hid hn
  have hl : l0 ≤ 9223372036854775807 := by omega
  have HL := Lib.hid hl
  clear fW0 hp fz0 hn hF hR
  go_enter Try.func4, Try.ntmps4
  go_wp2_with (first
    | (go_at_call 13; refine (same_any _ _ HL.out (RowAt.upto HS4.out.1.rin) (HX.out.on HS4.out.1.below)).mono ?_; rintro e w5 ⟨rfl, hw⟩; have HS5 := Lib.hid (And.intro (HS4.out.1.on (hw.below _)) (HS4.out.2.on (hw.below _))); clear hw HS4)
    | (go_at_call 12; refine (HR.out _ _ _ (RowAt.upto I3.out.1)).mono ?_; rintro e w4 ⟨pm, cm, rfl, q1, q2, q3⟩; have HS4 : Hid (St W w4 pi ci pl pm cm (upto x0 l0) y ∧ RowAt 3 w4 pl cl (i64s y)) := ⟨⟨I3.out.2.2.2.2.trans (q3.mono I3.out.2.2.2.2.size), I3.out.1.on q3, q1, I3.out.2.2.1, q2.sep I3.out.2.1.blw, I3.out.2.2.2.1⟩, I3.out.2.1.on q3⟩; clear q1 q2 q3 I3 HR)
    | (go_at_call 11; refine (HF.out _ (HX.out.on I2.out.2.2)).mono ?_; rintro e w3 ⟨pl, cl, rfl, q1, q2, q3⟩; have I3 : Hid (RowAt 3 w3 pi ci (i64s (upto x0 l0)) ∧ RowAt 3 w3 pl cl (i64s y) ∧ Sep (fpR pi) (fpR pl) ∧ Abv W.heap.size (fpR pl) ∧ Below W.heap.size W w3) := ⟨I2.out.1.on q3, q1, (q2.sep I2.out.1.blw).symm, q2.mono I2.out.2.2.size, I2.out.2.2.trans (q3.mono I2.out.2.2.size)⟩; clear q1 q2 q3 I2)
    | (at_builtin; refine wpList_append_ex (R := fun v u => ∃ p' c', v = .slice p' l0 c' ∧ RowAt 3 u p' c' (i64s (upto x0 l0)) ∧ Abv w1.heap.size (fpR p') ∧ Below w1.heap.size w1 u) rfl _ _ _ _ rfl (.slice (some ⟨w1.heap.size, 0, none⟩) 0 0) (.slice o0 l0 c0) rfl rfl (by exact HA.out _ _ _ HB1.out rfl) ?_; rintro v w2 ⟨pi, ci, rfl, q1, q2, q3⟩; have I2 : Hid (RowAt 3 w2 pi ci (i64s (upto x0 l0)) ∧ Abv W.heap.size (fpR pi) ∧ Below W.heap.size W w2) := ⟨q1, q2.mono HB1.out.size, HB1.out.trans (q3.mono HB1.out.size)⟩; clear q1 q2 q3 HA)
    | (go_at_call 10; refine (live_any _).mono ?_; rintro e w1 ⟨rfl, hb⟩; have HB1 := Lib.hid hb; clear hb))
  go_loopw [12] (fun vi wr => ∃ i : Nat, vi = .int .i64 i ∧ i ≤ n ∧ Hid (∃ y' : List Int, y'.length = n ∧ St W wr pi ci pl pm cm (upto x0 l0) y ∧ RowAt 3 wr pl cl (i64s y'))) (fun vi _ => n - (intOf vi).toNat)
  case atStart => exact ⟨0, rfl, Nat.zero_le _, ⟨y, HN.out, HS5.out.1, HS5.out.2⟩⟩
  case round =>
    obtain ⟨i, rfl, hi, HQ⟩ := hrel
    obtain ⟨y', hy, h1, h2⟩ := HQ.out
    by_cases hlt : i < n
    · have hlt' : (i : Int) < (n : Int) := by omega
      obtain ⟨g, rfl, j1, j2, j3⟩ := row_any h2 i (by omega)
      have HNN : Hid (∀ v : Int, ∃ y' : List Int, y'.length = n ∧ St W (wr.setCell ⟨g, i, none⟩ (.int .i64 v)) pi ci (some ⟨g, 0, none⟩) pm cm (upto x0 l0) y ∧ RowAt 3 (wr.setCell ⟨g, i, none⟩ (.int .i64 v)) (some ⟨g, 0, none⟩) cl (i64s y')) := fun v => by
        obtain ⟨q1, q2⟩ := row_put h2 i (.int .i64 v)
        rw [i64s_set] at q1
        exact ⟨_, by rw [List.length_set]; exact hy, h1.turn q2, q1⟩
      clear h1 h2 HQ HS5
      generalize y'.getD i 0 = v at j1
      go_wp2
      exact ⟨⟨i + 1, by first | rfl | (congr 1), by omega, HNN.out _⟩, by simp [intOf]; omega⟩
    · have hlt' : ¬ (i : Int) < (n : Int) := by omega
      have HS := Lib.hid h1
      have hn9 : n ≤ 9223372036854775807 := by omega
      have HN9 := Lib.hid hn9
      clear h1 h2 HQ HS5 hn9
      go_wp2_with (first
        | (go_at_call 13; refine (same_any _ _ HN9.out (RowAt.one K8.out.2 HN.out (fun _ _ => rfl)) (RowAt.one K8.out.1.rm HN.out (fun _ _ => rfl))).mono ?_; rintro e w9 ⟨rfl, hw⟩; have HB9 := Lib.hid (K8.out.1.on (hw.below _)).below; clear hw)
        | (go_at_call 13; refine (same_any _ _ HL.out (RowAt.upto K7.out.1.rin) (HX.out.on K7.out.1.below)).mono ?_; rintro e w8 ⟨rfl, hw⟩; have K8 := Lib.hid (And.intro (K7.out.1.on (hw.below _)) (K7.out.2.on (hw.below _))); clear hw K7)
        | (go_at_call 11; refine (HF.out _ (HX.out.on HS.out.below)).mono ?_; rintro e w7 ⟨pk, ck, rfl, q1, q2, q3⟩; have K7 := Lib.hid (And.intro (HS.out.on q3) q1); clear q1 q2 q3 HF))
      go_ret
      exact ⟨by simp, HB9.out⟩
theorem walk (o0 : Option Addr) (l0 c0 : Nat) (x0 : Nat → Int) (a1 : Int) (_fm0 : l0 ≤ maxLen) (fz0 : l0 * 8 ≤ reachBytes) (_w1 : (Lit.int .i64 a1).wf = true) (W : World) (fW0 : IntsAt W o0 l0 x0) : Calls Try.prog 4 #[.slice o0 l0 c0, .int .i64 a1] W fun r W2 => r = .returned (.bool true) ∧ Below W.heap.size W W2 := by
  replace fz0 : l0 * 8 ≤ 140737488355328 := by unfold reachBytes at fz0; omega
  have hp : o0 = none → l0 = 0 := fun e => by
    cases l0 with
    | zero => rfl
    | succ k =>
      obtain ⟨g, o, e1, _⟩ := fW0 0 (by omega)
      rw [e] at e1
      cases e1
  cases ht : mayT a1
  · exact walk_of o0 l0 c0 x0 a1 fz0 hp W fW0 1 [] 0 rfl (by omega) (fun w _ => (Fold_no a1 ht _).mono fun e w' ⟨he, hw⟩ => ⟨none, 0, he, ⟨World.ownsRow_nil _ _ _ _⟩, fun k hk => by simp [fpR] at hk, hw ▸ Below.refl _ _⟩) (fun w q d _ => (rFold_no a1 ht _).mono fun e w' ⟨he, hw⟩ => ⟨none, 0, he, ⟨World.ownsRow_nil _ _ _ _⟩, fun k hk => by simp [fpR] at hk, hw ▸ Below.refl _ _⟩)
  · have h := of_decide_eq_true ht
    by_cases hl : 65536 < l0
    · exact walk_of o0 l0 c0 x0 a1 fz0 hp W fW0 2 [] 0 rfl (by omega) (fun w _ => (Fold_long a1 ht hl).mono fun e w' ⟨he, hw⟩ => ⟨none, 0, he, ⟨World.ownsRow_nil _ _ _ _⟩, fun k hk => by simp [fpR] at hk, hw ▸ Below.refl _ _⟩) (fun w q d _ => (rFold_long a1 h.1 h.2 hl).mono fun e w' ⟨he, hw⟩ => ⟨none, 0, he, ⟨World.ownsRow_nil _ _ _ _⟩, fun k hk => by simp [fpR] at hk, hw ▸ Below.refl _ _⟩)
    · exact walk_of o0 l0 c0 x0 a1 fz0 hp W fW0 0 (upto (fun i => x0 i % a1) l0) l0 (upto_len _ _) (by omega) (fun w hw => (Fold_yes h.1 h.2 (by omega) hw).mono fun e w' ⟨g, he, hg, hr, hb⟩ => ⟨_, _, he, by rw [← mix_full]; exact hr, fun k hk => by simp [fpR] at hk; omega, hb⟩) (fun w q d hw => rFold_yes h.1 h.2 (by omega) hw)

set_option maxRecDepth 100000 in
theorem lifted (os : Os) (started : os.Started) (H : Type) (enc : TypeId × Value → H) :
    ReturnsInHanded {} Try.checked os 4 .any (Rows.schedFoldsSpec.pre6 enc Try.prog Try.f4 Rows.schedFoldsRow.domain false) (Rows.schedFoldsSpec.post enc Try.prog Try.f4 false true false false) := by
  refine returnsInHanded_of_change_sized (C := Try.checked) ownK started (by kernel_rfl) Try.func4
    (ChangeSpec.witness6 (enc := enc) (C := Try.checked) false ⟨#[], #[.slice none 0 0, .int .i64 0], []⟩ 8 (by kernel_rfl) (by kernel_rfl) (by kernel_rfl) (by kernel_rfl)) ?_
  intro W base args ds gs before hval0 hW _ hsz0 _
  have hval : ∀ (j : Nat) t v, Try.f4.params[j]? = some t → args[j]? = some v → Value.okWide Try.prog W .any base t v := hval0
  have hW2 := hW
  obtain ⟨p, q, hA0, hV, rfl, _, _⟩ := hW
  have hA : DataW.TrodAll enc Try.prog W 0 (fun _ => true) true Try.f4.params.toList args.toList ds p := hA0
  have hsz : (DataW.weightsEach Try.prog (Try.f4.params.toList ++ Rows.schedFoldsSpec.plain.varTypes Try.prog) (ds ++ gs)).all (· ≤ reachBytes) = true := hsz0
  clear hsz0
  rw [Try.params4] at hA hval hsz
  obtain ⟨v0, vs0, d0, ds0, p0, q0, hargs, rfl, rfl, h0, r0⟩ := trodAll_cons hA
  obtain ⟨v1, vs1, d1, ds1, p1, q1, rfl, rfl, rfl, h1, r1⟩ := trodAll_cons r0
  obtain ⟨rfl, rfl, rfl⟩ := trodAll_nil r1
  obtain rfl : args = #[v0, v1] := by cases args; simp_all
  obtain ⟨rfl, rfl⟩ := trodVars_none hV
  obtain ⟨o0, l0, c0, x0, rfl, fm0, fz0, fW0⟩ := open_ints (hval 0 26 v0 rfl rfl) h0
  obtain ⟨a1, rfl, rfl, rfl, w1⟩ := open_int Try.underlying3 (hval 1 3 v1 rfl rfl) h1
  have fz0 := fz0 hsz (j := 0) rfl rfl
  clear hA0 hval0
  simp only [List.append_nil] at hW2
  have hlt : ∀ x ∈ p0, x.block < W.heap.size := fun x hx => by simpa using hW2.lt x (by simpa using hx)
  refine (walk o0 l0 c0 x0 a1 fm0 fz0 w1 W fW0).mono fun e W2 ⟨he, hnx⟩ => ?_
  subst he
  exact ⟨_, rfl, _, _, _, [], _, [], hW2, trodAll_mk1 (shut_bool Try.underlying4 _), (trodAll_cons_mk (Below.trod laidOut (by kernel_rfl) (of_decide_eq_true (by kernel_rfl)) h0 hnx (fun x hx => hlt x (by first | simpa using hx | (simp at hx ⊢; simp [hx])))) (trodAll_cons_mk (shut_int Try.underlying3 w1) trodAll_mk0)), rfl, hnx.frame _, fun h => by cases h⟩

/-- the statement -/
theorem proved : Rows.SchedFoldsSaid :=
  OpenClaim.holds_of_wide 4 Try.f4 rfl rfl rfl rfl rfl rfl rfl ⟨rfl, rfl, rfl, rfl, rfl⟩ rfl rfl rfl rfl rfl (by kernel_rfl) Try.func4 (by kernel_rfl)
    (of_decide_eq_true (by kernel_rfl)) (by unfold Func.isWrapper; first | (rw [if_pos (by decide +kernel)]; kernel_rfl) | (rw [if_neg (by decide +kernel)]; exact ⟨rfl, rfl⟩))
    (fun os started H enc _ => lifted os started H enc)
end Go.Proofs.Ytifiebgmjpjakaa.schedFolds
