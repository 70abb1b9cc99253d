/- For every room and every script of steps the statement StackPlays answers true: each answer of the program's stack of numbers, of its clones too, is the document's, and so are the length, the room and the list at the end. No condition. -/
import Derived.Test.YteeemjidjckimaaS3
import Derived.Test.YteeemjidjckimaaS5
namespace Go.Proofs.Yteeemjidjckimaa.stackPlays
open Go.ChangeShapes Go.WideShapes Go.ChangeAt Go.RowKit

theorem box_old {F F' : List Nat} {w w1 w2 : World} {x : Obj} (ht : Turn F F' w1 w2) (hl : Blw w F) (hb : Below (w.alloc x).heap.size (w.alloc x) w1) : w2.heap[w.heap.size]? = (w.alloc x).heap[w.heap.size]? :=
  (ht.block _ (Nat.lt_of_lt_of_le (by simp) hb.size) (fun q => absurd (hl _ q) (Nat.lt_irrefl _))).trans (hb.block _ (by simp))
theorem box_new {F F' : List Nat} {w w1 w2 : World} {x : Obj} (ht : Turn F F' w1 w2) (ha : Abv (w.alloc x).heap.size F) (hb : Below (w.alloc x).heap.size (w.alloc x) w1) : w2.heap[w.heap.size]? = (w.alloc x).heap[w.heap.size]? :=
  (ht.block _ (Nat.lt_of_lt_of_le (by simp) hb.size) (fun q => absurd (ha _ q) (by simp))).trans (hb.block _ (by simp))
theorem play_new {W w1 w2 w3 : World} {b br : Nat} {r : Int} (hb : Below W.heap.size W w1) (e1 : b = w1.heap.size) (hm : Stk 57 3 w2 b [b] [] r) (hb2 : Below w1.heap.size w1 w2) (e2 : br = w2.heap.size) (hr : Stk 59 3 w3 br [br] [] r) (hb3 : Below w2.heap.size w2 w3) :
    Goes W w3 b br r := by
  have h1 := hm.blw b (List.mem_singleton.2 rfl)
  have h2 := hb.size
  exact Goes.mk (l := []) ⟨hm.on hb3, hr, below_chain (below_chain hb hb2) hb3, abv_one (by omega), abv_one (by omega), fun k hk hq => by simp at hk hq; omega⟩
set_option maxHeartbeats 4000000 in
set_option maxRecDepth 100000 in
theorem walk (a0 : Int) (ao : Option Addr) (len cap : Nat) (K A : Nat → Int) (V : Nat → ByteArray) (_w0 : (Lit.int .i64 a0).wf = true) (hmax : len ≤ maxLen) (_hz : len * 32 ≤ reachBytes) (W : World) (hops : SopsAt W ao len K A V) : Calls Try.prog 4 #[.int .i64 a0, .slice ao len cap] W fun r W2 => r = .returned (.bool true) ∧ Below W.heap.size W W2 := by
  have HN := Lib.hid (fun w => iNew_any a0 w)
  have HRN := Lib.hid (fun w => rNew_any a0 w)
  generalize roomV a0 = r at HN HRN
  have HOPS := Lib.hid hops
  have hmm : len ≤ 9223372036854775807 := hmax
  clear _w0 hops hmax _hz
  go_enter Try.func4, Try.ntmps4
  go_wp2_with (first
    | (go_at_call 12; refine (live_any _).mono ?_; rintro e w1 ⟨rfl, hb⟩; have HB1 := Lib.hid hb; clear hb)
    | (go_at_call 9; refine (HN.out _).mono ?_; rintro e w2 ⟨b, rfl, hb0, hm, hb⟩; have HE2 := Lib.hid hb0; have HM2 := Lib.hid hm; have HB2 := Lib.hid hb; clear hm hb hb0)
    | (go_at_call 13; refine (HRN.out _).mono ?_; rintro e w3 ⟨br, rfl, hb0, hm, hb⟩; have HG := Lib.hid (play_new HB1.out HE2.out HM2.out HB2.out hb0 hm hb); clear hm hb hb0 HB1 HB2 HM2 HE2))
  go_loopw [6, 23] (fun vm vi wr => ∃ (i bm : Nat), vi = .int .i64 i ∧ vm = .pointer (some ⟨bm, 0, none⟩) ∧ i ≤ len ∧ Hid (Goes W wr bm br r)) (fun _ vi _ => len - (intOf vi).toNat)
  case atStart => exact ⟨0, _, rfl, rfl, Nat.zero_le _, HG⟩
  case round =>
    clear HG
    obtain ⟨i, bm, rfl, rfl, hi, HG⟩ := hrel
    obtain ⟨Fm, Fr, l, hp⟩ := HG.out
    by_cases hlt : i < len
    · have hlt' : (i : Int) < (len : Int) := by omega
      obtain ⟨b0, off, hao, hbW, k0, k1, k2⟩ := HOPS.out i hlt
      subst hao
      rw [← hp.below.cell (p := ⟨b0, off + i * 3, none⟩) hbW] at k0
      rw [← hp.below.cell (p := ⟨b0, off + i * 3 + 1, none⟩) hbW] at k1
      rw [← hp.below.cell (p := ⟨b0, off + i * 3 + 2, none⟩) hbW] at k2
      have hbw : b0 < wr.heap.size := Nat.lt_of_lt_of_le hbW hp.below.size
      generalize K i = kk at k0
      generalize A i = aa at k1
      generalize V i = vv at k2
      have HP := Lib.hid (hp.alloc (.cells #[.int .i64 kk, .int .i64 aa, .string vv] 32))
      have HX := Lib.hid (heap_alloc_new wr (.cells #[.int .i64 kk, .int .i64 aa, .string vv] 32))
      have HBL := Lib.hid hp.m.blw
      clear hp HG hbW
      by_cases h6 : kk = 6
      · subst h6
        go_wp2_with (first
          | (go_at_call 14; refine (iClone_any HP.out.m).mono ?_; rintro e w4 ⟨nb, F', rfl, hm, ha, hb⟩; have HM4 := Lib.hid hm; have HA4 := Lib.hid ha; have HB4 := Lib.hid hb; clear hm ha hb)
          | (go_at_call 15; refine (stir_any (HP.out.m.on HB4.out)).mono ?_; rintro e w5 ⟨F2, rfl, hc⟩; have HG5 := Lib.hid (Goes.mk (HP.out.clone HM4.out HA4.out HB4.out hc)); have hx := (box_old hc HBL.out HB4.out).trans HX.out; obtain ⟨q0, q1, q2, q3⟩ := cells3 hx; clear hc hx)
          | (go_at_call 16; refine (step_any HG5.out _ _ _).mono ?_; rintro e w6 ⟨rfl, hg⟩; have HG6 := Lib.hid hg; clear hg))
        exact ⟨⟨i + 1, _, by first | rfl | (congr 1), rfl, by omega, HG6⟩, by simp [intOf]; omega⟩
      by_cases h7 : kk = 7
      · subst h7
        go_wp2_with (first
          | (go_at_call 14; refine (iClone_any HP.out.m).mono ?_; rintro e w4 ⟨nb, F', rfl, hm, ha, hb⟩; have HM4 := Lib.hid hm; have HA4 := Lib.hid ha; have HB4 := Lib.hid hb; clear hm ha hb)
          | (go_at_call 15; refine (stir_any HM4.out).mono ?_; rintro e w5 ⟨F2, rfl, hc⟩; have HG5 := Lib.hid (Goes.mk (HP.out.leave HA4.out HB4.out hc)); have hx := (box_new hc HA4.out HB4.out).trans HX.out; obtain ⟨q0, q1, q2, q3⟩ := cells3 hx; clear hc hx)
          | (go_at_call 16; refine (step_any HG5.out _ _ _).mono ?_; rintro e w6 ⟨rfl, hg⟩; have HG6 := Lib.hid hg; clear hg))
        exact ⟨⟨i + 1, _, by first | rfl | (congr 1), rfl, by omega, HG6⟩, by simp [intOf]; omega⟩
      go_wp2_with (go_at_call 16; refine (step_any (Goes.mk HP.out) _ _ _).mono ?_; rintro e w6 ⟨rfl, hg⟩; have HG6 := Lib.hid hg; clear hg)
      exact ⟨⟨i + 1, _, by first | rfl | (congr 1), rfl, by omega, HG6⟩, by simp [intOf]; omega⟩
    · have hlt' : ¬ (i : Int) < (len : Int) := by omega
      have HL : Hid (l.length ≤ 9223372036854775807) := by
        have := hp.m.fits
        rw [i64s_len] at this
        show l.length ≤ 9223372036854775807
        omega
      have HP := Lib.hid hp
      clear hp HG hlt hi
      go_wp2_with (first
        | (go_at_call 17; refine (rAll_any HP.out.r).mono ?_; rintro e w4 ⟨p, c, rfl, hr, _, hb⟩; have HR1 := Lib.hid hr.ints; have HP1 := Lib.hid (HP.out.on hb); clear hr hb)
        | (go_at_call 18; refine (iLen_any HP1.out.m).mono ?_; rintro e w5 ⟨rfl, hw⟩; subst w5)
        | (go_at_call 19; refine (rLen_any HP1.out.r).mono ?_; rintro e w5 ⟨rfl, hw⟩; subst w5)
        | (go_at_call 11; refine (iRoom_any HP1.out.m).mono ?_; rintro e w5 ⟨rfl, hw⟩; subst w5)
        | (go_at_call 20; refine (rRoom_any HP1.out.r).mono ?_; rintro e w5 ⟨rfl, hw⟩; subst w5)
        | (go_at_call 22; refine (iAll_any HP1.out.m).mono ?_; rintro e w5 ⟨rfl, hr, hb⟩; have HR2 := Lib.hid hr.ints; have HR3 := Lib.hid (HR1.out.on hb); have HP2 := Lib.hid (HP1.out.on hb); clear hr hb HR1)
        | (go_at_call 21; refine (same_any _ _ HL.out HR2.out HR3.out).mono ?_; rintro e w6 ⟨rfl, hw⟩; have HP3 := Lib.hid (HP2.out.same hw); clear hw))
      go_ret
      exact ⟨by simp, HP3.out.below⟩

set_option maxRecDepth 100000 in
theorem lifted (os : Os) (started : os.Started) (H : Type) (enc : TypeId × Value → H) :
    ReturnsInHanded {} Try.checked os 4 .any (Rows.stackPlaysSpec.pre6 enc Try.prog Try.f4 Rows.stackPlaysRow.domain false) (Rows.stackPlaysSpec.post enc Try.prog Try.f4 false true false false) := by
  refine returnsInHanded_of_change_sized (C := Try.checked) ownK started (by kernel_rfl) Try.func4
    (ChangeSpec.witness6 (enc := enc) (C := Try.checked) false ⟨#[], #[.int .i64 0, .slice none 0 0], []⟩ 8 (by kernel_rfl) (by kernel_rfl) (by kernel_rfl) (by kernel_rfl)) ?_
  intro W base args ds gs before hval0 hW _ hsz0 _
  have hval : ∀ (j : Nat) t v, Try.f4.params[j]? = some t → args[j]? = some v → Value.okWide Try.prog W .any base t v := hval0
  have hW2 := hW
  obtain ⟨p, q, hA0, hV, rfl, _, _⟩ := hW
  have hA : DataW.TrodAll enc Try.prog W 0 (fun _ => true) true Try.f4.params.toList args.toList ds p := hA0
  have hsz : (DataW.weightsEach Try.prog (Try.f4.params.toList ++ Rows.stackPlaysSpec.plain.varTypes Try.prog) (ds ++ gs)).all (· ≤ reachBytes) = true := hsz0
  clear hsz0
  rw [Try.params4] at hA hval hsz
  obtain ⟨v0, vs0, d0, ds0, p0, q0, hargs, rfl, rfl, h0, r0⟩ := trodAll_cons hA
  obtain ⟨v1, vs1, d1, ds1, p1, q1, rfl, rfl, rfl, h1, r1⟩ := trodAll_cons r0
  obtain ⟨rfl, rfl, rfl⟩ := trodAll_nil r1
  obtain rfl : args = #[v0, v1] := by cases args; simp_all
  obtain ⟨rfl, rfl⟩ := trodVars_none hV
  obtain ⟨a0, rfl, rfl, rfl, w0⟩ := open_int Try.underlying3 (hval 0 3 v0 rfl rfl) h0
  obtain ⟨o1, l1, c1, K1, A1, V1, rfl, fm1, fz1, fW1⟩ := open_sops (hval 1 28 v1 rfl rfl) h1
  have fz1 := fz1 hsz (j := 1) rfl rfl
  clear hA0 hval0
  simp only [List.append_nil] at hW2
  have hlt : ∀ x ∈ p1, x.block < W.heap.size := fun x hx => by simpa using hW2.lt x (by simpa using hx)
  refine (walk a0 o1 l1 c1 K1 A1 V1 w0 fm1 fz1 W fW1).mono fun e W2 ⟨he, hnx⟩ => ?_
  subst he
  exact ⟨_, rfl, _, _, _, [], _, [], hW2, trodAll_mk1 (shut_bool Try.underlying4 _), (trodAll_cons_mk (shut_int Try.underlying3 w0) (trodAll_cons_mk (Below.trod laidOut (by kernel_rfl) (of_decide_eq_true (by kernel_rfl)) h1 hnx (fun x hx => hlt x (by simpa using hx))) trodAll_mk0)), rfl, hnx.frame _, fun h => by cases h⟩

/-- the statement -/
theorem proved : Rows.StackPlaysSaid :=
  OpenClaim.holds_of_wide 4 Try.f4 rfl rfl rfl rfl rfl rfl rfl ⟨rfl, rfl, rfl, rfl, rfl⟩ rfl rfl rfl rfl rfl (by kernel_rfl) Try.func4 (by kernel_rfl)
    (of_decide_eq_true (by kernel_rfl)) (by unfold Func.isWrapper; first | (rw [if_pos (by decide +kernel)]; kernel_rfl) | (rw [if_neg (by decide +kernel)]; exact ⟨rfl, rfl⟩))
    (fun os started H enc _ => lifted os started H enc)
end Go.Proofs.Yteeemjidjckimaa.stackPlays
