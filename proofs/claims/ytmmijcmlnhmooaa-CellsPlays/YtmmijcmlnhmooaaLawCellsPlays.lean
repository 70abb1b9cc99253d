/- For every size and every script of steps the statement CellsPlays answers true: each answer of the program's cells, reads and writes, of their clones too, is the document's, and so are the words and the count at the end. No condition. -/
import Derived.Test.YtmmijcmlnhmooaaEO
import Derived.Test.YtmmijcmlnhmooaaEZ5
import Derived.Test.YtmmijcmlnhmooaaEZ6
namespace Go.Proofs.Ytmmijcmlnhmooaa.cellsPlays
open Go.ChangeShapes Go.WideShapes Go.ChangeAt Go.RowKit

set_option maxHeartbeats 4000000 in
set_option maxRecDepth 100000 in
theorem walk (a0 : Int) (ao : Option Addr) (len cap : Nat) (K I P C V X Y : Nat → Int) (Q : Nat → Option Addr) (R : Nat → Nat) (L : Nat → List Nat) (_w0 : (Lit.int .i64 a0).wf = true) (hmax : len ≤ maxLen) (hz : ∀ i, i < len → (L i).length * 8 ≤ reachBytes) (W : World) (hops : CopsAt W ao len K I P C V X Y Q R L) : Calls Try.prog 4 #[.int .i64 a0, .slice ao len cap] W fun r W2 => r = .returned (.bool true) ∧ Below W.heap.size W W2 := by
  by_cases hn : 1 ≤ a0 ∧ a0 ≤ 4096
  · obtain ⟨n, rfl⟩ : ∃ n : Nat, a0 = n := ⟨a0.toNat, by omega⟩
    have h1 : 1 ≤ n := by omega
    have h2 : n ≤ 4096 := by omega
    have HN := fun w => new_ex n h1 h2 w
    replace HN := Lib.hid HN
    have HRN := fun w => refNew_ex n h1 h2 w
    replace HRN := Lib.hid HRN
    have HOPS := Lib.hid hops
    have HZ := Lib.hid hz
    have hmm : len ≤ 9223372036854775807 := hmax
    clear hn h1 h2 _w0 hops hmax hz
    go_enter Try.func4, Try.ntmps4
    go_wp2_with (first
      | (go_at_call 11; refine (live_any _).mono ?_; rintro r w1 ⟨rfl, hb⟩; have HB1 := Lib.hid hb; clear hb)
      | (go_at_call 12; refine (HN.out _).mono ?_; rintro r w2 ⟨bm, gm, rfl, hq, hm, hb⟩; have HM2 := Lib.hid hm; have HB2 := Lib.hid hb; have HQ2 := Lib.hid hq; clear hm hb hq)
      | (go_at_call 13; refine (HRN.out _).mono ?_; rintro r w3 ⟨bd, gd, rfl, hq, hm, hb⟩; have HM3 := Lib.hid hm; have HB3 := Lib.hid hb; have HQ3 := Lib.hid hq; clear hm hb hq))
    have HG := Lib.hid (goes_new HB1.out HM2.out HQ2.out HB2.out HM3.out HQ3.out HB3.out (bl_alloc (Below.refl _ _) _) (Nat.le_refl _) (heap_alloc_new _ _))
    obtain ⟨bx, hbx⟩ : ∃ bx, bx = w3.heap.size := ⟨_, rfl⟩
    rw [← hbx] at HG ⊢
    clear hbx HB1 HM2 HQ2 HB2 HM3 HQ3 HB3 HN HRN
    go_loopw [45] (fun vi wr => ∃ i : Nat, vi = .int .i64 i ∧ i ≤ len ∧ Hid (Goes W wr bx (bm, bd))) (fun vi _ => len - (intOf vi).toNat)
    case atStart => exact ⟨0, rfl, Nat.zero_le _, HG⟩
    case round =>
      clear HG
      obtain ⟨i, rfl, hi, HG⟩ := hrel
      obtain ⟨col, x, ws, o, n', hp, ha⟩ := HG.out
      by_cases hlt : i < len
      · have hlt' : (i : Int) < (len : Int) := by omega
        obtain ⟨b, off, hao, hbW, k0, k1, k2, k3, k4, k5, k6, k7, hbit⟩ := HOPS.out i hlt
        subst hao
        have HZI := Lib.hid (HZ.out i hlt)
        have HBIT := Lib.hid hbit
        rw [← hp.below.cell (p := ⟨b, off + i * 8, none⟩) hbW] at k0
        rw [← hp.below.cell (p := ⟨b, off + i * 8 + 1, none⟩) hbW] at k1
        rw [← hp.below.cell (p := ⟨b, off + i * 8 + 2, none⟩) hbW] at k2
        rw [← hp.below.cell (p := ⟨b, off + i * 8 + 3, none⟩) hbW] at k3
        rw [← hp.below.cell (p := ⟨b, off + i * 8 + 4, none⟩) hbW] at k4
        rw [← hp.below.cell (p := ⟨b, off + i * 8 + 5, none⟩) hbW] at k5
        rw [← hp.below.cell (p := ⟨b, off + i * 8 + 6, none⟩) hbW] at k6
        rw [← hp.below.cell (p := ⟨b, off + i * 8 + 7, none⟩) hbW] at k7
        have hbw : b < wr.heap.size := Nat.lt_of_lt_of_le hbW hp.below.size
        generalize K i = kk at k0
        generalize I i = ii at k1
        generalize P i = pp at k2
        generalize C i = cc at k3
        generalize V i = vv at k4
        generalize X i = xx at k5
        generalize Y i = yy at k6
        generalize Q i = qq at k7 HBIT
        generalize R i = rr at k7
        generalize L i = ll at k7 HBIT HZI
        have HP : Hid (Goes W (wr.alloc (.cells #[.int .i64 kk, .int .i64 ii, .int .i64 pp, .int .i64 cc, .int .u64 vv, .int .u64 xx, .int .u64 yy, .slice qq ll.length rr] 52)) bx (bm, bd)) := ⟨col, x, ws, o, n', hp.on (bl_alloc (Below.refl _ _) _), ha⟩
        clear hp ha HG hbW hbit HOPS HZ
        go_wp2_with (go_at_call 14; refine (wstep_gen HP.out _ _ _ _ _ _ _ _ _ _ HBIT.out HZI.out).mono ?_; rintro r w4 ⟨rfl, hg⟩; have HG5 := Lib.hid hg; clear hg)
        exact ⟨⟨i + 1, by first | rfl | (congr 1), by omega, HG5⟩, by simp [intOf]; omega⟩
      · have hlt' : ¬ (i : Int) < (len : Int) := by omega
        obtain ⟨e1, e2⟩ := ha.mm
        simp only at e1 e2
        subst e1 e2
        have HL := Lib.hid hp.m.many
        have HP := Lib.hid hp
        clear hp HG hlt hi ha HOPS HZ
        go_wp2_with (first
          | (go_at_call 15; refine (refAll_any HP.out.d).mono ?_; rintro e w4 ⟨gv, cv, rfl, ho, hb⟩; have HO1 := Lib.hid ho; have HP1 := Lib.hid (HP.out.on hb); clear ho hb HP)
          | (go_at_call 17; refine (all_any HP1.out.m).mono ?_; rintro e w5 ⟨rfl, hr, hb⟩; have HR2 := Lib.hid hr; have HO2 := Lib.hid (World.ownsRow.kept HO1.out (w' := w5) (row := none) ⟨hb.os, hb.tape, hb.output, hb.size, fun k hk _ => hb.block k hk⟩ (Or.inr (by simp [Value.ownBlock]))); have HP2 := Lib.hid (HP1.out.on hb); clear hr hb HP1 HO1)
          | (go_at_call 16; refine (words_all HL.out HR2.out HO2.out).mono ?_; rintro e w6 ⟨rfl, hb⟩; have HP3 := Lib.hid (HP2.out.on hb); clear hb HP2)
          | (go_at_call 18; refine (count_any HP3.out.m).mono ?_; rintro e w7 ⟨rfl, hw⟩; subst w7)
          | (go_at_call 19; refine (refCount_any HP3.out.d).mono ?_; rintro e w7 ⟨rfl, hw⟩; subst w7))
        go_ret
        exact ⟨by simp, HP3.out.below⟩
  · have HN := fun w => new_none a0 hn w
    replace HN := Lib.hid HN
    have HRN := fun w => refNew_none a0 hn w
    replace HRN := Lib.hid HRN
    clear hn _w0 hops hmax hz
    go_enter Try.func4, Try.ntmps4
    go_wp2_with (first
      | (go_at_call 11; refine (live_any _).mono ?_; rintro r w1 ⟨rfl, hb⟩; have HB1 := Lib.hid hb; clear hb)
      | (go_at_call 12; refine (HN.out _).mono ?_; rintro r w2 ⟨rfl, hw⟩; subst w2)
      | (go_at_call 13; refine (HRN.out _).mono ?_; rintro r w3 ⟨rfl, hw⟩; subst w3))
    go_ret
    exact ⟨rfl, HB1.out⟩

set_option maxRecDepth 100000 in
theorem lifted (os : Os) (started : os.Started) (H : Type) (enc : TypeId × Value → H) :
    ReturnsInHanded {} Try.checked os 4 .any (Rows.cellsPlaysSpec.pre6 enc Try.prog Try.f4 Rows.cellsPlaysRow.domain false) (Rows.cellsPlaysSpec.post enc Try.prog Try.f4 false true false false) := by
  refine returnsInHanded_of_change_sized (C := Try.checked) ownK started (by kernel_rfl) Try.func4
    (ChangeSpec.witness6 (enc := enc) (C := Try.checked) false ⟨#[], #[.int .i64 0, .slice none 0 0], []⟩ 8 (by kernel_rfl) (by kernel_rfl) (by kernel_rfl) (by kernel_rfl)) ?_
  intro W base args ds gs before hval0 hW _ hsz0 _
  have hval : ∀ (j : Nat) t v, Try.f4.params[j]? = some t → args[j]? = some v → Value.okWide Try.prog W .any base t v := hval0
  have hW2 := hW
  obtain ⟨p, q, hA0, hV, rfl, _, _⟩ := hW
  have hA : DataW.TrodAll enc Try.prog W 0 (fun _ => true) true Try.f4.params.toList args.toList ds p := hA0
  have hsz : (DataW.weightsEach Try.prog (Try.f4.params.toList ++ Rows.cellsPlaysSpec.plain.varTypes Try.prog) (ds ++ gs)).all (· ≤ reachBytes) = true := hsz0
  clear hsz0
  rw [Try.params4] at hA hval hsz
  obtain ⟨v0, vs0, d0, ds0, p0, q0, hargs, rfl, rfl, h0, r0⟩ := trodAll_cons hA
  obtain ⟨v1, vs1, d1, ds1, p1, q1, rfl, rfl, rfl, h1, r1⟩ := trodAll_cons r0
  obtain ⟨rfl, rfl, rfl⟩ := trodAll_nil r1
  obtain rfl : args = #[v0, v1] := by cases args; simp_all
  obtain ⟨rfl, rfl⟩ := trodVars_none hV
  obtain ⟨a0, rfl, rfl, rfl, w0⟩ := open_int Try.underlying3 (hval 0 3 v0 rfl rfl) h0
  obtain ⟨o1, l1, c1, K1, I1, P1, C1, V1, X1, Y1, Q1, R1, L1, rfl, fm1, fz1, fW1⟩ := open_cops (hval 1 33 v1 rfl rfl) h1
  have fz1 := fz1 hsz (j := 1) rfl rfl
  clear hA0 hval0
  simp only [List.append_nil] at hW2
  have hlt : ∀ x ∈ p1, x.block < W.heap.size := fun x hx => by simpa using hW2.lt x (by simpa using hx)
  refine (walk a0 o1 l1 c1 K1 I1 P1 C1 V1 X1 Y1 Q1 R1 L1 w0 fm1 fz1 W fW1).mono fun e W2 ⟨he, hnx⟩ => ?_
  subst he
  exact ⟨_, rfl, _, _, _, [], _, [], hW2, trodAll_mk1 (shut_bool Try.underlying4 _), (trodAll_cons_mk (shut_int Try.underlying3 w0) (trodAll_cons_mk (Below.trod laidOut (by kernel_rfl) (of_decide_eq_true (by kernel_rfl)) h1 hnx (fun x hx => hlt x (by first | simpa using hx | (simp at hx ⊢; simp [hx])))) trodAll_mk0)), rfl, hnx.frame _, fun h => by cases h⟩

/-- the statement -/
theorem proved : Rows.CellsPlaysSaid :=
  OpenClaim.holds_of_wide 4 Try.f4 rfl rfl rfl rfl rfl rfl rfl ⟨rfl, rfl, rfl, rfl, rfl⟩ rfl rfl rfl rfl rfl (by kernel_rfl) Try.func4 (by kernel_rfl)
    (of_decide_eq_true (by kernel_rfl)) (by unfold Func.isWrapper; first | (rw [if_pos (by decide +kernel)]; kernel_rfl) | (rw [if_neg (by decide +kernel)]; exact ⟨rfl, rfl⟩))
    (fun os started H enc _ => lifted os started H enc)
end Go.Proofs.Ytmmijcmlnhmooaa.cellsPlays
