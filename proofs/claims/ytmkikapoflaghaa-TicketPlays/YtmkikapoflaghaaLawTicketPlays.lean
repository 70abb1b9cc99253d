/- For every size and every script of steps the statement TicketPlays answers true: each answer of Draw, Look, Pass and Ahead, over whatever memory and plan, is the document's, and so are the words and the count at the end. No condition. -/
import Derived.Test.YtmkikapoflaghaaM8
import Derived.Test.YtmkikapoflaghaaUO
import Derived.Test.YtmkikapoflaghaaU4
namespace Go.Proofs.Ytmkikapoflaghaa.ticketPlays
open Go.ChangeShapes Go.WideShapes Go.ChangeAt Go.RowKit

theorem tplay_new {W w1 w2 w3 : World} {n : Nat} (hb : Below W.heap.size W w1) (hm : MemAt 59 w2 (w1.heap.size + 1) w1.heap.size (List.replicate n 0) false 0) (hb2 : Below w1.heap.size w1 w2) (hr : MemAt 72 w3 (w2.heap.size + 1) w2.heap.size (List.replicate n 0) false 0) (hb3 : Below w2.heap.size w2 w3) :
    Goes W w3 (w1.heap.size + 1) w1.heap.size (w2.heap.size + 1) w2.heap.size := by
  have h1 := hm.ltB
  have h2 := hb.size
  exact Goes.mk ⟨hm.on hb3, hr, below_chain (below_chain hb hb2) hb3, ⟨by omega, by omega⟩, ⟨by omega, by omega⟩, ⟨by omega, by omega, by omega, by omega⟩⟩
set_option maxHeartbeats 4000000 in
set_option maxRecDepth 100000 in
theorem walk (a0 : Int) (ao : Option Addr) (len cap : Nat) (K A B T : Nat → Int) (_w0 : (Lit.int .i64 a0).wf = true) (hmax : len ≤ maxLen) (W : World) (hops : TopsAt W ao len K A B T) : Calls Try.prog 4 #[.int .i64 a0, .slice ao len cap] W fun r W2 => r = .returned (.bool true) ∧ Below W.heap.size W W2 := by
  by_cases hn : 1 ≤ a0 ∧ a0 ≤ 4096
  · obtain ⟨n, rfl⟩ : ∃ n : Nat, a0 = n := ⟨a0.toNat, by omega⟩
    have h1 : 1 ≤ n := by omega
    have h2 : n ≤ 4096 := by omega
    have HN := fun w => new_some n h1 h2 w
    replace HN := Lib.hid HN
    have HRN := fun w => refNew_some n h1 h2 w
    replace HRN := Lib.hid HRN
    have HOPS := Lib.hid hops
    have hmm : len ≤ 9223372036854775807 := hmax
    clear hn h1 h2 _w0 hops hmax
    go_enter Try.func4, Try.ntmps4
    go_wp2_with (first
      | (go_at_call 12; refine (live12_any _).mono ?_; rintro r w1 ⟨rfl, hb⟩; have HB1 := Lib.hid hb; clear hb)
      | (go_at_call 13; refine (HN.out _).mono ?_; rintro r w2 ⟨rfl, hm, hb⟩; have HM2 := Lib.hid hm; have HB2 := Lib.hid hb; clear hm hb)
      | (go_at_call 14; refine (HRN.out _).mono ?_; rintro r w3 ⟨rfl, hm, hb⟩; have HG := Lib.hid (tplay_new HB1.out HM2.out HB2.out hm hb); clear hm hb HB1 HB2 HM2))
    obtain ⟨bm, hbm⟩ : ∃ bm, bm = w1.heap.size + 1 := ⟨_, rfl⟩
    obtain ⟨gm, hgm⟩ : ∃ gm, gm = w1.heap.size := ⟨_, rfl⟩
    obtain ⟨br, hbr⟩ : ∃ br, br = w2.heap.size + 1 := ⟨_, rfl⟩
    obtain ⟨gr, hgr⟩ : ∃ gr, gr = w2.heap.size := ⟨_, rfl⟩
    rw [← hbr, ← hbm] at HG ⊢
    rw [← hgr, ← hgm] at HG
    clear hbr hgr hbm hgm
    go_loopw [40] (fun vi wr => ∃ i : Nat, vi = .int .i64 i ∧ i ≤ len ∧ Hid (Goes W wr bm gm br gr)) (fun vi _ => len - (intOf vi).toNat)
    case atStart => exact ⟨0, rfl, Nat.zero_le _, HG⟩
    case round =>
      clear HG
      obtain ⟨i, rfl, hi, HG⟩ := hrel
      obtain ⟨ws, o, c, hp⟩ := HG.out
      by_cases hlt : i < len
      · have hlt' : (i : Int) < (len : Int) := by omega
        obtain ⟨b, off, hao, hbW, k0, k1, k2, k3⟩ := HOPS.out i hlt
        subst hao
        rw [← hp.below.cell (p := ⟨b, off + i * 4, none⟩) hbW] at k0
        rw [← hp.below.cell (p := ⟨b, off + i * 4 + 1, none⟩) hbW] at k1
        rw [← hp.below.cell (p := ⟨b, off + i * 4 + 2, none⟩) hbW] at k2
        rw [← hp.below.cell (p := ⟨b, off + i * 4 + 3, none⟩) hbW] at k3
        have hbw : b < wr.heap.size := Nat.lt_of_lt_of_le hbW hp.below.size
        obtain ⟨kk, hkk⟩ : ∃ kk, kk = K i := ⟨_, rfl⟩
        obtain ⟨aa, haa⟩ : ∃ aa, aa = A i := ⟨_, rfl⟩
        obtain ⟨bb, hbb⟩ : ∃ bb, bb = B i := ⟨_, rfl⟩
        obtain ⟨tt, htt⟩ : ∃ tt, tt = T i := ⟨_, rfl⟩
        rw [← hkk] at k0
        rw [← haa] at k1
        rw [← hbb] at k2
        rw [← htt] at k3
        have HP := Lib.hid (hp.alloc (.cells #[.int .i64 kk, .int .i64 aa, .int .i64 bb, .int .u64 tt] 43))
        clear hkk haa hbb htt hp HG hbW
        go_wp2_with (go_at_call 15; refine (tstep_any HP.out _ _ _ _).mono ?_; rintro r w4 ⟨rfl, hg⟩; have HG5 := Lib.hid hg; clear hg)
        exact ⟨⟨i + 1, by first | rfl | (congr 1), by omega, HG5⟩, by simp [intOf]; omega⟩
      · have hlt' : ¬ (i : Int) < (len : Int) := by omega
        have HL := Lib.hid hp.m.many
        have HP := Lib.hid hp
        clear hp HG hlt hi
        go_wp2_with (first
          | (go_at_call 16; refine (refAll_any HP.out.r).mono ?_; rintro e w4 ⟨gv, cv, rfl, ho, hb⟩; have HO1 := Lib.hid ho; have HP1 := Lib.hid (HP.out.on hb); clear ho hb HP)
          | (go_at_call 18; refine (all_any HP1.out.m).mono ?_; rintro e w5 ⟨rfl, hr, hb⟩; have HR2 := Lib.hid hr; have HO2 := Lib.hid (World.ownsRow.kept HO1.out (w' := w5) (row := none) ⟨hb.os, hb.tape, hb.output, hb.size, fun k hk _ => hb.block k hk⟩ (Or.inr (by simp [Value.ownBlock]))); have HP2 := Lib.hid (HP1.out.on hb); clear hr hb HP1 HO1)
          | (go_at_call 17; refine (words_all HL.out HR2.out HO2.out).mono ?_; rintro e w6 ⟨rfl, hb⟩; have HP3 := Lib.hid (HP2.out.on hb); clear hb HP2)
          | (go_at_call 19; refine (count_any HP3.out.m).mono ?_; rintro e w7 ⟨rfl, hw⟩; subst w7)
          | (go_at_call 20; refine (refCount_any HP3.out.r).mono ?_; rintro e w7 ⟨rfl, hw⟩; subst w7))
        go_ret
        exact ⟨by simp, HP3.out.below⟩
  · have HN := fun w => new_none a0 hn w
    replace HN := Lib.hid HN
    have HRN := fun w => refNew_none a0 hn w
    replace HRN := Lib.hid HRN
    clear hn _w0 hops hmax
    go_enter Try.func4, Try.ntmps4
    go_wp2_with (first
      | (go_at_call 12; refine (live12_any _).mono ?_; rintro r w1 ⟨rfl, hb⟩; have HB1 := Lib.hid hb; clear hb)
      | (go_at_call 13; refine (HN.out _).mono ?_; rintro r w2 ⟨rfl, hw⟩; subst w2)
      | (go_at_call 14; refine (HRN.out _).mono ?_; rintro r w3 ⟨rfl, hw⟩; subst w3))
    go_ret
    exact ⟨rfl, HB1.out⟩

set_option maxRecDepth 100000 in
theorem lifted (os : Os) (started : os.Started) (H : Type) (enc : TypeId × Value → H) :
    ReturnsInHanded {} Try.checked os 4 .any (Rows.ticketPlaysSpec.pre6 enc Try.prog Try.f4 Rows.ticketPlaysRow.domain false) (Rows.ticketPlaysSpec.post enc Try.prog Try.f4 false true false false) := by
  refine returnsInHanded_of_change (C := Try.checked) ownK started (by kernel_rfl) Try.func4
    (ChangeSpec.witness6 (enc := enc) (C := Try.checked) false ⟨#[], #[.int .i64 0, .slice none 0 0], []⟩ 8 (by kernel_rfl) (by kernel_rfl) (by kernel_rfl) (by kernel_rfl)) ?_
  intro W base args ds gs before hval0 hW _ _
  have hval : ∀ (j : Nat) t v, Try.f4.params[j]? = some t → args[j]? = some v → Value.okWide Try.prog W .any base t v := hval0
  have hW2 := hW
  obtain ⟨p, q, hA0, hV, rfl, _, _⟩ := hW
  have hA : DataW.TrodAll enc Try.prog W 0 (fun _ => true) true Try.f4.params.toList args.toList ds p := hA0
  rw [Try.params4] at hA hval
  obtain ⟨v0, vs0, d0, ds0, p0, q0, hargs, rfl, rfl, h0, r0⟩ := trodAll_cons hA
  obtain ⟨v1, vs1, d1, ds1, p1, q1, rfl, rfl, rfl, h1, r1⟩ := trodAll_cons r0
  obtain ⟨rfl, rfl, rfl⟩ := trodAll_nil r1
  obtain rfl : args = #[v0, v1] := by cases args; simp_all
  obtain ⟨rfl, rfl⟩ := trodVars_none hV
  obtain ⟨a0, rfl, rfl, rfl, w0⟩ := open_int Try.underlying3 (hval 0 3 v0 rfl rfl) h0
  obtain ⟨o1, l1, c1, K1, A1, B1, T1, rfl, fm1, fW1⟩ := open_tops (hval 1 36 v1 rfl rfl) h1
  clear hA0 hval0
  simp only [List.append_nil] at hW2
  have hlt : ∀ x ∈ p1, x.block < W.heap.size := fun x hx => by simpa using hW2.lt x (by simpa using hx)
  refine (walk a0 o1 l1 c1 K1 A1 B1 T1 w0 fm1 W fW1).mono fun e W2 ⟨he, hnx⟩ => ?_
  subst he
  exact ⟨_, rfl, _, _, _, [], _, [], hW2, trodAll_mk1 (shut_bool Try.underlying4 _), (trodAll_cons_mk (shut_int Try.underlying3 w0) (trodAll_cons_mk (Below.trod laidOut (by kernel_rfl) (of_decide_eq_true (by kernel_rfl)) h1 hnx (fun x hx => hlt x (by first | simpa using hx | (simp at hx ⊢; simp [hx])))) trodAll_mk0)), rfl, hnx.frame _, fun h => by cases h⟩

/-- the statement -/
theorem proved : Rows.TicketPlaysSaid :=
  OpenClaim.holds_of_wide 4 Try.f4 rfl rfl rfl rfl rfl rfl rfl ⟨rfl, rfl, rfl, rfl, rfl⟩ rfl rfl rfl rfl rfl (by kernel_rfl) Try.func4 (by kernel_rfl)
    (of_decide_eq_true (by kernel_rfl)) (by unfold Func.isWrapper; first | (rw [if_pos (by decide +kernel)]; kernel_rfl) | (rw [if_neg (by decide +kernel)]; exact ⟨rfl, rfl⟩))
    (fun os started H enc _ => lifted os started H enc)
end Go.Proofs.Ytmkikapoflaghaa.ticketPlays
