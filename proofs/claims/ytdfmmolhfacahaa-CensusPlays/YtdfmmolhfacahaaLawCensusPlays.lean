/- For every size and every script of steps the statement CensusPlays answers true: each answer of Stamp, Publish, Leave, Peek, of a coming and of a scan, of clones too, over whatever memory and plan, is the document's, and so are the words and the count at the end. No condition. -/
import Derived.Test.YtdfmmolhfacahaaM8
import Derived.Test.YtdfmmolhfacahaaVO
import Derived.Test.YtdfmmolhfacahaaVP
import Derived.Test.YtdfmmolhfacahaaVS
namespace Go.Proofs.Ytdfmmolhfacahaa.censusPlays
open Go.ChangeShapes Go.WideShapes Go.ChangeAt Go.RowKit

set_option maxHeartbeats 8000000 in
set_option maxRecDepth 100000 in
theorem walk (a0 : Int) (ao : Option Addr) (len cap : Nat) (K A B T V : Nat → Int) (_w0 : (Lit.int .i64 a0).wf = true) (hmax : len ≤ maxLen) (W : World) (hops : KopsAt W ao len K A B T V) : Calls Try.prog 4 #[.int .i64 a0, .slice ao len cap] W fun r W2 => r = .returned (.bool true) ∧ Below W.heap.size W W2 := by
  by_cases hn : 1 ≤ a0 ∧ a0 ≤ 4096
  · obtain ⟨n, rfl⟩ : ∃ n : Nat, a0 = n := ⟨a0.toNat, by omega⟩
    have h1 : 1 ≤ n := by omega
    have h2 : n ≤ 4096 := by omega
    have HN := fun w => new_some n h1 h2 w
    replace HN := Lib.hid HN
    have HRN := fun w => refNew_some n h1 h2 w
    replace HRN := Lib.hid HRN
    have HOPS := Lib.hid hops
    have hmm : len ≤ 9223372036854775807 := hmax
    clear hn h1 h2 _w0 hops hmax
    go_enter Try.func4, Try.ntmps4
    go_wp2_with (first
      | (go_at_call 16; refine (live13_any _).mono ?_; rintro r w1 ⟨rfl, hb⟩; have HB1 := Lib.hid hb; clear hb)
      | (go_at_call 17; refine (HN.out _).mono ?_; rintro r w2 ⟨rfl, hm, hb⟩; have HM2 := Lib.hid hm; have HB2 := Lib.hid hb; clear hm hb)
      | (go_at_call 18; refine (HRN.out _).mono ?_; rintro r w3 ⟨rfl, hm, hb⟩; have HBO := Lib.hid (both_new HB1.out HM2.out HB2.out hm hb); clear hm hb HB1 HB2 HM2))
    obtain ⟨p0, p1, p2, p3, p4, p5, p6⟩ := HBO.out.p.cells
    have HBD := Lib.hid (HBO.out.on (tb_drew (Below.refl _ _)))
    refine wp_region_seq (fun w' => w'.cell? ⟨w3.heap.size, 0, none⟩ = some (.int .i64 0) ∧ w'.cell? ⟨w3.heap.size, 1, none⟩ = some (.int .i64 0) ∧ w'.cell? ⟨w3.heap.size, 2, none⟩ = some (.int .i64 0) ∧ w'.cell? ⟨w3.heap.size, 3, none⟩ = some (.int .i64 1) ∧ w'.cell? ⟨w3.heap.size, 4, none⟩ = some (.int .i64 0) ∧ w'.cell? ⟨w3.heap.size, 5, none⟩ = some (.int .i64 0)) ((0, true) :: (1, true) :: (2, true) :: (4, true) :: (3, false) :: (5, false) :: (6, true) :: (7, false) :: (8, true) :: []) follows13 (by kernel_rfl) (fun _ _ _ _ _ h => h) ⟨p0, p1, p2, p3, p4, p5⟩ ?_
    repeat (first | (refine wpSeq_take (v := ?_) rfl (by rfl) (fun wq hSq => ?_) ?_; rotate_left; (focus ((try dsimp only at hSq); go_simp; try with_reducible rfl)); simp only [Act.put, List.setIfInBounds_toArray, List.set_cons_zero, List.set_cons_succ]) | (refine wpSeq_skip rfl (by rfl) ?_; simp only [Act.put, List.setIfInBounds_toArray, List.set_cons_zero, List.set_cons_succ]))
    refine wpSeq_do rfl (by rfl) (fun KK hK => ?_)
    go_simp
    refine (come_any 0 0 0 1 0 0 0 _).mono ?_
    rintro r w5 ⟨x1, rfl, lx, hx, hb⟩
    have H5 := Lib.hid (And.intro lx (And.intro hx hb))
    clear lx hx hb
    obtain ⟨q0, q1, q2, q3, q4, q5, q6⟩ := (HBD.out.on H5.out.2.2).p.cells
    refine hK.out _ _ ⟨q0, q1, q2, q3, q4, q5⟩ ?_
    clear hK KK
    try simp only [Act.put, List.setIfInBounds_toArray, List.set_cons_zero, List.set_cons_succ]
    refine wpSeq_do rfl (by rfl) (fun KK hK => ?_)
    go_simp
    refine (look_any 0 0 0 1 0 0 1 0 _).mono ?_
    rintro r w6 ⟨z1, rfl, lz, hz, hb⟩
    have H6 := Lib.hid (HBD.out.wp H5.out.1 H5.out.2.1 H5.out.2.2 lz hz hb)
    have HB6 := Lib.hid ((HBD.out.on H5.out.2.2).on hb)
    clear lz hz hb
    obtain ⟨r0, r1, r2, r3, r4, r5, r6⟩ := HB6.out.p.cells
    refine hK.out _ _ ⟨r0, r1, r2, r3, r4, r5⟩ ?_
    clear hK KK
    try simp only [Act.put, List.setIfInBounds_toArray, List.set_cons_zero, List.set_cons_succ]
    repeat (first | (refine wpSeq_take (v := ?_) rfl (by rfl) (fun wq hSq => ?_) ?_; rotate_left; (focus ((try dsimp only at hSq); go_simp; try with_reducible rfl)); simp only [Act.put, List.setIfInBounds_toArray, List.set_cons_zero, List.set_cons_succ]) | (refine wpSeq_skip rfl (by rfl) ?_; simp only [Act.put, List.setIfInBounds_toArray, List.set_cons_zero, List.set_cons_succ]))
    refine wpSeq_do rfl (by rfl) (fun KK hK => ?_)
    go_simp
    have HB7 := Lib.hid (HB6.out.on (tb_alloc (Below.refl _ _) (.cells #[.pointer (some ⟨w1.heap.size + 1, 0, none⟩), .pointer (some ⟨w2.heap.size + 1, 0, none⟩), .pointer (some ⟨x1, 0, none⟩), .pointer none, .pointer (some ⟨z1, 0, none⟩), .pointer none] 47)))
    obtain ⟨s0, s1, s2, s3, s4, s5, s6⟩ := HB7.out.p.cells
    refine hK.out _ _ ⟨s0, s1, s2, s3, s4, s5⟩ ?_
    clear hK KK
    try simp only [Act.put, List.setIfInBounds_toArray, List.set_cons_zero, List.set_cons_succ]
    repeat (first | (refine wpSeq_take (v := ?_) rfl (by rfl) (fun wq hSq => ?_) ?_; rotate_left; (focus ((try dsimp only at hSq); go_simp; try with_reducible rfl)); simp only [Act.put, List.setIfInBounds_toArray, List.set_cons_zero, List.set_cons_succ]) | (refine wpSeq_skip rfl (by rfl) ?_; simp only [Act.put, List.setIfInBounds_toArray, List.set_cons_zero, List.set_cons_succ]))
    refine wpSeq_nil ?_
    obtain ⟨u0, u1, u2, u3, u4, u5, u6⟩ := H6.out.cells
    clear HBO HBD H5 HB6
    go_wp2_with (first
      | (go_at_call 19; refine (dcome_any 0 1 0 _).mono ?_; rintro r w8 ⟨y1, rfl, ly, hy, hb⟩; have H8a := Lib.hid (H6.out.on hb); have H8 := Lib.hid (And.intro (H8a.out.set3 (.pointer (some ⟨y1, 0, none⟩))) (And.intro (H8a.out.dc3 hy (.pointer (some ⟨y1, 0, none⟩))) (Nat.le_trans H6.out.below.size ly))); obtain ⟨c0, c1, c2, c3, c4, c5, c6⟩ := H8a.out.cells; obtain ⟨d0, d1, d2, d3, d4, d5, d6⟩ := H8.out.1.cells; obtain ⟨e0, e1, e2, e3, e4, e5, e6⟩ := (HB7.out.on hb).p.cells; have HP8 := Lib.hid (H8a.out.pl3 (HB7.out.on hb).p (.pointer (some ⟨y1, 0, none⟩))); obtain ⟨g0, g1, g2, g3, g4, g5, g6⟩ := HP8.out.cells; clear ly hy hb H8a)
      | (go_at_call 20; refine (dlook_any 0 1 1 0 _).mono ?_; rintro r w9 ⟨y2, rfl, ly, hy, hb⟩; have H9a := Lib.hid (H8.out.1.on hb); have HG := Lib.hid (H9a.out.all (cok_new 0 1 0) (sok_new 1 1 0) (H8.out.2.1.on hb) H8.out.2.2 hy (Nat.le_trans H8.out.1.below.size ly)); obtain ⟨c0, c1, c2, c3, c4, c5, c6⟩ := H9a.out.cells; obtain ⟨d0, d1, d2, d3, d4, d5, d6⟩ := (H9a.out.set5 (.pointer (some ⟨y2, 0, none⟩))).cells; clear ly hy hb H9a H8))
    clear HB7 H6 HP8
    obtain ⟨bm, hbm⟩ : ∃ bm, bm = w1.heap.size + 1 := ⟨_, rfl⟩
    obtain ⟨gm, hgm⟩ : ∃ gm, gm = w1.heap.size := ⟨_, rfl⟩
    obtain ⟨br, hbr⟩ : ∃ br, br = w2.heap.size + 1 := ⟨_, rfl⟩
    obtain ⟨gr, hgr⟩ : ∃ gr, gr = w2.heap.size := ⟨_, rfl⟩
    obtain ⟨X, hX⟩ : ∃ X, X = w6.heap.size := ⟨_, rfl⟩
    rw [← hbr, ← hbm] at HG ⊢
    rw [← hgr, ← hgm] at HG
    have HG0 : Hid (Go13 W (w9.setCell ⟨X, 5, none⟩ (.pointer (some ⟨y2, 0, none⟩))) X bm gm br gr) := by rw [hX]; exact HG
    rw [← hX]
    clear HG hX
    clear hbr hgr hbm hgm
    go_loopw [73] (fun vi wr => ∃ i : Nat, vi = .int .i64 i ∧ i ≤ len ∧ Hid (Go13 W wr X bm gm br gr)) (fun vi _ => len - (intOf vi).toNat)
    case atStart => exact ⟨0, rfl, Nat.zero_le _, HG0⟩
    case round =>
      clear HG0
      obtain ⟨i, rfl, hi, HG⟩ := hrel
      obtain ⟨xc, yc, xs, ys, aA, ws, o, n, c, s, hc, hs, hp⟩ := HG.out
      by_cases hlt : i < len
      · have hlt' : (i : Int) < (len : Int) := by omega
        obtain ⟨b, off, hao, hbW, k0, k1, k2, k3, k4⟩ := HOPS.out i hlt
        subst hao
        rw [← hp.below.cell (p := ⟨b, off + i * 5, none⟩) hbW] at k0
        rw [← hp.below.cell (p := ⟨b, off + i * 5 + 1, none⟩) hbW] at k1
        rw [← hp.below.cell (p := ⟨b, off + i * 5 + 2, none⟩) hbW] at k2
        rw [← hp.below.cell (p := ⟨b, off + i * 5 + 3, none⟩) hbW] at k3
        rw [← hp.below.cell (p := ⟨b, off + i * 5 + 4, none⟩) hbW] at k4
        have hbw : b < wr.heap.size := Nat.lt_of_lt_of_le hbW hp.below.size
        obtain ⟨kk, hkk⟩ : ∃ kk, kk = K i := ⟨_, rfl⟩
        obtain ⟨aa, haa⟩ : ∃ aa, aa = A i := ⟨_, rfl⟩
        obtain ⟨bb, hbb⟩ : ∃ bb, bb = B i := ⟨_, rfl⟩
        obtain ⟨tt, htt⟩ : ∃ tt, tt = T i := ⟨_, rfl⟩
        obtain ⟨vv, hvv⟩ : ∃ vv, vv = V i := ⟨_, rfl⟩
        rw [← hkk] at k0
        rw [← haa] at k1
        rw [← hbb] at k2
        rw [← htt] at k3
        rw [← hvv] at k4
        have HP : Hid (Go13 W (wr.alloc (.cells #[.int .i64 kk, .int .i64 aa, .int .i64 bb, .int .i64 tt, .int .u64 vv] 51)) X bm gm br gr) := ⟨_, _, _, _, _, _, _, _, _, _, hc, hs, hp.on (tb_alloc (Below.refl _ _) _)⟩
        clear hkk haa hbb htt hvv hp HG hbW hc hs
        go_wp2_with (go_at_call 21; refine (kstep_any HP.out _ _ _ _ _).mono ?_; rintro r w4 ⟨rfl, hg⟩; have HG5 := Lib.hid hg; clear hg)
        exact ⟨⟨i + 1, by first | rfl | (congr 1), by omega, HG5⟩, by simp [intOf]; omega⟩
      · have hlt' : ¬ (i : Int) < (len : Int) := by omega
        have HL := Lib.hid hp.m.many
        have HP := Lib.hid hp
        clear hp HG hlt hi hc hs
        go_wp2_with (first
          | (go_at_call 22; refine (refAll_any HP.out.d).mono ?_; rintro e w4 ⟨gv, cv, rfl, ho, hb⟩; have HO1 := Lib.hid ho; have HP1 := Lib.hid (HP.out.on hb); clear ho hb HP)
          | (go_at_call 24; refine (all_any HP1.out.m).mono ?_; rintro e wa ⟨rfl, hr, hb⟩; have HR2 := Lib.hid hr; have HO2 := Lib.hid (World.ownsRow.kept HO1.out (w' := wa) (row := none) ⟨hb.os, hb.tape, hb.output, hb.size, fun k hk _ => hb.block k hk⟩ (Or.inr (by simp [Value.ownBlock]))); have HP2 := Lib.hid (HP1.out.on hb); clear hr hb HP1 HO1)
          | (go_at_call 23; refine (words_all HL.out HR2.out HO2.out).mono ?_; rintro e wb ⟨rfl, hb⟩; have HP3 := Lib.hid (HP2.out.on hb); clear hb HP2)
          | (go_at_call 25; refine (count_any HP3.out.m).mono ?_; rintro e w7 ⟨rfl, hw⟩; subst w7)
          | (go_at_call 26; refine (refCount_any HP3.out.d).mono ?_; rintro e w7 ⟨rfl, hw⟩; subst w7))
        go_ret
        exact ⟨by simp, HP3.out.below⟩
  · have HN := fun w => new_none a0 hn w
    replace HN := Lib.hid HN
    have HRN := fun w => refNew_none a0 hn w
    replace HRN := Lib.hid HRN
    clear hn _w0 hops hmax
    go_enter Try.func4, Try.ntmps4
    go_wp2_with (first
      | (go_at_call 16; refine (live13_any _).mono ?_; rintro r w1 ⟨rfl, hb⟩; have HB1 := Lib.hid hb; clear hb)
      | (go_at_call 17; refine (HN.out _).mono ?_; rintro r w2 ⟨rfl, hw⟩; subst w2)
      | (go_at_call 18; refine (HRN.out _).mono ?_; rintro r w3 ⟨rfl, hw⟩; subst w3))
    go_ret
    exact ⟨rfl, HB1.out⟩

set_option maxRecDepth 100000 in
theorem lifted (os : Os) (started : os.Started) (H : Type) (enc : TypeId × Value → H) :
    ReturnsInHanded {} Try.checked os 4 .any (Rows.censusPlaysSpec.pre6 enc Try.prog Try.f4 Rows.censusPlaysRow.domain false) (Rows.censusPlaysSpec.post enc Try.prog Try.f4 false true false false) := by
  refine returnsInHanded_of_change (C := Try.checked) ownK started (by kernel_rfl) Try.func4
    (ChangeSpec.witness6 (enc := enc) (C := Try.checked) false ⟨#[], #[.int .i64 0, .slice none 0 0], []⟩ 8 (by kernel_rfl) (by kernel_rfl) (by kernel_rfl) (by kernel_rfl)) ?_
  intro W base args ds gs before hval0 hW _ _
  have hval : ∀ (j : Nat) t v, Try.f4.params[j]? = some t → args[j]? = some v → Value.okWide Try.prog W .any base t v := hval0
  have hW2 := hW
  obtain ⟨p, q, hA0, hV, rfl, _, _⟩ := hW
  have hA : DataW.TrodAll enc Try.prog W 0 (fun _ => true) true Try.f4.params.toList args.toList ds p := hA0
  rw [Try.params4] at hA hval
  obtain ⟨v0, vs0, d0, ds0, p0, q0, hargs, rfl, rfl, h0, r0⟩ := trodAll_cons hA
  obtain ⟨v1, vs1, d1, ds1, p1, q1, rfl, rfl, rfl, h1, r1⟩ := trodAll_cons r0
  obtain ⟨rfl, rfl, rfl⟩ := trodAll_nil r1
  obtain rfl : args = #[v0, v1] := by cases args; simp_all
  obtain ⟨rfl, rfl⟩ := trodVars_none hV
  obtain ⟨a0, rfl, rfl, rfl, w0⟩ := open_int Try.underlying3 (hval 0 3 v0 rfl rfl) h0
  obtain ⟨o1, l1, c1, K1, A1, B1, T1, V1, rfl, fm1, fW1⟩ := open_kops (hval 1 37 v1 rfl rfl) h1
  clear hA0 hval0
  simp only [List.append_nil] at hW2
  have hlt : ∀ x ∈ p1, x.block < W.heap.size := fun x hx => by simpa using hW2.lt x (by simpa using hx)
  refine (walk a0 o1 l1 c1 K1 A1 B1 T1 V1 w0 fm1 W fW1).mono fun e W2 ⟨he, hnx⟩ => ?_
  subst he
  exact ⟨_, rfl, _, _, _, [], _, [], hW2, trodAll_mk1 (shut_bool Try.underlying4 _), (trodAll_cons_mk (shut_int Try.underlying3 w0) (trodAll_cons_mk (Below.trod laidOut (by kernel_rfl) (of_decide_eq_true (by kernel_rfl)) h1 hnx (fun x hx => hlt x (by first | simpa using hx | (simp at hx ⊢; simp [hx])))) trodAll_mk0)), rfl, hnx.frame _, fun h => by cases h⟩

/-- the statement -/
theorem proved : Rows.CensusPlaysSaid :=
  OpenClaim.holds_of_wide 4 Try.f4 rfl rfl rfl rfl rfl rfl rfl ⟨rfl, rfl, rfl, rfl, rfl⟩ rfl rfl rfl rfl rfl (by kernel_rfl) Try.func4 (by kernel_rfl)
    (of_decide_eq_true (by kernel_rfl)) (by unfold Func.isWrapper; first | (rw [if_pos (by decide +kernel)]; kernel_rfl) | (rw [if_neg (by decide +kernel)]; exact ⟨rfl, rfl⟩))
    (fun os started H enc _ => lifted os started H enc)
end Go.Proofs.Ytdfmmolhfacahaa.censusPlays
