/- For every room and every script of steps the statement StackTexts answers true: each answer of the program's stack of texts, of its clones too, is the document's, and so are the length, the room and the list at the end. No condition. -/
import Derived.Test.YteeemjidjckimaaS3
import Derived.Test.YteeemjidjckimaaS7
namespace Go.Proofs.Yteeemjidjckimaa.stackTexts
open Go.ChangeShapes Go.WideShapes Go.ChangeAt Go.RowKit

theorem txt_new {W w1 w2 w3 w4 : World} {b br : Nat} {r : Int} (hb : Below W.heap.size W w1) (e1 : b = w1.heap.size) (hm : Stk 55 9 w2 b [b] [] r) (hb2 : Below w1.heap.size w1 w2) (e2 : br = w2.heap.size) (hr : Stk 59 3 w3 br [br] [] r) (hb3 : Below w2.heap.size w2 w3) (h4 : w4 = w3.alloc (.cells #[.string ⟨#[]⟩] 9)) :
    Told W w4 b br (some ⟨w3.heap.size, 0, none⟩) 1 [⟨#[]⟩] r := by
  have h1 := hm.blw b (List.mem_singleton.2 rfl)
  have h2 := hb.size
  have h3 := hr.blw br (List.mem_singleton.2 rfl)
  have hp : Play 55 9 W w3 b [b] br [br] [] [] r := ⟨hm.on hb3, hr, below_chain (below_chain hb hb2) hb3, abv_one (by omega), abv_one (by omega), fun k hk hq => by simp at hk hq; omega⟩
  subst h4
  refine Told.mk (ls := []) (l := []) ⟨hp.alloc _, ⟨World.ownsRow_lit w3 #[Value.string ⟨#[]⟩] 1 (Nat.zero_le _) (by unfold maxLen; decide) rfl⟩, fun k hk => ?_, fun k hk hq => ?_, fun k hk hq => ?_⟩ (Lab.nil _)
  · simp [fpR] at hk
    have := hp.below.size
    omega
  · simp [fpR] at hk
    simp at hq
    have := hb3.size
    omega
  · simp [fpR] at hk
    simp at hq
    omega
theorem txt_more {W w w3 : World} {bm br c : Nat} {Fm Fr : List Nat} {p : Option Addr} {ns ls : List ByteArray} {l : List Int} {r : Int} {v : Value} {x : ByteArray} {o : Obj} (h : Txt W w bm Fm br Fr p c ns ls l r) (hown : w3.ownsRow 0 9 1 v (ns.length + 1) (strs ns ++ [.string x])) (hg : (w.alloc o).grownBy w3 (Value.slice p ns.length c).ownBlock) (hat : v.ownBlock = (Value.slice p ns.length c).ownBlock ∨ v.ownBlock = some (w.alloc o).heap.size) :
    ∃ p' c', v = .slice p' (ns.length + 1) c' ∧ Txt W w3 bm Fm br Fr p' c' (ns ++ [x]) ls l r ∧ Turn (fpR p) (fpR p') w w3 := by
  obtain ⟨p', c', rfl, hr⟩ := ownsRow_slice hown
  have hl : (strs ns ++ [Value.string x]).length = ns.length + 1 := by simp [strs_len]
  have g : w.grownBy w3 (Value.slice p ns.length c).ownBlock := (World.grownBy_alloc w o _).trans hg
  have ho := own_at hat (B := w.heap.size) (by simp)
  have ht : Turn (fpR p) (fpR p') w w3 := ⟨g.os, g.tape, g.output, g.size, fun k hk hn => g.block k hk (fun q => hn (own_fpR.2 q.symm)), ho⟩
  refine ⟨p', c', by rw [hl], ⟨⟨h.play.m.turn ht h.mn.symm, h.play.r.turn ht h.rn.symm, turn_chain h.play.below ht h.an, h.play.am, h.play.ar, h.play.ap⟩, by rw [strs_snoc]; exact hr, h.an.turn h.play.below.size ht, ?_, ?_⟩, ht⟩
  · exact (h.mn.symm.turn h.play.m.blw ht).symm
  · exact (h.rn.symm.turn h.play.r.blw ht).symm
set_option maxHeartbeats 4000000 in
set_option maxRecDepth 100000 in
theorem walk (a0 : Int) (ao : Option Addr) (len cap : Nat) (K A : Nat → Int) (V : Nat → ByteArray) (_w0 : (Lit.int .i64 a0).wf = true) (hmax : len ≤ maxLen) (hz : len * 32 ≤ reachBytes) (W : World) (hops : SopsAt W ao len K A V) : Calls Try.prog 5 #[.int .i64 a0, .slice ao len cap] W fun r W2 => r = .returned (.bool true) ∧ Below W.heap.size W W2 := by
  have HN := Lib.hid (fun w => sNew_any a0 w)
  have HRN := Lib.hid (fun w => rNew_any a0 w)
  generalize roomV a0 = r at HN HRN
  have HOPS := Lib.hid hops
  have hmm : len ≤ 9223372036854775807 := hmax
  have HZ : Hid (len * 32 ≤ 140737488351232) := hz
  clear _w0 hops hmax hz
  obtain ⟨i0, hi0, hz0, hz1, hz2⟩ := info_parts sInfo
  have HZI := Lib.hid (And.intro hi0 (And.intro hz0 (And.intro hz1 hz2)))
  clear hi0 hz0 hz1 hz2
  go_enter Try.func5, Try.ntmps5
  go_wp2_with (first
    | (go_at_call 12; refine (live_any _).mono ?_; rintro e w1 ⟨rfl, hb⟩; have HB1 := Lib.hid hb; clear hb)
    | (go_at_call 8; refine (HN.out _).mono ?_; rintro e w2 ⟨b, rfl, hb0, hm, hb⟩; have HE2 := Lib.hid hb0; have HM2 := Lib.hid hm; have HB2 := Lib.hid hb; clear hm hb hb0)
    | (go_at_call 13; refine (HRN.out _).mono ?_; rintro e w3 ⟨br, rfl, hb0, hm, hb⟩; have HG := Lib.hid (txt_new HB1.out HE2.out HM2.out HB2.out hb0 hm hb rfl); clear hm hb hb0 HB1 HB2 HM2 HE2))
  go_loopw [6, 8, 24] (fun vm vn vi wr => ∃ (i bm : Nat) (p : Option Addr) (c : Nat) (ns : List ByteArray), vi = .int .i64 i ∧ vm = .pointer (some ⟨bm, 0, none⟩) ∧ vn = .slice p (i + 1) c ∧ i ≤ len ∧ Hid (ns.length = i + 1 ∧ ns[0]? = some ⟨#[]⟩) ∧ Hid (Told W wr bm br p c ns r)) (fun _ _ vi _ => len - (intOf vi).toNat)
  case atStart => exact ⟨0, _, _, _, [⟨#[]⟩], rfl, rfl, rfl, Nat.zero_le _, ⟨rfl, rfl⟩, HG⟩
  case round =>
    clear HG
    obtain ⟨i, bm, p, c, ns, rfl, rfl, rfl, hi, HNS, HG⟩ := hrel
    obtain ⟨Fm, Fr, ls, l, hp, hlab⟩ := HG.out
    by_cases hlt : i < len
    · have hlt' : (i : Int) < (len : Int) := by omega
      obtain ⟨b0, off, hao, hbW, k0, k1, k2⟩ := HOPS.out i hlt
      subst hao
      rw [← hp.play.below.cell (p := ⟨b0, off + i * 3, none⟩) hbW] at k0
      rw [← hp.play.below.cell (p := ⟨b0, off + i * 3 + 1, none⟩) hbW] at k1
      rw [← hp.play.below.cell (p := ⟨b0, off + i * 3 + 2, none⟩) hbW] at k2
      have hbw : b0 < wr.heap.size := Nat.lt_of_lt_of_le hbW hp.play.below.size
      generalize K i = kk at k0
      generalize A i = aa at k1
      generalize V i = vv at k2
      have HP := Lib.hid (hp.alloc (.cells #[.int .i64 kk, .int .i64 aa, .string vv] 32))
      have HX := Lib.hid (heap_alloc_new wr (.cells #[.int .i64 kk, .int .i64 aa, .string vv] 32))
      have HBM := Lib.hid hp.play.m.blw
      have HBN := Lib.hid hp.row.blw
      have HLAB := Lib.hid (hlab.more vv)
      have HO : Hid ((wr.alloc (.cells #[.int .i64 kk, .int .i64 aa, .string vv] 32)).ownsRow 0 9 1 (.slice p (i + 1) c) (i + 1) (strs ns)) := by
        have := HP.out.row.own
        rw [strs_len, HNS.out.1] at this
        exact this
      have HMORE : Hid (∀ o w3 v, w3.ownsRow 0 9 1 v (i + 1 + 1) (strs ns ++ [.string vv]) → ((wr.alloc (.cells #[.int .i64 kk, .int .i64 aa, .string vv] 32)).alloc o).grownBy w3 (Value.slice p (i + 1) c).ownBlock → (v.ownBlock = (Value.slice p (i + 1) c).ownBlock ∨ v.ownBlock = some ((wr.alloc (.cells #[.int .i64 kk, .int .i64 aa, .string vv] 32)).alloc o).heap.size) → ∃ p' c', v = .slice p' (i + 1 + 1) c' ∧ Txt W w3 bm Fm br Fr p' c' (ns ++ [vv]) ls l r ∧ w3.heap[wr.heap.size]? = some (.cells #[.int .i64 kk, .int .i64 aa, .string vv] 32 (0, 0))) := by
        intro o w3 v ho hg hat
        rw [← HNS.out.1] at ho hg hat ⊢
        obtain ⟨p', c', e, ht, hc⟩ := txt_more HP.out ho hg hat
        exact ⟨p', c', e, ht, (hc.new HBN.out).trans HX.out⟩
      have HNS2 : Hid ((ns ++ [vv]).length = i + 1 + 1 ∧ (ns ++ [vv])[0]? = some ⟨#[]⟩) := ⟨by rw [List.length_append, HNS.out.1]; rfl, by rw [List.getElem?_append_left (by rw [HNS.out.1]; omega)]; exact HNS.out.2⟩
      have HTX : Hid (∀ w bm p c K A, Told W w bm br p c (ns ++ [vv]) r → Calls Try.prog 26 #[.pointer (some ⟨bm, 0, none⟩), .pointer (some ⟨br, 0, none⟩), .agg #[.int .i64 K, .int .i64 A, .string vv], .slice p (i + 1 + 1) c] w fun e w' => e = .returned (.bool true) ∧ Told W w' bm br p c (ns ++ [vv]) r) := by
        intro w bm p c K A h
        rw [← HNS2.out.1]
        exact text_any h K A vv rfl (by have := HNS.out.1; have := HZ.out; omega) HNS2.out.2
      clear hp HG hbW hlab
      by_cases h6 : kk = 6
      · subst h6
        go_wp2_with (first
          | (at_builtin; refine wpList_append_own_at _ rfl _ _ 40 rfl 0 9 i0 (.string ⟨#[]⟩) 1 16 Try.underlying40 HZI.out.1 HZI.out.2.1 HZI.out.2.2.1 HZI.out.2.2.2 rfl (by decide) _ (i + 1) _ rfl (World.ownsRow.alloc HO.out _) ⟨wr.heap.size + 1, 0, none⟩ 1 1 [.string vv] rfl rfl (by first | exact cell_one_new _ _ _ | (intro j u hj; have := cell_one_new (wr.alloc (.cells #[.int .i64 6, .int .i64 aa, .string vv] 32)) (.string vv) 9 j u hj; simpa using this)) (fun u hu => by simp at hu; subst hu; rfl) (by have := HZ.out; unfold maxLen; omega) (by have := HZ.out; omega) (Nat.zero_le _) ?_; intro v3 w4 hown3 hgrow3 hnil3 hat3; obtain ⟨p', c', hv3, ht4, hx4⟩ := HMORE.out _ _ _ hown3 hgrow3 hat3; subst hv3; have HT4 := Lib.hid ht4; obtain ⟨q0, q1, q2, q3⟩ := cells3 hx4; have HX4 := Lib.hid hx4; clear hown3 hgrow3 hnil3 hat3 ht4 hx4 HMORE)
          | (go_at_call 23; refine (sClone_any HT4.out.play.m).mono ?_; rintro e w5 ⟨nb, F', rfl, hm, ha, hb⟩; have HM5 := Lib.hid hm; have HA5 := Lib.hid ha; have HB5 := Lib.hid hb; clear hm ha hb)
          | (go_at_call 24; refine (sPop_any (HT4.out.play.m.on HB5.out)).mono ?_; rintro e w6 ⟨F6, rfl, hm, hc⟩; have HM6 := Lib.hid hm; have HC6 := Lib.hid hc; clear hm hc)
          | (go_at_call 25; refine (sPush_any HM6.out ⟨#[64]⟩).mono ?_; rintro e w7 ⟨F7, rfl, hm, hc⟩; have HC7 := Lib.hid (HC6.out.trans hc); have HT7 := Lib.hid (HT4.out.clone HM5.out HA5.out HB5.out HC7.out); have hx := (HC7.out.block wr.heap.size (Nat.lt_of_lt_of_le q3 HB5.out.size) (fun q => absurd (HBM.out _ q) (Nat.lt_irrefl _))).trans ((HB5.out.block _ q3).trans HX4.out); clear q0 q1 q2 q3; obtain ⟨q0, q1, q2, q3⟩ := cells3 hx; clear hm hc hx)
          | (go_at_call 26; refine (HTX.out _ _ _ _ _ _ (Told.mk HT7.out HLAB.out)).mono ?_; rintro e w8 ⟨rfl, hg⟩; have HG8 := Lib.hid hg; clear hg))
        exact ⟨⟨i + 1, _, _, _, _, by first | rfl | (congr 1), rfl, rfl, by omega, HNS2, HG8⟩, by simp [intOf]; omega⟩
      have h6' : ¬ (kk = 6) := h6
      go_wp2_with (first
        | (at_builtin; refine wpList_append_own_at _ rfl _ _ 40 rfl 0 9 i0 (.string ⟨#[]⟩) 1 16 Try.underlying40 HZI.out.1 HZI.out.2.1 HZI.out.2.2.1 HZI.out.2.2.2 rfl (by decide) _ (i + 1) _ rfl (World.ownsRow.alloc HO.out _) ⟨wr.heap.size + 1, 0, none⟩ 1 1 [.string vv] rfl rfl (by first | exact cell_one_new _ _ _ | (intro j u hj; have := cell_one_new (wr.alloc (.cells #[.int .i64 kk, .int .i64 aa, .string vv] 32)) (.string vv) 9 j u hj; simpa using this)) (fun u hu => by simp at hu; subst hu; rfl) (by have := HZ.out; unfold maxLen; omega) (by have := HZ.out; omega) (Nat.zero_le _) ?_; intro v3 w4 hown3 hgrow3 hnil3 hat3; obtain ⟨p', c', hv3, ht4, hx4⟩ := HMORE.out _ _ _ hown3 hgrow3 hat3; subst hv3; have HT4 := Lib.hid ht4; obtain ⟨q0, q1, q2, q3⟩ := cells3 hx4; clear hown3 hgrow3 hnil3 hat3 ht4 hx4 HMORE)
        | (go_at_call 26; refine (HTX.out _ _ _ _ _ _ (Told.mk HT4.out HLAB.out)).mono ?_; rintro e w8 ⟨rfl, hg⟩; have HG8 := Lib.hid hg; clear hg))
      exact ⟨⟨i + 1, _, _, _, _, by first | rfl | (congr 1), rfl, rfl, by omega, HNS2, HG8⟩, by simp [intOf]; omega⟩
    · have hlt' : ¬ (i : Int) < (len : Int) := by omega
      have HL : Hid (l.length ≤ 9223372036854775807) := by
        have := hp.play.r.fits
        rw [i64s_len] at this
        show l.length ≤ 9223372036854775807
        omega
      have HLN := Lib.hid (fun w F (h : Stk 55 9 w bm F (strs ls) r) => sLen_any h)
      have HAL := Lib.hid (fun w F (h : Stk 55 9 w bm F (strs ls) r) => sAll_any h)
      have HST : Hid (∀ (w : World) p c, RowAt 9 w p c (strs ls) → StrsAt w p l.length (fun i => ls.getD i ⟨#[]⟩)) := fun w p c h => by
        have := h.strs
        rw [hlab.len] at this
        exact this
      rw [hlab.len] at HLN HAL
      have HNM : Hid (∀ (w : World), RowAt 9 w p c (strs ns) → StrsAt w p (i + 1) (fun i => ns.getD i ⟨#[]⟩)) := fun w h => by
        have := h.strs
        rw [HNS.out.1] at this
        exact this
      have HEA : Hid (∀ j, j < l.length → ∃ k : Nat, k < i + 1 ∧ l.getD j 0 = (k : Int) ∧ ls.getD j ⟨#[]⟩ = ns.getD k ⟨#[]⟩) := fun j hj => by
        have := hlab.each j hj
        rw [HNS.out.1] at this
        exact this
      have HP := Lib.hid hp
      clear hp HG hlt hi hlab
      go_wp2_with (first
        | (go_at_call 17; refine (rAll_any HP.out.play.r).mono ?_; rintro e w4 ⟨p1, c1, rfl, hr, _, hb⟩; have HR1 := Lib.hid hr.ints; have HP1 := Lib.hid (HP.out.on hb); clear hr hb)
        | (go_at_call 27; refine (HLN.out _ _ HP1.out.play.m).mono ?_; rintro e w5 ⟨rfl, hw⟩; subst w5)
        | (go_at_call 19; refine (rLen_any HP1.out.play.r).mono ?_; rintro e w5 ⟨rfl, hw⟩; subst w5)
        | (go_at_call 10; refine (sRoom_any HP1.out.play.m).mono ?_; rintro e w5 ⟨rfl, hw⟩; subst w5)
        | (go_at_call 20; refine (rRoom_any HP1.out.play.r).mono ?_; rintro e w5 ⟨rfl, hw⟩; subst w5)
        | (go_at_call 29; refine (HAL.out _ _ HP1.out.play.m).mono ?_; rintro e w5 ⟨rfl, hr, hb⟩; have HR2 := Lib.hid (HST.out _ _ _ hr); have HR3 := Lib.hid (HR1.out.on hb); have HP2 := Lib.hid (HP1.out.on hb); clear hr hb HR1)
        | (go_at_call 28; refine (named_any _ _ _ HL.out HR2.out HR3.out (HNM.out _ HP2.out.row) HEA.out).mono ?_; rintro e w6 ⟨rfl, hw⟩; have HP3 := Lib.hid (HP2.out.same hw); clear hw))
      go_ret
      exact ⟨by simp, HP3.out.play.below⟩

set_option maxRecDepth 100000 in
theorem lifted (os : Os) (started : os.Started) (H : Type) (enc : TypeId × Value → H) :
    ReturnsInHanded {} Try.checked os 5 .any (Rows.stackTextsSpec.pre6 enc Try.prog Try.f5 Rows.stackTextsRow.domain false) (Rows.stackTextsSpec.post enc Try.prog Try.f5 false true false false) := by
  refine returnsInHanded_of_change_sized (C := Try.checked) ownK started (by kernel_rfl) Try.func5
    (ChangeSpec.witness6 (enc := enc) (C := Try.checked) false ⟨#[], #[.int .i64 0, .slice none 0 0], []⟩ 8 (by kernel_rfl) (by kernel_rfl) (by kernel_rfl) (by kernel_rfl)) ?_
  intro W base args ds gs before hval0 hW _ hsz0 _
  have hval : ∀ (j : Nat) t v, Try.f5.params[j]? = some t → args[j]? = some v → Value.okWide Try.prog W .any base t v := hval0
  have hW2 := hW
  obtain ⟨p, q, hA0, hV, rfl, _, _⟩ := hW
  have hA : DataW.TrodAll enc Try.prog W 0 (fun _ => true) true Try.f5.params.toList args.toList ds p := hA0
  have hsz : (DataW.weightsEach Try.prog (Try.f5.params.toList ++ Rows.stackTextsSpec.plain.varTypes Try.prog) (ds ++ gs)).all (· ≤ reachBytes) = true := hsz0
  clear hsz0
  rw [Try.params5] at hA hval hsz
  obtain ⟨v0, vs0, d0, ds0, p0, q0, hargs, rfl, rfl, h0, r0⟩ := trodAll_cons hA
  obtain ⟨v1, vs1, d1, ds1, p1, q1, rfl, rfl, rfl, h1, r1⟩ := trodAll_cons r0
  obtain ⟨rfl, rfl, rfl⟩ := trodAll_nil r1
  obtain rfl : args = #[v0, v1] := by cases args; simp_all
  obtain ⟨rfl, rfl⟩ := trodVars_none hV
  obtain ⟨a0, rfl, rfl, rfl, w0⟩ := open_int Try.underlying3 (hval 0 3 v0 rfl rfl) h0
  obtain ⟨o1, l1, c1, K1, A1, V1, rfl, fm1, fz1, fW1⟩ := open_sops (hval 1 28 v1 rfl rfl) h1
  have fz1 := fz1 hsz (j := 1) rfl rfl
  clear hA0 hval0
  simp only [List.append_nil] at hW2
  have hlt : ∀ x ∈ p1, x.block < W.heap.size := fun x hx => by simpa using hW2.lt x (by simpa using hx)
  refine (walk a0 o1 l1 c1 K1 A1 V1 w0 fm1 fz1 W fW1).mono fun e W2 ⟨he, hnx⟩ => ?_
  subst he
  exact ⟨_, rfl, _, _, _, [], _, [], hW2, trodAll_mk1 (shut_bool Try.underlying4 _), (trodAll_cons_mk (shut_int Try.underlying3 w0) (trodAll_cons_mk (Below.trod laidOut (by kernel_rfl) (of_decide_eq_true (by kernel_rfl)) h1 hnx (fun x hx => hlt x (by simpa using hx))) trodAll_mk0)), rfl, hnx.frame _, fun h => by cases h⟩

/-- the statement -/
theorem proved : Rows.StackTextsSaid :=
  OpenClaim.holds_of_wide 5 Try.f5 rfl rfl rfl rfl rfl rfl rfl ⟨rfl, rfl, rfl, rfl, rfl⟩ rfl rfl rfl rfl rfl (by kernel_rfl) Try.func5 (by kernel_rfl)
    (of_decide_eq_true (by kernel_rfl)) (by unfold Func.isWrapper; first | (rw [if_pos (by decide +kernel)]; kernel_rfl) | (rw [if_neg (by decide +kernel)]; exact ⟨rfl, rfl⟩))
    (fun os started H enc _ => lifted os started H enc)
end Go.Proofs.Yteeemjidjckimaa.stackTexts
