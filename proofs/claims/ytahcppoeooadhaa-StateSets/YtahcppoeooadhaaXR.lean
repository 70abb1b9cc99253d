import Derived.Test.YtahcppoeooadhaaXQ
namespace Go.Proofs.Ytahcppoeooadhaa
open Go.ChangeShapes Go.WideShapes Go.ChangeAt Go.RowKit Num
attribute [local go_sem] run_store_float frombits_run bits_run

set_option maxHeartbeats 4000000 in
set_option maxRecDepth 100000 in
theorem play_any {W w : World} {bm0 br : Nat} (h : Goes W w bm0 br) {ao : Option Addr} {len cap : Nat} {K C : Nat → Int} {X : Nat → Nat} {P : Nat → Option Addr} {Q : Nat → Nat} {L : Nat → List (Int × Nat)} (hops : ScrAt W ao len K C X P Q L) (hz : ∀ i, i < len → (L i).length * 16 ≤ reachBytes) (hm : len ≤ 9223372036854775807) : Calls Try.prog 12 #[.pointer (some ⟨bm0, 0, none⟩), .pointer (some ⟨br, 0, none⟩), .slice ao len cap] w fun e w' => e = .returned (.bool true) ∧ Below W.heap.size W w' := by
  have HG := Lib.hid h
  have HOPS := Lib.hid hops
  have HZ := Lib.hid hz
  clear h hops hz
  go_enter Try.func12, Try.ntmps12
  go_wp2
  go_loopw [0, 15] (fun vm vi wr => ∃ (i bm : Nat), vi = .int .i64 i ∧ vm = .pointer (some ⟨bm, 0, none⟩) ∧ i ≤ len ∧ Hid (Goes W wr bm br)) (fun _ vi _ => len - (intOf vi).toNat)
  case atStart => exact ⟨0, _, rfl, rfl, Nat.zero_le _, HG⟩
  case round =>
    clear HG
    obtain ⟨i, bm, rfl, rfl, hi, HG⟩ := hrel
    obtain ⟨Fm, Fr, l, hp⟩ := HG.out
    by_cases hlt : i < len
    · have hlt' : (i : Int) < (len : Int) := by omega
      obtain ⟨b0, off, hao, hbW, k0, k1, k2, k3, hpu⟩ := HOPS.out i hlt
      subst hao
      rw [← hp.below.cell (p := ⟨b0, off + i * 4, none⟩) hbW] at k0
      rw [← hp.below.cell (p := ⟨b0, off + i * 4 + 1, none⟩) hbW] at k1
      rw [← hp.below.cell (p := ⟨b0, off + i * 4 + 2, none⟩) hbW] at k2
      rw [← hp.below.cell (p := ⟨b0, off + i * 4 + 3, none⟩) hbW] at k3
      have hbw : b0 < wr.heap.size := Nat.lt_of_lt_of_le hbW hp.below.size
      have HSTEP : Hid (∀ w1 bm1, Goes W w1 bm1 br → Calls Try.prog 27 #[.pointer (some ⟨bm1, 0, none⟩), .pointer (some ⟨br, 0, none⟩), .agg #[.int .i64 (K i), .int .i64 (C i), .int .u64 (X i), .slice (P i) (L i).length (Q i)]] w1 fun e w' => e = .returned (.bool true) ∧ Goes W w' bm1 br) := fun w1 bm1 hg => step_any hg (K i) (C i) (X i) hpu (HZ.out i hlt)
      generalize K i = kk at k0 HSTEP
      generalize C i = cc at k1 HSTEP
      generalize X i = xx at k2 HSTEP
      clear hpu
      generalize P i = pa at k3 HSTEP
      generalize (L i).length = na at k3 HSTEP
      generalize Q i = qa at k3 HSTEP
      have HP := Lib.hid (hp.alloc (.cells #[.int .i64 kk, .int .i64 cc, .int .u64 xx, .slice pa na qa] 59))
      have HX := Lib.hid (heap_alloc_new wr (.cells #[.int .i64 kk, .int .i64 cc, .int .u64 xx, .slice pa na qa] 59))
      have HBL := Lib.hid hp.m.blw
      clear hp HG hbW
      by_cases h6 : kk = 6
      · subst h6
        go_wp2_with (first
          | (go_at_call 27; refine (HSTEP.out _ _ HG5.out).mono ?_; rintro e w6 ⟨rfl, hg⟩; have HG6 := Lib.hid hg; clear hg)
          | (go_at_call 26; refine (stir_any (HP.out.m.on HB4.out)).mono ?_; rintro e w5 ⟨rfl, hc⟩; have HG5 := Lib.hid (Goes.mk (HP.out.clone HM4.out HA4.out HB4.out hc)); have hx := (box_old hc HBL.out HB4.out).trans HX.out; obtain ⟨q0, q1, q2, q3, q4⟩ := cells4 hx; clear hc hx)
          | (go_at_call 25; refine (clone_any HP.out.m).mono ?_; rintro e w4 ⟨nb, F', rfl, hm, ha, hb⟩; have HM4 := Lib.hid hm; have HA4 := Lib.hid ha; have HB4 := Lib.hid hb; clear hm ha hb))
        exact ⟨⟨i + 1, _, by first | rfl | (congr 1), rfl, by omega, HG6⟩, by simp [intOf]; omega⟩
      by_cases h7 : kk = 7
      · subst h7
        go_wp2_with (first
          | (go_at_call 27; refine (HSTEP.out _ _ HG5.out).mono ?_; rintro e w6 ⟨rfl, hg⟩; have HG6 := Lib.hid hg; clear hg)
          | (go_at_call 26; refine (stir_any HM4.out).mono ?_; rintro e w5 ⟨rfl, hc⟩; have HG5 := Lib.hid (Goes.mk (HP.out.leave HA4.out HB4.out hc)); have hx := (box_new hc HA4.out HB4.out).trans HX.out; obtain ⟨q0, q1, q2, q3, q4⟩ := cells4 hx; clear hc hx)
          | (go_at_call 25; refine (clone_any HP.out.m).mono ?_; rintro e w4 ⟨nb, F', rfl, hm, ha, hb⟩; have HM4 := Lib.hid hm; have HA4 := Lib.hid ha; have HB4 := Lib.hid hb; clear hm ha hb))
        exact ⟨⟨i + 1, _, by first | rfl | (congr 1), rfl, by omega, HG6⟩, by simp [intOf]; omega⟩
      go_wp2_with (go_at_call 27; refine (HSTEP.out _ _ (Goes.mk HP.out)).mono ?_; rintro e w6 ⟨rfl, hg⟩; have HG6 := Lib.hid hg; clear hg)
      exact ⟨⟨i + 1, _, by first | rfl | (congr 1), rfl, by omega, HG6⟩, by simp [intOf]; omega⟩
    · have hlt' : ¬ (i : Int) < (len : Int) := by omega
      have HL : Hid (l.length ≤ 9223372036854775807) := by have := hp.m.many; show l.length ≤ 9223372036854775807; omega
      have HP := Lib.hid hp
      clear hp HG hlt hi
      go_wp2_with (first
        | (go_at_call 23; refine (refAll_any HP.out.r).mono ?_; rintro e w1 ⟨p, c, rfl, hr, _, hb⟩; have HR1 := Lib.hid hr; have HP1 := Lib.hid (HP.out.on hb); clear hr hb)
        | (go_at_call 9; refine (len_any HP1.out.m).mono ?_; rintro e w2 ⟨rfl, hw⟩; subst w2)
        | (go_at_call 28; refine (refLen_any HP1.out.r).mono ?_; rintro e w2 ⟨rfl, hw⟩; subst w2)
        | (go_at_call 16; refine (all_any HP1.out.m).mono ?_; rintro e w2 ⟨rfl, hr, hb⟩; have HR2 := Lib.hid hr; have HR3 := Lib.hid (HR1.out.on hb); have HP2 := Lib.hid (HP1.out.on hb); clear hr hb HR1)
        | (go_at_call 22; refine (exact_same rfl HL.out HR2.out HR3.out).mono ?_; rintro e w3 ⟨rfl, hw⟩; have HP3 := Lib.hid (HP2.out.same hw); clear hw))
      go_ret
      exact ⟨by simp, HP3.out.below⟩
theorem goes_new {W w1 w2 w3 : World} {b br : Nat} {F G l : List Nat} (hb : Below W.heap.size W w1) (hm : Cel 54 w2 b F l) (ha : Abv w1.heap.size F) (hb2 : Below w1.heap.size w1 w2) (hr : Cel 56 w3 br G l) (ha3 : Abv w2.heap.size G) (hb3 : Below w2.heap.size w2 w3) : Goes W w3 b br :=
  Goes.mk ⟨hm.on hb3, hr, below_chain (below_chain hb hb2) hb3, ha.mono hb.size, ha3.mono (Nat.le_trans hb.size hb2.size), (ha3.sep hm.blw).symm⟩
end Go.Proofs.Ytahcppoeooadhaa
