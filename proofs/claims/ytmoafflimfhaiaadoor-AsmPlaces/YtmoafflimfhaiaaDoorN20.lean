/- stage 19 (asm): AsmPlaces: the walk -/
import Derived.Test.YtmoafflimfhaiaaDoorN19
namespace Go.Proofs.YtmoafflimfhaiaaDoor.As
open Go.ChangeShapes Go.WideShapes Go.ChangeAt Go.RowKit Num Go.Maps
attribute [local go_sem] run_store_float frombits_run bits_run

section
set_option maxRecDepth 100000 in
set_option maxHeartbeats 2000000 in
theorem places_any (W : World) (t : Int) (ao : Option Addr) (c : List Ins) (cap : Nat) (hl : c.length ≤ 9223372036854775807) (hm : CodeAt W ao c) (hT : Shaped5 W) : Calls Tryd.prog 5 #[progV t ao c.length cap] W fun e w' => e = .returned (.bool true) ∧ Below W.heap.size W w' := by
  unfold progV
  obtain ⟨W1, hW1⟩ : ∃ W1, W1 = W.alloc (.cells #[.int .i64 t, .slice ao c.length cap] 37) := ⟨_, rfl⟩
  have hb1 : Below W.heap.size W W1 := by rw [hW1]; exact bl1 _ _
  have hbx : W1.heap[W.heap.size]? = some (.cells #[.int .i64 t, .slice ao c.length cap] 37 (0, 0)) := by rw [hW1]; exact heap_alloc_new _ _
  have hT1 := hT.on hb1
  have HB1 := Lib.hid hb1
  have HL := Lib.hid (live_any W1 hT1)
  have HN : Hid (∀ u, Below W1.heap.size W1 u → Calls Tryd.prog 7 #[.int .i64 t] u fun e w' => ∃ b, e = .returned (.pointer (some ⟨b, 0, none⟩)) ∧ Hid (On W1 w' b (new t))) := fun u k => new_on W1 u k t
  have HX : Hid (∀ u, Below W1.heap.size W1 u → u.cell? ⟨W.heap.size, 0, none⟩ = some (.int .i64 t) ∧ u.cell? ⟨W.heap.size, 1, none⟩ = some (.slice ao c.length cap) ∧ W.heap.size < u.heap.size) := fun u k => cells2_of ((k.block _ (lt_of_block hbx)).trans hbx)
  have HCK : Hid (∀ u, Below W1.heap.size W1 u → Calls Tryd.prog 11 #[.agg #[.int .i64 t, .slice ao c.length cap]] u fun e w' => e = .returned (.int .i64 (checkE t c)) ∧ Below u.heap.size u w') := fun u k => refCheck_any t cap (hm.on (hb1.trans (k.mono hb1.size))) hl
  have HM : Hid (∀ u, Below W1.heap.size W1 u → CodeAt u ao c) := fun u k => hm.on (hb1.trans (k.mono hb1.size))
  have HSA : Hid (∀ u p n c' , Below W1.heap.size W1 u → n = c.length → RowW 42 3 u p c' n (codC (c.map fixI)) → Calls Tryd.prog 18 #[.agg #[.int .i64 t, .slice ao c.length cap], .agg #[.int .i64 t, .slice p n c']] u fun e w' => e = .returned (.bool true) ∧ Below u.heap.size u w') := fun u p n c' k hn hr => by
    subst hn
    have := refSame5_any t t cap c' (hm.on (hb1.trans (k.mono hb1.size))) (RowW.code (by rw [List.length_map]) hr) hl (by rw [List.length_map]; exact hl)
    rw [List.length_map, sameB_fix2] at this
    exact this
  have HT1 := Lib.hid hT1
  clear hm hT hb1 hbx hT1
  go_enter Tryd.func5, Tryd.ntmps5
  go_upto_region 1 with fail
  rw [← hW1]
  obtain ⟨x0, x1, xl⟩ := HX.out W1 (Below.refl _ _)
  clear hW1
  rcases checkE_ways t c with hck | hck
  rotate_left
  · rw [hck] at HCK
    go_wp2_with (first
      | (go_at_call 6; refine HL.out.mono ?_; rintro e u0 ⟨rfl, q⟩; have K0 := Lib.hid q; obtain ⟨x0, x1, xl⟩ := HX.out _ q; clear q HL)
      | (go_at_call 7; refine (HN.out _ K0.out).mono ?_; rintro e u1 ⟨b, rfl, q⟩; have K1 := Lib.hid q.out; have KB : Hid (Below W1.heap.size W1 u1) := (by obtain ⟨_, _, _, z⟩ := q.out; exact z); obtain ⟨x0, x1, xl⟩ := HX.out _ KB.out; clear q HN)
      | (go_at_call 11; refine (HCK.out _ KB.out).mono ?_; rintro e u2 ⟨rfl, q⟩; have KC : Hid (Below W.heap.size W u2) := HB1.out.trans ((KB.out.trans (q.mono KB.out.size)).mono HB1.out.size); clear q HCK))
    go_ret
    exact ⟨rfl, KC.out⟩
  · have hcb : checkB t c = true := by
      unfold checkE at hck
      cases q : checkB t c
      · rw [q] at hck; cases hck
      · rfl
    have HMAY := Lib.hid (check_parts.1 hcb).2.2.2
    have hn1024 : c.length ≤ 1024 := (check_parts.1 hcb).2.2.1
    have HSE := Lib.hid (stP_end hck)
    rw [hck] at HCK
    have hmm := @run_makeMap Tryd.prog
    clear hck hcb
    go_upto_region 8 with (first
      | (go_at_call 6; refine HL.out.mono ?_; rintro e u0 ⟨rfl, q⟩; have K0 := Lib.hid q; obtain ⟨x0, x1, xl⟩ := HX.out _ q; clear q HL)
      | (go_at_call 7; refine (HN.out _ K0.out).mono ?_; rintro e u1 ⟨b, rfl, q⟩; have K1 := Lib.hid q.out; have KB : Hid (Below W1.heap.size W1 u1) := (by obtain ⟨_, _, _, z⟩ := q.out; exact z); obtain ⟨x0, x1, xl⟩ := HX.out _ KB.out; clear q HN)
      | (go_at_call 11; refine (HCK.out _ KB.out).mono ?_; rintro e u2 ⟨rfl, q⟩; have K2 := Lib.hid (K1.out.on q); clear q HCK))
    have K3 := Lib.hid (pl_new K2.out)
    obtain ⟨bm, hbm⟩ : ∃ bm, u2.heap.size = bm := ⟨_, rfl⟩
    rw [hbm] at K3 ⊢
    generalize u2.alloc (.map #[] 0) = u3 at K3 ⊢
    clear hbm hmm K2 K1 KB K0 x0 x1 xl
    obtain ⟨x0, x1, xl⟩ := HX.out _ K3.out.bel
    obtain ⟨n, hn⟩ : ∃ n, c.length = n := ⟨_, rfl⟩
    rw [hn] at x1 hn1024
    have HNE := Lib.hid hn
    have hnI : (n : Int) ≤ 9223372036854775807 := by omega
    clear hn hl
    go_wp2_with fail
    go_loopw [30] (fun vi wr => ∃ (i : Nat), vi = .int .i64 i ∧ i ≤ n ∧ Hid (Pl W1 wr b bm (lbS t (kS c i)) (kS c i))) (fun vi _ => n - (intOf vi).toNat)
    case atStart => exact ⟨0, rfl, Nat.zero_le _, K3.out⟩
    case round =>
      obtain ⟨i, rfl, hi, HI⟩ := hrel
      clear K3 x0 x1 xl
      by_cases hlt : i < n
      · have hltI : (i : Int) < (n : Int) := by omega
        obtain ⟨g, off, rfl, hg, c0, c1, c2⟩ := HM.out wr HI.out.bel i (by rw [HNE.out]; exact hlt)
        have hmay := HMAY.out i (by rw [HNE.out]; exact hlt)
        obtain ⟨K', hK'⟩ : ∃ K', K' = kS c (i + 1) := ⟨_, rfl⟩
        have hks : K' = addK (kS c i) (ci c i) := hK'
        have hkl : (kS c i).length ≤ 1024 := Nat.le_trans (kS_len c i) (by omega)
        have HST : Hid (∀ K2, K' = K2 → ∀ u, Pl W1 u b bm (lbS t K2) K2 → Pl W1 u b bm (lbS t (kS c (i + 1))) (kS c (i + 1))) := by
          rintro K2 rfl u h; rw [← hK']; exact h
        generalize kS c i = K at hks hkl HI
        generalize ci c i = x at c0 c1 c2 hmay hks
        obtain ⟨op, y, z⟩ := x
        simp only at c0 c1 c2
        have HI1 : Hid (Pl W1 (wr.alloc (.cells #[.int .i64 op, .int .i64 y, .float .f64 z] 42)) b bm (lbS t K) K) := HI.out.on (bl1 wr _)
        cases hj : jmp ⟨op, y, z⟩
        · have e : K' = K := by rw [hks]; unfold addK; rw [hj]; rfl
          unfold jmp at hj
          rw [Bool.and_eq_false_iff, decide_eq_false_iff_not, decide_eq_false_iff_not] at hj
          simp only at hj
          have HZ := Lib.hid (HST.out _ e)
          clear hmay hks hK' HI HST hkl
          by_cases h1 : 11 ≤ op
          · have h2 : ¬ op ≤ 14 := by omega
            clear hj
            go_wp2_with fail
            exact ⟨⟨i + 1, by first | rfl | (congr 1), by omega, HZ.out _ HI1.out⟩, by simp [intOf]; omega⟩
          · clear hj
            go_wp2_with fail
            exact ⟨⟨i + 1, by first | rfl | (congr 1), by omega, HZ.out _ HI1.out⟩, by simp [intOf]; omega⟩
        · obtain ⟨hy0, hy1⟩ := may_jmp hmay hj
          simp only at hy0 hy1
          have hwy : Wf y := wf_int hy0 (by rw [HNE.out] at hy1; omega)
          have hlk := HI1.out.map.look hwy
          have hjo : 11 ≤ op ∧ op ≤ 14 := by unfold jmp at hj; rw [Bool.and_eq_true, decide_eq_true_eq, decide_eq_true_eq] at hj; exact hj
          obtain ⟨hj1, hj2⟩ := hjo
          have hbl := HI1.out.map.lt
          by_cases hin : y ∈ K
          · have e : K' = K := by rw [hks]; unfold addK; rw [hj]; simp [hin]
            have HZ := Lib.hid (HST.out _ e)
            rw [decide_eq_true hin] at hlk
            clear hmay hks hK' HI HST hkl hj hin hy0 hy1 hwy
            go_wp2_with fail
            exact ⟨⟨i + 1, by first | rfl | (congr 1), by omega, HZ.out _ HI1.out⟩, by simp [intOf]; omega⟩
          · have e : K' = K ++ [y] := by rw [hks]; unfold addK; rw [hj]; simp [hin]
            have HZ := Lib.hid (HST.out _ e)
            rw [decide_eq_false hin] at hlk
            obtain ⟨el, ev⟩ := lbS_lab t K y
            have HLB : Hid (Calls Tryd.prog 12 #[.pointer (some ⟨b, 0, none⟩)] (wr.alloc (.cells #[.int .i64 op, .int .i64 y, .float .f64 z] 42)).drew fun e w' => e = .returned (.int .i64 (nxV K)) ∧ w'.cell? ⟨wr.heap.size, 1, none⟩ = some (.int .i64 y) ∧ ∃ w4, (Instr.mapUpdate 40 (.map (some bm)) (.int .i64 y) (.int .i64 (nxV K))).run Tryd.prog w' = .ok () w4 ∧ Hid (Pl W1 w4 b bm (lbS t (K ++ [y])) (K ++ [y]))) := by
              obtain ⟨F, h1, h2, h3, h4, h5, h6⟩ := HI.out
              have kx : Below wr.heap.size wr (wr.alloc (.cells #[.int .i64 op, .int .i64 y, .float .f64 z] 42)).drew := (bl1 wr _).trans ((Same.drew _).below _)
              refine (label_any (h1.on kx)).mono ?_
              rintro e w' ⟨F', rfl, q, tt⟩
              rw [ev]
              rw [el] at q
              refine ⟨rfl, ?_, Pl.lay (pl_turn h2 (h3.trans (kx.mono h3.size)) h4 h5 (h6.keep (kx.block _ h6.lt)) q tt) hwy hin (by unfold maxLen; omega)⟩
              have hb : (wr.alloc (.cells #[.int .i64 op, .int .i64 y, .float .f64 z] 42)).drew.heap[wr.heap.size]? = some (.cells #[.int .i64 op, .int .i64 y, .float .f64 z] 42 (0, 0)) := heap_alloc_new wr _
              exact (cell_of_row _ _ 1 _ _ _ ((tt.block _ (lt_of_block hb) fun z => absurd (h1.blw _ z) (Nat.lt_irrefl _)).trans hb)).trans rfl
            have xb : (wr.alloc (.cells #[.int .i64 op, .int .i64 y, .float .f64 z] 42)).cell? ⟨wr.heap.size, 1, none⟩ = some (.int .i64 y) := (cell_of_row _ _ 1 _ _ _ (heap_alloc_new wr _)).trans rfl
            have xb0 : (wr.alloc (.cells #[.int .i64 op, .int .i64 y, .float .f64 z] 42)).cell? ⟨wr.heap.size, 0, none⟩ = some (.int .i64 op) := (cell_of_row _ _ 0 _ _ _ (heap_alloc_new wr _)).trans rfl
            clear hmay hks hK' HI HST hkl hj hin hy0 hy1 hwy el ev
            go_upto_region 14 with fail
            refine wp_region_seqE (fun u => u.cell? ⟨wr.heap.size, 1, none⟩ = some (.int .i64 y)) ((0, true) :: (1, true) :: (2, true) :: (3, true) :: (4, false) :: (5, false) :: []) follows (by kernel_rfl) (fun _ _ _ _ _ h => h) xb ?_
            (repeat (refine wpSeqE_take (v := ?_) rfl (by rfl) (fun wq hSq => ?_) ?_; rotate_left; (focus ((try dsimp only at hSq); go_simp; try with_reducible rfl)); simp only [Act.put, List.setIfInBounds_toArray, List.set_cons_zero, List.set_cons_succ]))
            (refine wpSeqE_do rfl (by rfl) (fun KK hK => ?_); go_simp)
            refine HLB.out.mono ?_
            rintro e w' ⟨rfl, hc, w4, hrun, q⟩
            have HQ := Lib.hid q.out
            refine hK.out _ _ (fun _ => hc) ?_
            (clear hK KK; try simp only [Act.put, List.setIfInBounds_toArray, List.set_cons_zero, List.set_cons_succ])
            (refine wpSeqE_do rfl (by rfl) (fun KK hK => ?_); go_simp)
            refine hK.out _ _ (fun hn => absurd rfl hn) ?_
            (clear hK KK; try simp only [Act.put])
            refine wpSeqE_nil ?_
            clear q HLB hrun hc xb xb0
            go_wp2_with fail
            exact ⟨⟨i + 1, by first | rfl | (congr 1), by omega, HZ.out _ HQ.out⟩, by simp [intOf]; omega⟩
      · have hltI : ¬ (i : Int) < (n : Int) := by omega
        obtain rfl : i = n := by omega
        have hln := HI.out.map.len
        by_cases hbig : 256 < (kS c i).length
        · have hbigI : (256 : Int) < ((kS c i).length : Nat) := by omega
          have HZ : Hid (Below W.heap.size W wr) := HB1.out.trans (HI.out.bel.mono HB1.out.size)
          clear HI
          go_wp2_with fail
          go_ret
          exact ⟨rfl, HZ.out⟩
        · have hbigI : ¬ (256 : Int) < ((kS c i).length : Nat) := by omega
          obtain ⟨x0, x1, xl⟩ := HX.out _ HI.out.bel
          rw [HNE.out] at x1
          go_upto_region 18 with fail
          have hK : kS c i = kS c c.length := by rw [HNE.out]
          have HP0 : Hid (Pl W1 wr b bm (stP t c (kS c c.length) 0) (kS c c.length)) := by
            have := HI.out
            rw [hK] at this hbig
            have e : lbS t (kS c c.length) = stP t c (kS c c.length) 0 := by
              unfold lbS
              by_cases q : (kS c c.length).length < 256
              · rw [if_pos q]; rfl
              · rw [if_neg q, show 256 = (kS c c.length).length by omega]; rfl
            rw [e] at this
            exact this
          have HK256 : Hid ((kS c c.length).length ≤ 256) := by
            show _ ≤ _
            rw [← hK]
            omega
          have HKM : Hid (∀ k, k < i → jmp (ci c k) = true → (ci c k).n ∈ kS c c.length) := fun k hk hj => by rw [← hK]; exact kS_mem c i k hk hj
          clear hK hln hbig hbigI HI
          generalize kS c c.length = K at HP0 HK256 HKM HSE
          go_wp2_with fail
          go_loopw [64] (fun vi wr => ∃ (j : Nat), vi = .int .i64 j ∧ j ≤ i ∧ Hid (Pl W1 wr b bm (stP t c K j) K)) (fun vi _ => i - (intOf vi).toNat)
          case atStart => exact ⟨0, rfl, Nat.zero_le _, HP0.out⟩
          case round =>
            obtain ⟨j, rfl, hj, HJ⟩ := hrel
            clear HP0 x0 x1 xl
            by_cases hjn : j < i
            · have hjnI : (j : Int) < (i : Int) := by omega
              obtain ⟨g, off, rfl, hg, c0, c1, c2⟩ := HM.out wr HJ.out.bel j (by rw [HNE.out]; exact hjn)
              have hmay := HMAY.out j (by rw [HNE.out]; exact hjn)
              have hkm := HKM.out j hjn
              have hsl := (stP_len (t := t) (c := c) (K := K) j).1
              have hsm := (stP_look (t := t) (c := c) (K := K) j).2.2.2
              have hst : stP t c K (j + 1) = (markP K (stP t c K j) j).add (rawI (ci c j)) (toI K (ci c j)) := rfl
              have hml := (markP_code (K := K) (stP t c K j) j).1
              obtain ⟨S', hS'⟩ : ∃ S', S' = stP t c K (j + 1) := ⟨_, rfl⟩
              have HEQ := Lib.hid hS'
              rw [← hS'] at hst
              generalize ci c j = x at c0 c1 c2 hmay hkm hst
              obtain ⟨op, y, z⟩ := x
              simp only at c0 c1 c2
              have hwj : Wf (j : Nat) := wf_nat (by omega)
              have HX0 : Hid (Plx W1 (wr.alloc (.cells #[.int .i64 op, .int .i64 y, .float .f64 z] 42)) b bm (stP t c K j) K wr.heap.size (.cells #[.int .i64 op, .int .i64 y, .float .f64 z] 42 (0, 0))) := plx_new HJ.out _ _
              generalize hs : stP t c K j = s at HX0 hst hsl hsm hml
              have hlk := HX0.out.pl.map.look hwj
              have hbm := HX0.out.pl.map.lt
              have hlen1 : (markP K s j).code.length < lim := by rw [hml, hsl]; unfold lim; omega
              have HMKX : Hid ((j : Int) ∈ K → Calls Tryd.prog 13 #[.pointer (some ⟨b, 0, none⟩), .int .i64 (ix K j : Nat)] (wr.alloc (.cells #[.int .i64 op, .int .i64 y, .float .f64 z] 42)) fun e w' => e = .returned (.tuple #[]) ∧ Hid (Plx W1 w' b bm (markP K s j) K wr.heap.size (.cells #[.int .i64 op, .int .i64 y, .float .f64 z] 42 (0, 0)))) := fun h => by
                have e : markP K s j = s.mark (ix K j : Nat) := by unfold markP; rw [if_pos h]
                rw [e]
                have := ix_lt h
                have := HK256.out
                exact HX0.out.mark (wf_nat (by omega)) (by unfold maxLen; omega)
              have HNOX : Hid (¬ (j : Int) ∈ K → Plx W1 (wr.alloc (.cells #[.int .i64 op, .int .i64 y, .float .f64 z] 42)) b bm (markP K s j) K wr.heap.size (.cells #[.int .i64 op, .int .i64 y, .float .f64 z] 42 (0, 0))) := fun h => by
                have e : markP K s j = s := by unfold markP; rw [if_neg h]
                rw [e]
                exact HX0.out
              have HC3 : Hid (∀ u, Plx W1 u b bm (markP K s j) K wr.heap.size (.cells #[.int .i64 op, .int .i64 y, .float .f64 z] 42 (0, 0)) → (u.cell? ⟨wr.heap.size, 0, none⟩ = some (.int .i64 op) ∧ u.cell? ⟨wr.heap.size, 1, none⟩ = some (.int .i64 y) ∧ u.cell? ⟨wr.heap.size, 2, none⟩ = some (.float .f64 z) ∧ wr.heap.size < u.heap.size)) := fun u h => cells3_of h.at
              have HK := Lib.hid (fun h => jv_in (K := K) (c := (j : Int)) h HK256.out)
              by_cases h1 : op = 1
              · have HF : Hid (∀ u, Pl W1 u b bm (markP K s j) K → Calls Tryd.prog 14 #[.pointer (some ⟨b, 0, none⟩), .float .f64 z] u fun e w' => e = .returned (.tuple #[]) ∧ Hid (Pl W1 w' b bm S' K)) := fun u h => by
                  have e : S' = (markP K s j).add ⟨1, 0, z⟩ none := by rw [hst]; unfold rawI toI; rw [if_pos h1, if_pos h1]
                  rw [e]
                  exact h.push z hlen1
                subst h1
                clear hmay hkm hst hsl hsm hml hlen1 hS' hs hwj HJ hg
                by_cases hin : (j : Int) ∈ K
                · rw [HK.out hin, decide_eq_true hin] at hlk
                  have HMK2 := Lib.hid (HMKX.out hin)
                  clear HMKX HNOX HK hin HX0
                  go_wp2_with (first
                    | (go_at_call 13; refine HMK2.out.mono ?_; rintro e w2 ⟨rfl, q⟩; have HY := Lib.hid q.out; obtain ⟨y0, y1, y2, yl⟩ := HC3.out _ q.out; clear q HMK2)
                    | (go_at_call 14; refine (HF.out _ HY.out.pl).mono ?_; rintro e w3 ⟨rfl, q⟩; have HQ := Lib.hid q.out; clear q HF))
                  exact ⟨⟨j + 1, by first | rfl | (congr 1), by omega, by rw [← HEQ.out]; exact HQ.out⟩, by simp [intOf]; omega⟩
                · rw [decide_eq_false hin] at hlk
                  have HY := Lib.hid (HNOX.out hin)
                  clear HMKX HNOX HK hin HX0
                  go_wp2_with (go_at_call 14; refine (HF.out _ HY.out.pl).mono ?_; rintro e w3 ⟨rfl, q⟩; have HQ := Lib.hid q.out; clear q HF)
                  exact ⟨⟨j + 1, by first | rfl | (congr 1), by omega, by rw [← HEQ.out]; exact HQ.out⟩, by simp [intOf]; omega⟩
              · have h1' : (op == 1) = false := by simpa using h1
                cases hjm : jmp ⟨op, y, z⟩
                · have HF : Hid (∀ u, Pl W1 u b bm (markP K s j) K → Calls Tryd.prog 16 #[.pointer (some ⟨b, 0, none⟩), .int .i64 op, .int .i64 y] u fun e w' => e = .returned (.tuple #[]) ∧ Hid (Pl W1 w' b bm S' K)) := fun u h => by
                    have e : S' = (markP K s j).add ⟨op, y, 0⟩ none := by rw [hst]; unfold rawI toI; rw [if_neg h1, if_neg h1, hjm]; rfl
                    rw [e]
                    exact h.add op y hlen1
                  unfold jmp at hjm
                  rw [Bool.and_eq_false_iff, decide_eq_false_iff_not, decide_eq_false_iff_not] at hjm
                  simp only at hjm
                  clear hmay hkm hst hsl hsm hml hlen1 hS' hs hwj HJ hg
                  by_cases ha : 11 ≤ op
                  · have hb : ¬ op ≤ 14 := by omega
                    clear hjm
                    by_cases hin : (j : Int) ∈ K
                    · rw [HK.out hin, decide_eq_true hin] at hlk
                      have HMK2 := Lib.hid (HMKX.out hin)
                      clear HMKX HNOX HK hin HX0
                      go_wp2_with (first
                        | (go_at_call 13; refine HMK2.out.mono ?_; rintro e w2 ⟨rfl, q⟩; have HY := Lib.hid q.out; obtain ⟨y0, y1, y2, yl⟩ := HC3.out _ q.out; clear q HMK2)
                        | (go_at_call 16; refine (HF.out _ HY.out.pl).mono ?_; rintro e w3 ⟨rfl, q⟩; have HQ := Lib.hid q.out; clear q HF))
                      exact ⟨⟨j + 1, by first | rfl | (congr 1), by omega, by rw [← HEQ.out]; exact HQ.out⟩, by simp [intOf]; omega⟩
                    · rw [decide_eq_false hin] at hlk
                      have HY := Lib.hid (HNOX.out hin)
                      clear HMKX HNOX HK hin HX0
                      go_wp2_with (go_at_call 16; refine (HF.out _ HY.out.pl).mono ?_; rintro e w3 ⟨rfl, q⟩; have HQ := Lib.hid q.out; clear q HF)
                      exact ⟨⟨j + 1, by first | rfl | (congr 1), by omega, by rw [← HEQ.out]; exact HQ.out⟩, by simp [intOf]; omega⟩
                  · clear hjm
                    by_cases hin : (j : Int) ∈ K
                    · rw [HK.out hin, decide_eq_true hin] at hlk
                      have HMK2 := Lib.hid (HMKX.out hin)
                      clear HMKX HNOX HK hin HX0
                      go_wp2_with (first
                        | (go_at_call 13; refine HMK2.out.mono ?_; rintro e w2 ⟨rfl, q⟩; have HY := Lib.hid q.out; obtain ⟨y0, y1, y2, yl⟩ := HC3.out _ q.out; clear q HMK2)
                        | (go_at_call 16; refine (HF.out _ HY.out.pl).mono ?_; rintro e w3 ⟨rfl, q⟩; have HQ := Lib.hid q.out; clear q HF))
                      exact ⟨⟨j + 1, by first | rfl | (congr 1), by omega, by rw [← HEQ.out]; exact HQ.out⟩, by simp [intOf]; omega⟩
                    · rw [decide_eq_false hin] at hlk
                      have HY := Lib.hid (HNOX.out hin)
                      clear HMKX HNOX HK hin HX0
                      go_wp2_with (go_at_call 16; refine (HF.out _ HY.out.pl).mono ?_; rintro e w3 ⟨rfl, q⟩; have HQ := Lib.hid q.out; clear q HF)
                      exact ⟨⟨j + 1, by first | rfl | (congr 1), by omega, by rw [← HEQ.out]; exact HQ.out⟩, by simp [intOf]; omega⟩
                · have hyk := hkm hjm
                  simp only at hyk
                  obtain ⟨hy0, hy1⟩ := may_jmp hmay hjm
                  simp only at hy0 hy1
                  have hwy : Wf y := wf_int hy0 (by rw [HNE.out] at hy1; omega)
                  have HF : Hid (∀ u, Pl W1 u b bm (markP K s j) K → Calls Tryd.prog 15 #[.pointer (some ⟨b, 0, none⟩), .int .i64 op, .int .i64 (ix K y : Nat)] u fun e w' => e = .returned (.tuple #[]) ∧ Hid (Pl W1 w' b bm S' K)) := fun u h => by
                    have e : S' = (markP K s j).add ⟨op, 0, 0⟩ (some (ix K y : Nat)) := by rw [hst]; unfold rawI toI; rw [if_neg h1, if_neg h1, hjm]; rfl
                    rw [e]
                    have := ix_lt hyk
                    have := HK256.out
                    exact h.to op _ (wf_nat (by omega)) hlen1
                  have HL1 : Hid (∀ u, Pl W1 u b bm (markP K s j) K → (Instr.lookup 40 (.map (some bm)) (.int .i64 y) false).run Tryd.prog u = .ok (.int .i64 (ix K y : Nat)) u) := fun u h => by
                    rw [h.map.look1 hwy, jv_in hyk HK256.out]
                  unfold jmp at hjm
                  rw [Bool.and_eq_true, decide_eq_true_eq, decide_eq_true_eq] at hjm
                  obtain ⟨ha, hb⟩ := hjm
                  simp only at ha hb
                  clear hmay hkm hst hsl hsm hml hlen1 hS' hs hwj HJ hg hyk hy0 hy1 hwy
                  by_cases hin : (j : Int) ∈ K
                  · rw [HK.out hin, decide_eq_true hin] at hlk
                    have HMK2 := Lib.hid (HMKX.out hin)
                    clear HMKX HNOX HK hin HX0
                    go_wp2_with (first
                      | (go_at_call 13; refine HMK2.out.mono ?_; rintro e w2 ⟨rfl, q⟩; have HY := Lib.hid q.out; obtain ⟨y0, y1, y2, yl⟩ := HC3.out _ q.out; have hlk1 := HL1.out _ HY.out.pl; clear q HMK2)
                      | (go_at_call 15; refine (HF.out _ HY.out.pl).mono ?_; rintro e w3 ⟨rfl, q⟩; have HQ := Lib.hid q.out; clear q HF))
                    exact ⟨⟨j + 1, by first | rfl | (congr 1), by omega, by rw [← HEQ.out]; exact HQ.out⟩, by simp [intOf]; omega⟩
                  · rw [decide_eq_false hin] at hlk
                    have HY := Lib.hid (HNOX.out hin)
                    have hlk1 := HL1.out _ HY.out.pl
                    clear HMKX HNOX HK hin HX0
                    go_wp2_with (go_at_call 15; refine (HF.out _ HY.out.pl).mono ?_; rintro e w3 ⟨rfl, q⟩; have HQ := Lib.hid q.out; clear q HF)
                    exact ⟨⟨j + 1, by first | rfl | (congr 1), by omega, by rw [← HEQ.out]; exact HQ.out⟩, by simp [intOf]; omega⟩
            · have hjnI : ¬ (j : Int) < (i : Int) := by omega
              obtain rfl : j = i := by omega
              rw [HNE.out] at HSE
              have hwf := stP_wf (t := t) (c := c) (K := K) (Nat.le_trans HK256.out (by omega)) j
              have hcl := (stP_len (t := t) (c := c) (K := K) j).1
              have htg := (stP_len (t := t) (c := c) (K := K) j).2.2.2
              have HP : Hid (Calls Tryd.prog 17 #[.pointer (some ⟨b, 0, none⟩)] wr fun e w' => ∃ p c', e = .returned (.tuple #[.agg #[.int .i64 t, .slice p j c'], .int .i64 0]) ∧ Hid (Below W1.heap.size W1 w' ∧ RowW 42 3 w' p c' j (codC (c.map fixI)))) := by
                refine (HJ.out.ok.prog HT1.out (by rw [hcl]; unfold lim; omega) hwf).mono ?_
                rintro e w' ⟨t', p, m, c', rfl, q⟩
                rw [HSE.out.2]
                obtain ⟨⟨_, _, q1⟩, q2⟩ := q.out
                rcases q1 with ⟨_, rfl, rfl, hr⟩ | ⟨zz, _⟩
                · rw [HSE.out.1, hcl] at hr
                  rw [htg, hcl]
                  obtain ⟨_, _, _, q3⟩ := q2
                  exact ⟨p, c', rfl, q3, hr⟩
                · exact absurd HSE.out.2 zz
              have HQX : Hid (∀ u p c', Below W1.heap.size W1 u → RowW 42 3 u p c' j (codC (c.map fixI)) → Calls Tryd.prog 18 #[.agg #[.int .i64 t, .slice (ao) j cap], .agg #[.int .i64 t, .slice p j c']] (u.alloc (.cells #[.int .i64 t, .slice p j c'] 37)) fun e w' => e = .returned (.bool true) ∧ Below W.heap.size W w') := fun u p c' k r => by
                have k2 : Below W1.heap.size W1 (u.alloc (.cells #[.int .i64 t, .slice p j c'] 37)) := k.alloc k.size _
                have := HSA.out _ p j c' k2 HNE.out.symm (r.keep (kept_below (bl1 u _) r.blw))
                rw [HNE.out] at this
                refine this.mono ?_
                rintro e w' ⟨rfl, q⟩
                exact ⟨rfl, HB1.out.trans ((k2.trans (q.mono k2.size)).mono HB1.out.size)⟩
              have HXX : Hid (∀ u, Below W1.heap.size W1 u → u.cell? ⟨W.heap.size, 0, none⟩ = some (.int .i64 t) ∧ u.cell? ⟨W.heap.size, 1, none⟩ = some (.slice ao j cap) ∧ W.heap.size < u.heap.size) := fun u k => by
                have := HX.out u k
                rw [HNE.out] at this
                exact this
              clear hwf hcl htg HJ HKM HMAY HSE HK256 HM HSA HX
              go_wp2_with (first
                | (go_at_call 17; refine HP.out.mono ?_; rintro e u5 ⟨p, c', rfl, q⟩; have KQ := Lib.hid q.out; obtain ⟨y0, y1, yl⟩ := HXX.out _ q.out.1; clear q HP)
                | (go_at_call 18; refine (HQX.out _ _ _ KQ.out.1 KQ.out.2).mono ?_; rintro e u6 ⟨rfl, q⟩; have KE := Lib.hid q; clear q HQX))
              go_ret
              exact ⟨rfl, KE.out⟩
end
end Go.Proofs.YtmoafflimfhaiaaDoor.As
