import Derived.Test.YtjicnjncdmknmaaGreatDoorRQ
namespace Go.Proofs.YtjicnjncdmknmaaGreatDoor
open Go.ChangeShapes Go.WideShapes Go.ChangeAt Go.RowKit Num
attribute [local go_sem] run_store_float

/-! both machines to the end and behind it -/
theorem inv_next {f : List Nat} {g : Nat} {m : Mac} (hI : Inv m) (hf : ∀ g, fedV f g < 18446744073709551616) : Inv (nextM f g m) := by
  unfold nextM
  split
  · exact inv_give (inv_step hI) (hf g)
  · exact inv_step hI
theorem next_le (g : Nat) (m : Mac) : nextG g m ≤ g + 1 := by
  unfold nextG
  split <;> omega
set_option maxHeartbeats 1000000 in
set_option maxRecDepth 100000 in
theorem lawRuns_any {W : World} {a b c e t : Int} {ao : Option Addr} {cs : List Ins} {n cap : Nat} {po : Option Addr} {l : List Nat} {k co : Nat} {pf : Option Addr} {f : List Nat} {kf cf : Nat} (hT : Shaped5 W) (hn : cs.length = n) (hk : l.length = k) (hkf : f.length = kf) (hC : CodeAt W ao cs) (hx : ∀ i ∈ cs, i.x < 18446744073709551616) (hL : FlAt W po l) (hl : ∀ x ∈ l, x < 18446744073709551616) (hF : FlAt W pf f) (hf : ∀ x ∈ f, x < 18446744073709551616) (hnb : (n + 2) * 24 ≤ 281474976710656) (hkb : (k + 2) * 8 ≤ 281474976710656) : Calls Tryz.prog 3 #[cfgV a b c e, .agg #[.int .i64 t, .slice ao n cap], .slice po k co, .slice pf kf cf] W fun r W2 => r = .returned (.bool true) ∧ Below W.heap.size W W2 := by
  have HLV := Lib.hid (live_any (newW W a b c e t ao n cap) (hT.on (newW_below W a b c e t ao n cap)))
  cases hmay : (Md.cfgB a b c e && decide (k ≤ 8))
  · have HN : Hid (∀ u, Below W.heap.size W u → Calls Tryz.prog 10 #[cfgV a b c e, .agg #[.int .i64 t, .slice ao n cap], .slice po k co] u fun r w' => r = .returned (.tuple #[.pointer none, .bool true]) ∧ Below u.heap.size u w') := fun u hb => begun_none hn hk (hC.on hb) (hL.on hb) hnb hkb hmay
    clear hT hC hx hL hl hF hf hnb hkb hmay hn hk hkf
    go_enter Tryz.func3, Tryz.ntmps3
    go_wp2_with (first
      | (go_at_call 10; refine (HN.out _ (newW_boxes B0.out).2.2).mono ?_; rintro r u1 ⟨rfl, q⟩; have B1 := Lib.hid (B0.out.trans (q.mono B0.out.size)); clear q)
      | (go_at_call 9; refine HLV.out.mono ?_; rintro r u0 ⟨rfl, q⟩; obtain ⟨⟨x0, x1, x2, x3⟩, ⟨y0, y1, y2⟩, z0⟩ := newW_boxes q; obtain ⟨v0, v1, v2, v3, v4⟩ := newW_boxes4 q; have B0 := Lib.hid q; clear q z0))
    go_ret
    exact ⟨rfl, (newW_boxes B1.out).2.2⟩
  · have hm : Md.cfgB a b c e = true ∧ k ≤ 8 := by simpa using hmay
    have hcf := Md.cfgB_iff.1 hm.1
    have HN : Hid (∀ u, Below W.heap.size W u → Calls Tryz.prog 10 #[cfgV a b c e, .agg #[.int .i64 t, .slice ao n cap], .slice po k co] u fun r w' => ∃ bp bm br bl K KR, r = .returned (.tuple #[.pointer (some ⟨bp, 0, none⟩), .bool true]) ∧ Pr u w' bp bm br bl K KR 0 (newM a c e t cs l) cs) := fun u hb => begun_some hn hk (hT.on hb) (hC.on hb) (hL.on hb) hnb hkb hm.1 hm.2
    have HI : Hid (Inv (newM a c e t cs l)) := inv_new hm.1 (fun j hj => hx _ (List.mem_of_getElem? (ci_lt hj))) hl
    have HFL := Lib.hid (fedV_lt hf)
    have HST : Hid (∀ {u wr : World} {bp bm br bl : Nat} {K KR : List Nat} {g : Nat} {m : Mac}, Below W.heap.size W u → Pr u wr bp bm br bl K KR g m cs → Inv m → g ≤ 4096 → Calls Tryz.prog 11 #[.pointer (some ⟨bp, 0, none⟩), .slice pf kf cf] wr fun e v => e = .returned (.bool true) ∧ Pr u v bp bm br bl K KR (nextG g m) (nextM f g m) cs) := fun hb h hI hg => pstep_any h hI hkf (hF.on hb) hg
    have hc3 : 1 ≤ c ∧ c ≤ 1024 := hcf.2.2.1
    have ew1 : IntKind.i64.wrap (c + 3) = c + 3 := by rw [IntKind.wrap_i64]; omega
    have ew3 : wrap64 (c + 3) = c + 3 := IntWalk.wrap64_in _ (by omega)
    clear hT hC hx hL hl hF hf hnb hkb hmay hn hk hkf hm hcf
    generalize hm0 : newM a c e t cs l = m0 at HN HI
    clear hm0
    go_enter Tryz.func3, Tryz.ntmps3
    go_wp2_with (first
      | (go_at_call 10; refine (HN.out _ (newW_boxes B0.out).2.2).mono ?_; rintro r u1 ⟨bp, bm, br, bl, K, KR, rfl, q⟩; have P1 := Lib.hid q; have q1 := B0.out.trans (q.duo.bel.mono B0.out.size); obtain ⟨v0, v1, v2, v3, v4⟩ := newW_boxes4 q1; clear q q1)
      | (go_at_call 9; refine HLV.out.mono ?_; rintro r u0 ⟨rfl, q⟩; obtain ⟨⟨x0, x1, x2, x3⟩, ⟨y0, y1, y2⟩, z0⟩ := newW_boxes q; obtain ⟨v0, v1, v2, v3, v4⟩ := newW_boxes4 q; have B0 := Lib.hid q; clear q z0))
    have W0 : Hid (Below W.heap.size W u0) := (newW_boxes B0.out).2.2
    have BX : Hid (∀ {u : World} {g : Nat} {m : Mac}, Pr u0 u bp bm br bl K KR g m cs → u.cell? ⟨bp, 0, none⟩ = some (.pointer (some ⟨bm, 0, none⟩)) ∧ u.cell? ⟨bp, 1, none⟩ = some (.pointer (some ⟨br, 0, none⟩))) := fun h => ⟨(cells3_of h.box).1, (cells3_of h.box).2.1⟩
    go_loopw [12] (fun vi wr => ∃ i g : Nat, ∃ m, vi = .int .i64 i ∧ g ≤ i ∧ (i : Int) ≤ c + 3 ∧ Hid (Pr u0 wr bp bm br bl K KR g m cs ∧ Inv m)) (fun vi _ => (c + 3 - intOf vi).toNat)
    case atStart => exact ⟨0, 0, m0, rfl, Nat.le_refl _, by simp; omega, ⟨P1.out, HI.out⟩⟩
    case round =>
      obtain ⟨i, g, m, rfl, hgi, hic, HPI⟩ := hrel
      have HBW : Hid (Below (newW W a b c e t ao n cap).heap.size (newW W a b c e t ao n cap) wr) := B0.out.trans (HPI.out.1.duo.bel.mono B0.out.size)
      obtain ⟨v0, v1, v2, v3, v4⟩ := newW_boxes4 HBW.out
      by_cases hlt : (i : Int) < c + 3
      · go_wp2
        have D0 : Hid (Pr u0 wr.drew bp bm br bl K KR g m cs) := HPI.out.1.on ((Same.drew _).below _)
        refine wp_region_seq (fun u => u.cell? ⟨bp, 0, none⟩ = some (.pointer (some ⟨bm, 0, none⟩)) ∧ u.cell? ⟨bp, 1, none⟩ = some (.pointer (some ⟨br, 0, none⟩))) ((0, true) :: (1, true) :: (2, false) :: (3, true) :: (4, true) :: (5, true) :: (6, true) :: (7, true) :: (8, true) :: (9, true) :: (10, true) :: (11, true) :: (12, true) :: (13, true) :: (14, true) :: (15, true) :: (16, true) :: (17, false) :: (18, true) :: (19, true) :: (20, true) :: []) (by kernel_rfl) (by kernel_rfl) (fun _ _ _ _ _ h => h) (BX.out D0.out) ?_
        repeat (first
          | (refine wpSeq_take (v := ?_) rfl (by rfl) (fun wq hSq => ?_) ?_; rotate_left; (focus ((try dsimp only at hSq); go_simp; try with_reducible rfl)); simp only [Act.put, List.setIfInBounds_toArray, List.set_cons_zero, List.set_cons_succ]))
        refine wpSeq_do rfl (by rfl) (fun KK hK => ?_)
        go_simp
        refine (HST.out W0.out D0.out HPI.out.2 (by omega)).mono ?_
        rintro r u2 ⟨rfl, q⟩
        have P2 := Lib.hid q
        refine hK.out _ _ (BX.out q) ?_
        clear hK KK q
        try simp only [Act.put, List.setIfInBounds_toArray, List.set_cons_zero, List.set_cons_succ]
        repeat (first
          | (refine wpSeq_take (v := ?_) rfl (by rfl) (fun wq hSq => ?_) ?_; rotate_left; (focus ((try dsimp only at hSq); go_simp; try with_reducible rfl)); simp only [Act.put, List.setIfInBounds_toArray, List.set_cons_zero, List.set_cons_succ]))
        have HI3 := Lib.hid (inv_next (g := g) HPI.out.2 HFL.out)
        have hg3 := next_le g m
        cases h5 : ((i : Int).tmod 5 == 0)
        · try simp only [h5]
          repeat (first
            | (refine wpSeq_take (v := ?_) rfl (by rfl) (fun wq hSq => ?_) ?_; rotate_left; (focus ((try dsimp only at hSq); go_simp; try with_reducible rfl)); simp only [Act.put, List.setIfInBounds_toArray, List.set_cons_zero, List.set_cons_succ])
            | (refine wpSeq_skip rfl (by rfl) ?_; simp only [Act.put, List.setIfInBounds_toArray, List.set_cons_zero, List.set_cons_succ]))
          refine wpSeq_skip' rfl (by rfl) (BX.out P2.out) ?_
          simp only [Act.put, List.setIfInBounds_toArray, List.set_cons_zero, List.set_cons_succ]
          repeat (first
            | (refine wpSeq_take (v := ?_) rfl (by rfl) (fun wq hSq => ?_) ?_; rotate_left; (focus ((try dsimp only at hSq); go_simp; try with_reducible rfl)); simp only [Act.put, List.setIfInBounds_toArray, List.set_cons_zero, List.set_cons_succ])
            | (refine wpSeq_skip rfl (by rfl) ?_; simp only [Act.put, List.setIfInBounds_toArray, List.set_cons_zero, List.set_cons_succ]))
          refine wpSeq_nil ?_
          go_wp2
          exact ⟨⟨i + 1, nextG g m, nextM f g m, by first | rfl | (congr 1), by omega, by omega, ⟨P2.out, HI3.out⟩⟩, by simp [intOf]; omega⟩
        · try simp only [h5]
          repeat (first
            | (refine wpSeq_take (v := ?_) rfl (by rfl) (fun wq hSq => ?_) ?_; rotate_left; (focus ((try dsimp only at hSq); go_simp; try with_reducible rfl)); simp only [Act.put, List.setIfInBounds_toArray, List.set_cons_zero, List.set_cons_succ])
            | (refine wpSeq_skip rfl (by rfl) ?_; simp only [Act.put, List.setIfInBounds_toArray, List.set_cons_zero, List.set_cons_succ]))
          refine wpSeq_do rfl (by rfl) (fun KK hK => ?_)
          go_simp
          refine (seen_any P2.out.duo HI3.out).mono ?_
          rintro r u3 ⟨rfl, q⟩
          have P3 := Lib.hid (P2.out.on q)
          clear q
          refine hK.out _ _ (BX.out P3.out) ?_
          clear hK KK
          try simp only [Act.put, List.setIfInBounds_toArray, List.set_cons_zero, List.set_cons_succ]
          repeat (first
            | (refine wpSeq_take (v := ?_) rfl (by rfl) (fun wq hSq => ?_) ?_; rotate_left; (focus ((try dsimp only at hSq); go_simp; try with_reducible rfl)); simp only [Act.put, List.setIfInBounds_toArray, List.set_cons_zero, List.set_cons_succ])
            | (refine wpSeq_skip rfl (by rfl) ?_; simp only [Act.put, List.setIfInBounds_toArray, List.set_cons_zero, List.set_cons_succ]))
          refine wpSeq_nil ?_
          go_wp2
          exact ⟨⟨i + 1, nextG g m, nextM f g m, by first | rfl | (congr 1), by omega, by omega, ⟨P3.out, HI3.out⟩⟩, by simp [intOf]; omega⟩
      · go_wp2
        have D0 : Hid (Pr u0 wr.drew bp bm br bl K KR g m cs) := HPI.out.1.on ((Same.drew _).below _)
        refine wp_region_seq (fun u => u.cell? ⟨bp, 0, none⟩ = some (.pointer (some ⟨bm, 0, none⟩)) ∧ u.cell? ⟨bp, 1, none⟩ = some (.pointer (some ⟨br, 0, none⟩))) ((0, true) :: (1, true) :: (2, true) :: (3, true) :: (4, true) :: (5, true) :: (6, true) :: (7, true) :: (8, true) :: (9, true) :: (10, false) :: (11, true) :: (12, true) :: []) (by kernel_rfl) (by kernel_rfl) (fun _ _ _ _ _ h => h) (BX.out D0.out) ?_
        repeat (first
          | (refine wpSeq_take (v := ?_) rfl (by rfl) (fun wq hSq => ?_) ?_; rotate_left; (focus ((try dsimp only at hSq); go_simp; try with_reducible rfl)); simp only [Act.put, List.setIfInBounds_toArray, List.set_cons_zero, List.set_cons_succ])
          | (refine wpSeq_skip rfl (by rfl) ?_; simp only [Act.put, List.setIfInBounds_toArray, List.set_cons_zero, List.set_cons_succ]))
        refine wpSeq_do rfl (by rfl) (fun KK hK => ?_)
        go_simp
        refine (seen_any D0.out.duo HPI.out.2).mono ?_
        rintro r u3 ⟨rfl, q⟩
        have P3 := Lib.hid (D0.out.on q)
        clear q
        refine hK.out _ _ (BX.out P3.out) ?_
        clear hK KK
        try simp only [Act.put, List.setIfInBounds_toArray, List.set_cons_zero, List.set_cons_succ]
        repeat (first
          | (refine wpSeq_take (v := ?_) rfl (by rfl) (fun wq hSq => ?_) ?_; rotate_left; (focus ((try dsimp only at hSq); go_simp; try with_reducible rfl)); simp only [Act.put, List.setIfInBounds_toArray, List.set_cons_zero, List.set_cons_succ])
          | (refine wpSeq_skip rfl (by rfl) ?_; simp only [Act.put, List.setIfInBounds_toArray, List.set_cons_zero, List.set_cons_succ]))
        refine wpSeq_nil ?_
        go_wp2
        go_ret
        exact ⟨rfl, below_chain W0.out P3.out.duo.bel⟩
end Go.Proofs.YtjicnjncdmknmaaGreatDoor
