import Derived.Test.YtffgnfbfifooeabDoorT21
import Derived.Test.YtffgnfbfifooeabDoorT23
import Derived.Deep.QuietTactic
import Derived.BigQuiet
namespace Go.Proofs.YtffgnfbfifooeabDoor
open Go.ChangeShapes Go.WideShapes Go.ChangeAt Go.RowKit Num

theorem split_facts (l : List UInt8) : (∀ x ∈ splitW l, goodW x) ∧ sumW (splitW l) ≤ 1025 ∧ (joinT (splitW l)).length ≤ 1024 ∧ wordsOf (joinT (splitW l)) = splitW l := by
  unfold splitW
  split
  · rename_i h
    have h1 := words_sum l
    have h2 := join_le l
    exact ⟨words_good l, by omega, by omega, words_join _ (words_good l)⟩
  · exact ⟨fun x hx => (List.not_mem_nil hx).elim, Nat.zero_le _, Nat.zero_le _, rfl⟩
theorem sumW_mem : ∀ (l : List (List UInt8)) (x : List UInt8), x ∈ l → x.length ≤ sumW l
  | [], _, h => by cases h
  | y :: l, x, h => by
    show x.length ≤ y.length + 1 + sumW l
    rcases List.mem_cons.1 h with q | q
    · rw [q]; omega
    · have := sumW_mem l x q
      omega
theorem joinL_mem : ∀ (l : List (List UInt8)) (x : List UInt8), x ∈ l → x.length ≤ (joinL l).length
  | [], _, h => by cases h
  | y :: l, x, h => by
    show x.length ≤ (y ++ 10 :: joinL l).length
    rw [List.length_append, List.length_cons]
    rcases List.mem_cons.1 h with q | q
    · rw [q]; omega
    · have := joinL_mem l x q
      omega
theorem clean_byte {x : List UInt8} (h : ∀ c ∈ x, isEnd c = false) {k : Nat} (hk : k < x.length) : (x.getD k 0).toNat ≠ 10 := by
  have h1 := h (x.getD k 0) (by rw [List.getD, List.getElem?_eq_getElem hk]; exact List.getElem_mem hk)
  unfold isEnd at h1
  rw [decide_eq_false_iff_not] at h1
  exact h1
theorem good_byte {x : List UInt8} (h : goodW x) {k : Nat} (hk : k < x.length) : (x.getD k 0).toNat ≠ 32 ∧ (x.getD k 0).toNat ≠ 9 := by
  have h1 := h.2 (x.getD k 0) (by rw [List.getD, List.getElem?_eq_getElem hk]; exact List.getElem_mem hk)
  unfold isSep at h1
  rw [decide_eq_false_iff_not] at h1
  omega
set_option maxHeartbeats 4000000 in
set_option maxRecDepth 100000 in
theorem joins_any (a0 a1 : ByteArray) (z0 : a0.size ≤ 1048576) (z1 : a1.size ≤ 1048576) (w : World) (hT : Tabs w) : Calls Tryd.prog 5 #[.string a0, .string a1] w fun e w' => e = .returned (.bool true) ∧ Below w.heap.size w w' := by
  have HT := Lib.hid hT
  have HB0 : Hid (Below w.heap.size w w) := Below.refl _ _
  have HZ : Hid (a1.size ≤ 8796093022206) := by show a1.size ≤ _; omega
  have HX : Hid ((linesOf a1.data.toList).length ≤ 1048577) := by
    show (linesOf a1.data.toList).length ≤ _
    have := lines_len2 a1.data.toList
    rw [← size_list] at this
    omega
  have HS := fun (W : World) (hb : Below w.heap.size w W) => split_gen hb a0
  replace HS := Lib.hid HS
  have HN := fun (W : World) (hb : Below w.heap.size w W) => lines_on hb a1 HZ.out
  replace HN := Lib.hid HN
  obtain ⟨ws, hws⟩ : ∃ ws, ws = splitW a0.data.toList := ⟨_, rfl⟩
  obtain ⟨z, hz⟩ : ∃ z, z = splitE a0.data.toList := ⟨_, rfl⟩
  rw [← hws, ← hz] at HS
  have HF := Lib.hid (split_facts a0.data.toList)
  rw [← hws] at HF
  have HWS := Lib.hid hws
  have HZE := Lib.hid hz
  clear hT hws hz
  generalize hls : linesOf a1.data.toList = ls at *
  have HLJ : Hid (joinL ls = a1.data.toList ∨ (joinL ls = a1.data.toList ++ [10] ∧ a1.data.toList ≠ [])) := by rw [← hls]; exact lines_join _
  have HLC : Hid (∀ x ∈ ls, ∀ c ∈ x, isEnd c = false) := by rw [← hls]; exact lines_clean _
  have HLB : Hid ((joinL ls).length ≤ 1048577) := by
    show (joinL ls).length ≤ _
    rw [size_list] at z1
    rcases HLJ.out with q | ⟨q, _⟩
    · rw [q]; omega
    · rw [q, List.length_append, List.length_singleton]; omega
  have HLS := Lib.hid hls
  clear hls
  obtain ⟨n, hn⟩ : ∃ n, n = ws.length := ⟨_, rfl⟩
  obtain ⟨m, hm⟩ : ∃ m, m = ls.length := ⟨_, rfl⟩
  rw [← hn] at HS
  rw [← hm] at HN HX
  have HNN := Lib.hid hn
  have HMM := Lib.hid hm
  clear hn hm
  have hmb : m ≤ 1048577 := HX.out
  go_enter Tryd.func5, Tryd.ntmps5
  go_wp2_with (go_at_call 17; refine (HS.out _ HB0.out).mono ?_; rintro e w1 ⟨ao, ca, rfl, h1, h1', l1⟩)
  have HL1 := Lib.hid l1
  have H1 := Lib.hid h1
  clear l1 h1 h1'
  go_loopw [7, 8, 9] (fun vj vf vi wr => ∃ (i k : Nat) (j : ByteArray), vj = .string j ∧ vf = .bool true ∧ vi = .int .i64 i ∧ wr = w1.drewN k ∧ i ≤ n ∧ Hid (j.data.toList = joinT (ws.take i))) (fun _ _ vi _ => n - (intOf vi).toNat)
  case atStart => exact ⟨0, 0, _, rfl, rfl, rfl, by rw [World.drewN_zero], Nat.zero_le _, rfl⟩
  case round =>
    obtain ⟨i, k, j, rfl, rfl, rfl, rfl, hi, HJ⟩ := hrel
    have hjs : j.size ≤ 1025 := by
      rw [size_list, HJ.out]
      exact Nat.le_trans (joinT_take_le _ _) HF.out.2.1
    have hnb : n ≤ 1025 := by
      have : ∀ l : List (List UInt8), l.length ≤ sumW l := by
        intro l
        induction l with
        | nil => exact Nat.zero_le _
        | cons x l ih => rw [List.length_cons]; show _ ≤ x.length + 1 + sumW l; omega
      have h1 := this ws
      have h2 := HF.out.2.1
      rw [HNN.out]
      omega
    by_cases hlt : i < n
    · have hla : i < ws.length := by rw [← HNN.out]; exact hlt
      have hlt' : (i : Int) < (n : Int) := by omega
      rcases HL1.out.shape with ⟨_, e2⟩ | ⟨g, cap, e, hg1, hg2, hcap, hcells⟩
      · rw [e2] at hla; simp at hla
      · simp only [Value.slice.injEq] at e
        obtain ⟨rfl, hq1, hq2⟩ := e
        clear hq1 hq2
        have hc := hcells i hla
        obtain ⟨X, hX⟩ : ∃ X : ByteArray, X = ⟨ws[i].toArray⟩ := ⟨_, rfl⟩
        unfold strV at hc
        rw [← hX] at hc
        have HXL : Hid (X.data.toList = ws[i]) := by show X.data.toList = _; rw [hX]
        have HG : Hid (goodW X.data.toList) := by
          show goodW X.data.toList
          rw [HXL.out]
          exact HF.out.1 _ (List.getElem_mem hla)
        have hxs : X.size ≤ 1025 := by
          rw [size_list, HXL.out]
          exact Nat.le_trans (sumW_mem _ _ (List.getElem_mem hla)) HF.out.2.1
        have hemp : X.toList.isEmpty = false := by
          rw [← decide_eq_emptyBytes]
          exact decide_eq_false (fun h => HG.out.1 (by rw [h]; rfl))
        have HST : Hid (joinT (ws.take (i + 1)) = (if i = 0 then [] else joinT (ws.take i) ++ [32]) ++ X.data.toList) := by
          show joinT (ws.take (i + 1)) = _
          rw [List.take_add_one, List.getElem?_eq_getElem hla, HXL.out]
          show joinT (ws.take i ++ [ws[i]]) = _
          rw [joinT_snoc]
          congr 1
          by_cases h0 : i = 0
          · rw [if_pos h0, h0, if_pos (by simp)]
          · rw [if_neg h0, if_neg]
            intro q
            have := congrArg List.length q
            rw [List.length_take, List.length_nil] at this
            omega
        clear hX hcells hcap hg1 hg2 HL1
        by_cases h0 : i = 0
        · have HFJ : Hid ((j ++ X).data.toList = joinT (ws.take (i + 1))) := by
            show (j ++ X).data.toList = _
            rw [HST.out, if_pos h0, ByteArray.data_append, Array.toList_append, HJ.out, h0]
            rfl
          clear HST HXL HJ
          subst h0
          go_wp2
          go_loopw [10, 11] (fun vo vk wr => ∃ (k2 d : Nat), vo = .bool true ∧ vk = .int .i64 k2 ∧ wr = w1.drewN d ∧ k2 ≤ X.size) (fun _ vk _ => X.size - (intOf vk).toNat)
          case atStart => exact ⟨0, _, rfl, rfl, rfl, Nat.zero_le _⟩
          case round =>
            obtain ⟨k2, d, rfl, rfl, rfl, hk2⟩ := hrel
            by_cases hk : k2 < X.size
            · have hk' : (k2 : Int) < (X.size : Int) := by omega
              have hix := at_index X k2 hk
              have hb := good_byte HG.out (k := k2) (by rw [← size_list]; exact hk)
              generalize (X.data.toList.getD k2 0).toNat = c at *
              have hb1 : (((c : Nat) : Int) != 32) = true := by rw [bne_iff_ne]; omega
              have hb2 : (((c : Nat) : Int) != 9) = true := by rw [bne_iff_ne]; omega
              clear hb
              go_wp2
              exact ⟨⟨k2 + 1, _, rfl, by first | rfl | (congr 1), rfl, by omega⟩, by simp [intOf]; omega⟩
            · have hk' : ¬ (k2 : Int) < (X.size : Int) := by omega
              go_wp2
              exact ⟨⟨0 + 1, _, _, rfl, rfl, by first | rfl | (congr 1), rfl, by omega, HFJ⟩, by simp [intOf]; omega⟩
        · have hi0 : (0 : Int) < (i : Int) := by omega
          have HFJ : Hid (((j ++ { data := #[32] }) ++ X).data.toList = joinT (ws.take (i + 1))) := by
            show ((j ++ { data := #[32] }) ++ X).data.toList = _
            rw [HST.out, if_neg h0, ByteArray.data_append, Array.toList_append, ByteArray.data_append, Array.toList_append, HJ.out]
          clear HST HXL HJ
          go_wp2
          go_loopw [10, 11] (fun vo vk wr => ∃ (k2 d : Nat), vo = .bool true ∧ vk = .int .i64 k2 ∧ wr = w1.drewN d ∧ k2 ≤ X.size) (fun _ vk _ => X.size - (intOf vk).toNat)
          case atStart => exact ⟨0, _, rfl, rfl, rfl, Nat.zero_le _⟩
          case round =>
            obtain ⟨k2, d, rfl, rfl, rfl, hk2⟩ := hrel
            by_cases hk : k2 < X.size
            · have hk' : (k2 : Int) < (X.size : Int) := by omega
              have hix := at_index X k2 hk
              have hb := good_byte HG.out (k := k2) (by rw [← size_list]; exact hk)
              generalize (X.data.toList.getD k2 0).toNat = c at *
              have hb1 : (((c : Nat) : Int) != 32) = true := by rw [bne_iff_ne]; omega
              have hb2 : (((c : Nat) : Int) != 9) = true := by rw [bne_iff_ne]; omega
              clear hb
              go_wp2
              exact ⟨⟨k2 + 1, _, rfl, by first | rfl | (congr 1), rfl, by omega⟩, by simp [intOf]; omega⟩
            · have hk' : ¬ (k2 : Int) < (X.size : Int) := by omega
              go_wp2
              exact ⟨⟨i + 1, _, _, rfl, rfl, by first | rfl | (congr 1), rfl, by omega, HFJ⟩, by simp [intOf]; omega⟩
    · have hlt' : ¬ (i : Int) < (n : Int) := by omega
      have hin : i = n := by omega
      have HJJ : Hid (j.data.toList = joinT ws) := by
        show j.data.toList = _
        rw [HJ.out, hin, HNN.out, List.take_length]
      have hjs2 : j.size ≤ 1024 := by rw [size_list, HJJ.out]; exact HF.out.2.2.1
      have HSJ : Hid (∀ W, Below w.heap.size w W → Calls Tryd.prog 17 #[.string j] W fun e w' => ∃ ao c, e = .returned (.tuple #[.slice ao n c, .int .i64 0]) ∧ Below w.heap.size w w' ∧ Below W.heap.size W w' ∧ Lst W.heap.size w' (.slice ao n c) ws) := by
        intro W hb
        have h := split_gen hb j
        have e1 : splitW j.data.toList = ws := by
          unfold splitW
          rw [← size_list, if_pos hjs2, HJJ.out]
          exact HF.out.2.2.2
        have e2 : splitE j.data.toList = 0 := by
          unfold splitE
          rw [← size_list, if_pos hjs2]
        rw [e1, e2, ← HNN.out] at h
        exact h
      have hcase : (z = 2 ∧ n = 0 ∧ (1024 : Int) < (a0.size : Int)) ∨ (z = 0 ∧ (a0.size : Int) ≤ 1024) := by
        have h1 := HZE.out
        have h2 := HWS.out
        have h3 := HNN.out
        unfold splitE at h1
        unfold splitW at h2
        rw [← size_list] at h1 h2
        by_cases hq : a0.size ≤ 1024
        · rw [if_pos hq] at h1
          exact .inr ⟨h1, by omega⟩
        · rw [if_neg hq] at h1 h2
          rw [h2] at h3
          exact .inl ⟨h1, h3, by omega⟩
      have H2 : Hid (Below w.heap.size w (w1.drewN k)) := below_chain H1.out (below_drewN w1 k)
      have HL2 : Hid (Lst w.heap.size (w1.drewN k) (.slice ao n ca) ws) := HL1.out.on (below_drewN w1 k)
      clear HJ hi hlt hin HL1 H1
      have HNW : Hid (ws.length ≤ 8796093022207) := by show ws.length ≤ _; rw [← HNN.out]; omega
      rcases hcase with ⟨rfl, hn0, hlong⟩ | ⟨rfl, hshort⟩
      · have hn1 : (n : Int) = 0 := by omega
        go_wp2_with (first
          | (go_at_call 17; refine (HSJ.out _ H2.out).mono ?_; rintro e w3 ⟨bo, cb, rfl, h3, g3, l3⟩)
          | (go_at_call 9; refine (HN.out _ h3).mono ?_; rintro e w5 ⟨co, cc, rfl, h5, g5, l5⟩))
        have HL5 := Lib.hid l5
        have H5 := Lib.hid h5
        clear l5 h5 g5 HN HSJ
        go_loopw [8, 15, 115] (fun vf va vi wr => ∃ (i : Nat) (A : ByteArray), vf = .bool true ∧ va = .string A ∧ vi = .int .i64 i ∧ wr = w5 ∧ i ≤ m ∧ Hid (A.data.toList = joinL (ls.take i))) (fun _ _ vi _ => m - (intOf vi).toNat)
        case atStart => exact ⟨0, _, rfl, rfl, rfl, rfl, Nat.zero_le _, rfl⟩
        case round =>
          obtain ⟨p, A, rfl, rfl, rfl, hwr, hp, HA⟩ := hrel
          subst wr
          have has : A.size ≤ 1048577 := by
            rw [size_list, HA.out]
            exact Nat.le_trans (joinL_take_le _ _) HLB.out
          by_cases hpm : p < m
          · have hla : p < ls.length := by rw [← HMM.out]; exact hpm
            have hpm' : (p : Int) < (m : Int) := by omega
            rcases HL5.out.shape with ⟨_, e2⟩ | ⟨g, cap, e, hg1, hg2, hcap, hcells⟩
            · rw [e2] at hla; simp at hla
            · simp only [Value.slice.injEq] at e
              obtain ⟨rfl, hq1, hq2⟩ := e
              clear hq1 hq2
              have hc := hcells p hla
              obtain ⟨X, hX⟩ : ∃ X : ByteArray, X = ⟨ls[p].toArray⟩ := ⟨_, rfl⟩
              unfold strV at hc
              rw [← hX] at hc
              have HXL : Hid (X.data.toList = ls[p]) := by show X.data.toList = _; rw [hX]
              have HG : Hid (∀ c ∈ X.data.toList, isEnd c = false) := by
                rw [HXL.out]
                exact HLC.out _ (List.getElem_mem hla)
              have hxs : X.size ≤ 1048577 := by
                rw [size_list, HXL.out]
                exact Nat.le_trans (joinL_mem _ _ (List.getElem_mem hla)) HLB.out
              have HFA : Hid (((A ++ X) ++ { data := #[10] }).data.toList = joinL (ls.take (p + 1))) := by
                show ((A ++ X) ++ { data := #[10] }).data.toList = _
                rw [List.take_add_one, List.getElem?_eq_getElem hla]
                show _ = joinL (ls.take p ++ [ls[p]])
                rw [joinL_snoc, ByteArray.data_append, Array.toList_append, ByteArray.data_append, Array.toList_append, HA.out, HXL.out]
              clear hX hcells hcap hg1 hg2 HXL HA HL5
              go_wp2
              go_loopw [8, 18] (fun vf vk wr => ∃ (k2 : Nat), vf = .bool true ∧ vk = .int .i64 k2 ∧ wr = w5 ∧ k2 ≤ X.size) (fun _ vk _ => X.size - (intOf vk).toNat)
              case atStart => exact ⟨0, rfl, rfl, rfl, Nat.zero_le _⟩
              case round =>
                obtain ⟨k2, rfl, rfl, hwr, hk2⟩ := hrel
                subst wr
                by_cases hk : k2 < X.size
                · have hk' : (k2 : Int) < (X.size : Int) := by omega
                  have hix := at_index X k2 hk
                  have hb := clean_byte HG.out (k := k2) (by rw [← size_list]; exact hk)
                  generalize (X.data.toList.getD k2 0).toNat = c at *
                  have hb1 : (((c : Nat) : Int) != 10) = true := by rw [bne_iff_ne]; omega
                  clear hb
                  go_wp2
                  exact ⟨⟨k2 + 1, rfl, by first | rfl | (congr 1), by first | trivial | rfl, by omega⟩, by simp [intOf]; omega⟩
                · have hk' : ¬ (k2 : Int) < (X.size : Int) := by omega
                  go_wp2
                  exact ⟨⟨p + 1, _, rfl, rfl, by first | rfl | (congr 1), by first | trivial | rfl, by omega, HFA⟩, by simp [intOf]; omega⟩
          · have hpm' : ¬ (p : Int) < (m : Int) := by omega
            have hpp : p = m := by omega
            have HAA : Hid (A.data.toList = joinL ls) := by
              show A.data.toList = _
              rw [HA.out, hpp, HMM.out, List.take_length]
            clear HA hpp hpm hp
            rcases HLJ.out with q | ⟨q, q2⟩
            · have : A = a1 := bytes_eq (by rw [HAA.out, q])
              subst this
              clear HAA q
              go_wp2_with (go_at_call 7; refine (live_at HT.out H5.out).mono ?_; rintro e w7 ⟨rfl, h7⟩)
              go_ret
              exact ⟨by simp, h7⟩
            · have : A = a1 ++ { data := #[10] } := bytes_eq (by rw [HAA.out, q, ByteArray.data_append, Array.toList_append])
              subst this
              have hne : a1.toList.isEmpty = false := by
                rw [← decide_eq_emptyBytes]
                exact decide_eq_false (fun h => q2 (by rw [h]; rfl))
              have hlim : ¬ 9223372036854775807 < a1.size + 1 := by omega
              clear HAA q q2
              go_wp2_with (go_at_call 7; refine (live_at HT.out H5.out).mono ?_; rintro e w7 ⟨rfl, h7⟩)
              all_goals go_ret
              all_goals exact ⟨by simp, h7⟩
      · go_wp2_with (first
          | (go_at_call 17; refine (HSJ.out _ H2.out).mono ?_; rintro e w3 ⟨bo, cb, rfl, h3, g3, l3⟩)
          | (go_at_call 8; refine (same_any (HL2.out.on g3) l3 HNW.out).mono ?_; rw [decide_eq_true rfl]; rintro e w4 ⟨rfl, h4⟩; have k4 := below_chain h3 h4)
          | (go_at_call 9; refine (HN.out _ k4).mono ?_; rintro e w5 ⟨co, cc, rfl, h5, g5, l5⟩))
        have HL5 := Lib.hid l5
        have H5 := Lib.hid h5
        clear l5 h5 g5 HN HSJ
        go_loopw [8, 15, 115] (fun vf va vi wr => ∃ (i : Nat) (A : ByteArray), vf = .bool true ∧ va = .string A ∧ vi = .int .i64 i ∧ wr = w5 ∧ i ≤ m ∧ Hid (A.data.toList = joinL (ls.take i))) (fun _ _ vi _ => m - (intOf vi).toNat)
        case atStart => exact ⟨0, _, rfl, rfl, rfl, rfl, Nat.zero_le _, rfl⟩
        case round =>
          obtain ⟨p, A, rfl, rfl, rfl, hwr, hp, HA⟩ := hrel
          subst wr
          have has : A.size ≤ 1048577 := by
            rw [size_list, HA.out]
            exact Nat.le_trans (joinL_take_le _ _) HLB.out
          by_cases hpm : p < m
          · have hla : p < ls.length := by rw [← HMM.out]; exact hpm
            have hpm' : (p : Int) < (m : Int) := by omega
            rcases HL5.out.shape with ⟨_, e2⟩ | ⟨g, cap, e, hg1, hg2, hcap, hcells⟩
            · rw [e2] at hla; simp at hla
            · simp only [Value.slice.injEq] at e
              obtain ⟨rfl, hq1, hq2⟩ := e
              clear hq1 hq2
              have hc := hcells p hla
              obtain ⟨X, hX⟩ : ∃ X : ByteArray, X = ⟨ls[p].toArray⟩ := ⟨_, rfl⟩
              unfold strV at hc
              rw [← hX] at hc
              have HXL : Hid (X.data.toList = ls[p]) := by show X.data.toList = _; rw [hX]
              have HG : Hid (∀ c ∈ X.data.toList, isEnd c = false) := by
                rw [HXL.out]
                exact HLC.out _ (List.getElem_mem hla)
              have hxs : X.size ≤ 1048577 := by
                rw [size_list, HXL.out]
                exact Nat.le_trans (joinL_mem _ _ (List.getElem_mem hla)) HLB.out
              have HFA : Hid (((A ++ X) ++ { data := #[10] }).data.toList = joinL (ls.take (p + 1))) := by
                show ((A ++ X) ++ { data := #[10] }).data.toList = _
                rw [List.take_add_one, List.getElem?_eq_getElem hla]
                show _ = joinL (ls.take p ++ [ls[p]])
                rw [joinL_snoc, ByteArray.data_append, Array.toList_append, ByteArray.data_append, Array.toList_append, HA.out, HXL.out]
              clear hX hcells hcap hg1 hg2 HXL HA HL5
              go_wp2
              go_loopw [8, 18] (fun vf vk wr => ∃ (k2 : Nat), vf = .bool true ∧ vk = .int .i64 k2 ∧ wr = w5 ∧ k2 ≤ X.size) (fun _ vk _ => X.size - (intOf vk).toNat)
              case atStart => exact ⟨0, rfl, rfl, rfl, Nat.zero_le _⟩
              case round =>
                obtain ⟨k2, rfl, rfl, hwr, hk2⟩ := hrel
                subst wr
                by_cases hk : k2 < X.size
                · have hk' : (k2 : Int) < (X.size : Int) := by omega
                  have hix := at_index X k2 hk
                  have hb := clean_byte HG.out (k := k2) (by rw [← size_list]; exact hk)
                  generalize (X.data.toList.getD k2 0).toNat = c at *
                  have hb1 : (((c : Nat) : Int) != 10) = true := by rw [bne_iff_ne]; omega
                  clear hb
                  go_wp2
                  exact ⟨⟨k2 + 1, rfl, by first | rfl | (congr 1), by first | trivial | rfl, by omega⟩, by simp [intOf]; omega⟩
                · have hk' : ¬ (k2 : Int) < (X.size : Int) := by omega
                  go_wp2
                  exact ⟨⟨p + 1, _, rfl, rfl, by first | rfl | (congr 1), by first | trivial | rfl, by omega, HFA⟩, by simp [intOf]; omega⟩
          · have hpm' : ¬ (p : Int) < (m : Int) := by omega
            have hpp : p = m := by omega
            have HAA : Hid (A.data.toList = joinL ls) := by
              show A.data.toList = _
              rw [HA.out, hpp, HMM.out, List.take_length]
            clear HA hpp hpm hp
            rcases HLJ.out with q | ⟨q, q2⟩
            · have : A = a1 := bytes_eq (by rw [HAA.out, q])
              subst this
              clear HAA q
              go_wp2_with (go_at_call 7; refine (live_at HT.out H5.out).mono ?_; rintro e w7 ⟨rfl, h7⟩)
              go_ret
              exact ⟨by simp, h7⟩
            · have : A = a1 ++ { data := #[10] } := bytes_eq (by rw [HAA.out, q, ByteArray.data_append, Array.toList_append])
              subst this
              have hne : a1.toList.isEmpty = false := by
                rw [← decide_eq_emptyBytes]
                exact decide_eq_false (fun h => q2 (by rw [h]; rfl))
              have hlim : ¬ 9223372036854775807 < a1.size + 1 := by omega
              clear HAA q q2
              go_wp2_with (go_at_call 7; refine (live_at HT.out H5.out).mono ?_; rintro e w7 ⟨rfl, h7⟩)
              all_goals go_ret
              all_goals exact ⟨by simp, h7⟩
end Go.Proofs.YtffgnfbfifooeabDoor
