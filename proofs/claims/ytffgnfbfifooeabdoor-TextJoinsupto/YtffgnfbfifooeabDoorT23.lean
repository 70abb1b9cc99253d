import Derived.Test.YtffgnfbfifooeabDoorT22
import Derived.Laws.OwnMore
import Derived.Deep.QuietTactic
import Derived.BigQuiet
namespace Go.Proofs.YtffgnfbfifooeabDoor
open Go.ChangeShapes Go.WideShapes Go.ChangeAt Go.RowKit Num

theorem words_len (l : List UInt8) : (wordsOf l).length ≤ l.length + 1 := by
  have := cut_len isSep pushW pushW_length l [] []
  simpa [wordsOf] using this
theorem lines_len2 (l : List UInt8) : (linesOf l).length ≤ l.length + 1 := by
  have := cut_len isEnd addL (fun acc cur => by unfold addL; simp) l [] []
  simpa [linesOf] using this
theorem cell_two_new (w : World) (x y : Value) (t : TypeId) : ∀ j u, [x, y][j]? = some u → (w.alloc (.cells #[x, y] t)).cell? ((⟨w.heap.size, 0, none⟩ : Addr).add j) = some u := by
  intro j u hj
  match j, hj with
  | 0, hj => simp at hj; subst hj; simp [Addr.add]
  | 1, hj => simp at hj; subst hj; simp [Addr.add]
theorem Lst.write {B g n c i : Nat} {w : World} {l : List (List UInt8)} (h : Lst B w (.slice (some ⟨g, 0, none⟩) n c) l) (hn : n = l.length) (x : List UInt8) : Lst B (w.setCell ⟨g, i, none⟩ (strV x)) (.slice (some ⟨g, 0, none⟩) n c) (l.set i x) ∧ w.grownBy (w.setCell ⟨g, i, none⟩ (strV x)) (some g) := by
  subst hn
  have := World.ownsRow.stored h i (strV x)
  refine ⟨?_, this.2⟩
  unfold Lst
  rw [List.length_set, List.map_set]
  exact this.1
theorem live_on {w w1 : World} (hT : Tabs w) (hb : Below w.heap.size w w1) : Calls Tryd.prog 7 #[] w1 fun e w' => e = .returned (.bool true) ∧ Below w.heap.size w w' ∧ Below w1.heap.size w1 w' :=
  (live_any w1 (hT.on hb)).mono fun _ _ ⟨he, hw⟩ => ⟨he, below_chain hb hw, hw⟩
theorem lines_on {w w1 : World} (hb : Below w.heap.size w w1) (s : ByteArray) (h : s.size ≤ 8796093022206) : Calls Tryd.prog 9 #[.string s] w1 fun e w' => ∃ ao c, e = .returned (.slice ao (linesOf s.data.toList).length c) ∧ Below w.heap.size w w' ∧ Below w1.heap.size w1 w' ∧ Lst w1.heap.size w' (.slice ao (linesOf s.data.toList).length c) (linesOf s.data.toList) :=
  (lines_any s w1 h).mono fun _ _ ⟨v, he, hl, hw⟩ => by
    obtain ⟨ao, c, e⟩ := hl.len
    rw [e] at he hl
    exact ⟨ao, c, he, below_chain hb hw, hw, hl⟩
set_option maxHeartbeats 4000000 in
set_option maxRecDepth 100000 in
theorem fresh_any (a0 a1 : ByteArray) (z0 : a0.size ≤ 1048576) (z1 : a1.size ≤ 1048576) (w : World) (hT : Tabs w) : Calls Tryd.prog 6 #[.string a0, .string a1] w fun e w' => e = .returned (.bool true) ∧ Below w.heap.size w w' := by
  have HT := Lib.hid hT
  have HB0 : Hid (Below w.heap.size w w) := Below.refl _ _
  have HZ : Hid (a1.size ≤ 8796093022206) := by show a1.size ≤ _; omega
  have HW : Hid ((splitW a0.data.toList).length ≤ 1048577) := by
    show (splitW a0.data.toList).length ≤ _
    unfold splitW
    rw [← size_list]
    split
    · have := words_len a0.data.toList
      rw [← size_list] at this
      omega
    · exact Nat.zero_le _
  have HX : Hid ((linesOf a1.data.toList).length ≤ 1048577) := by
    show (linesOf a1.data.toList).length ≤ _
    have := lines_len2 a1.data.toList
    rw [← size_list] at this
    omega
  clear hT z0 z1
  have HS := fun (W : World) (hb : Below w.heap.size w W) => split_gen hb a0
  have HS2 := fun (W : World) (hb : Below w.heap.size w W) => refSplit_gen hb a0
  have HN := fun (W : World) (hb : Below w.heap.size w W) => lines_on hb a1 HZ.out
  have HN2 := fun (W : World) (hb : Below w.heap.size w W) => refLines_at hb a1 HZ.out
  replace HS := Lib.hid HS
  replace HS2 := Lib.hid HS2
  replace HN := Lib.hid HN
  replace HN2 := Lib.hid HN2
  clear HZ
  generalize splitW a0.data.toList = ws at *
  generalize splitE a0.data.toList = z at *
  generalize linesOf a1.data.toList = ls at *
  obtain ⟨n, hn⟩ : ∃ n, n = ws.length := ⟨_, rfl⟩
  obtain ⟨m, hm⟩ : ∃ m, m = ls.length := ⟨_, rfl⟩
  rw [← hn] at HS HS2 HW
  rw [← hm] at HN HN2 HX
  have HNN := Lib.hid hn
  have HMM := Lib.hid hm
  clear hn hm
  have hzz : (z == z) = true := by simp
  have hnb : n ≤ 1048577 := HW.out
  have hmb : m ≤ 1048577 := HX.out
  go_enter Tryd.func6, Tryd.ntmps6
  go_wp2_with (first
    | (go_at_call 17; refine (HS.out _ HB0.out).mono ?_; rintro e w1 ⟨ao, ca, rfl, h1, h1', l1⟩)
    | (go_at_call 9; refine (HN.out _ h1).mono ?_; rintro e w2 ⟨bo, cb, rfl, h2, h2', l2⟩))
  have HAL : Hid (∀ g, (Value.slice ao n ca).ownBlock = some g → w.heap.size ≤ g ∧ g < w1.heap.size) := fun g hg => World.ownsRow.lt l1 g hg
  have HLA : Hid (∃ l : List (List UInt8), l.length = n ∧ Lst w.heap.size w2 (.slice ao n ca) l) := ⟨ws, HNN.out.symm, l1.on h2'⟩
  have HLB : Hid (∃ l : List (List UInt8), l.length = m ∧ Lst w1.heap.size w2 (.slice bo m cb) l) := ⟨ls, HMM.out.symm, l2⟩
  have HSZ : Hid (w.heap.size ≤ w1.heap.size ∧ w1.heap.size ≤ w2.heap.size) := ⟨h1.size, h2'.size⟩
  have HB2 := Lib.hid h2
  clear l1 l2 h1 h1' h2 h2'
  go_loopw [8] (fun vi wr => ∃ (i : Nat), vi = .int .i64 i ∧ i ≤ n ∧ Hid (Below w.heap.size w wr) ∧ Hid (∃ l : List (List UInt8), l.length = n ∧ Lst w.heap.size wr (.slice ao n ca) l) ∧ Hid (∃ l : List (List UInt8), l.length = m ∧ Lst w1.heap.size wr (.slice bo m cb) l) ∧ Hid (w1.heap.size ≤ wr.heap.size)) (fun vi _ => n - (intOf vi).toNat)
  case atStart => exact ⟨0, rfl, Nat.zero_le _, HB2, HLA, HLB, HSZ.out.2⟩
  case round =>
    obtain ⟨i, rfl, hi, HB3, HA3, HL3, HS3⟩ := hrel
    by_cases hlt : i < n
    · have hlt' : (i : Int) < (n : Int) := by omega
      obtain ⟨l, hl, HL⟩ := HA3.out
      rcases HL.shape with ⟨_, e2⟩ | ⟨g, cap, e, hg1, hg2, hcap, hcells⟩
      · rw [e2] at hl; simp at hl; omega
      · simp only [Value.slice.injEq] at e
        obtain ⟨rfl, _, _⟩ := e
        have hc := hcells i (by omega)
        have hf := World.ownsRow.frozenAt (by rw [← hl] at HL; exact HL) i
        have hw := HL.write (i := i) hl.symm [64]
        rw [show strV [64] = .string { data := #[64] } from rfl] at hw
        have hne := HAL.out g rfl
        obtain ⟨y, hy⟩ : ∃ y, y = strV l[i] := ⟨_, rfl⟩
        rw [← hy] at hc
        have HFIN : Hid (∃ l : List (List UInt8), l.length = n ∧ Lst w.heap.size (wr.setCell ⟨g, i, none⟩ (.string { data := #[64] })) (.slice (some ⟨g, 0, none⟩) n ca) l) := ⟨l.set i [64], by rw [List.length_set, hl], hw.1⟩
        have HFB : Hid (Below w.heap.size w (wr.setCell ⟨g, i, none⟩ (.string { data := #[64] }))) := HB3.out.grown hw.2 HB3.out.size (fun k hk => by cases hk; exact hne.1)
        have HFL : Hid (∃ l : List (List UInt8), l.length = m ∧ Lst w1.heap.size (wr.setCell ⟨g, i, none⟩ (.string { data := #[64] })) (.slice bo m cb) l) := by
          obtain ⟨k, hk, hL⟩ := HL3.out
          refine ⟨k, hk, World.ownsRow.kept hL hw.2 (.inr ?_)⟩
          intro q
          have := (World.ownsRow.lt hL g q).1
          omega
        have HFS : Hid (w1.heap.size ≤ (wr.setCell ⟨g, i, none⟩ (.string { data := #[64] })).heap.size) := Nat.le_trans HS3.out hw.2.size
        clear hw hy hcells HL hl HL3 HA3 HB3 HS3 hne
        go_wp2
        exact ⟨⟨i + 1, by first | rfl | (congr 1), by omega, HFB, HFIN, HFL, HFS⟩, by simp [intOf]; omega⟩
    · have hlt' : ¬ (i : Int) < (n : Int) := by omega
      clear HLA HLB HB2 hi hlt
      go_wp2
      go_loopw [9] (fun vi wq => ∃ (i : Nat), vi = .int .i64 i ∧ i ≤ m ∧ Hid (Below w.heap.size w wq) ∧ Hid (∃ l : List (List UInt8), l.length = n ∧ Lst w.heap.size wq (.slice ao n ca) l) ∧ Hid (∃ l : List (List UInt8), l.length = m ∧ Lst w1.heap.size wq (.slice bo m cb) l) ∧ Hid (w1.heap.size ≤ wq.heap.size)) (fun vi _ => m - (intOf vi).toNat)
      case atStart => exact ⟨0, rfl, Nat.zero_le _, HB3, HA3, HL3, HS3⟩
      case round =>
        clear HB3 HA3 HL3 HS3
        obtain ⟨j, rfl, hj, HB3, HA3, HL3, HS3⟩ := hrel
        by_cases hlt : j < m
        · have hlt2 : (j : Int) < (m : Int) := by omega
          obtain ⟨l, hl, HL⟩ := HL3.out
          rcases HL.shape with ⟨_, e2⟩ | ⟨g, cap, e, hg1, hg2, hcap, hcells⟩
          · rw [e2] at hl; simp at hl; omega
          · simp only [Value.slice.injEq] at e
            obtain ⟨rfl, _, _⟩ := e
            have hc := hcells j (by omega)
            have hf := World.ownsRow.frozenAt (by rw [← hl] at HL; exact HL) j
            have hw := HL.write (i := j) hl.symm [64]
            rw [show strV [64] = .string { data := #[64] } from rfl] at hw
            obtain ⟨y, hy⟩ : ∃ y, y = strV l[j] := ⟨_, rfl⟩
            rw [← hy] at hc
            have HFIN : Hid (∃ l : List (List UInt8), l.length = m ∧ Lst w1.heap.size (wr.setCell ⟨g, j, none⟩ (.string { data := #[64] })) (.slice (some ⟨g, 0, none⟩) m cb) l) := ⟨l.set j [64], by rw [List.length_set, hl], hw.1⟩
            have HFB : Hid (Below w.heap.size w (wr.setCell ⟨g, j, none⟩ (.string { data := #[64] }))) := HB3.out.grown hw.2 HB3.out.size (fun k hk => by cases hk; exact Nat.le_trans HSZ.out.1 hg1)
            have HFA : Hid (∃ l : List (List UInt8), l.length = n ∧ Lst w.heap.size (wr.setCell ⟨g, j, none⟩ (.string { data := #[64] })) (.slice ao n ca) l) := by
              obtain ⟨k, hk, hL⟩ := HA3.out
              refine ⟨k, hk, World.ownsRow.kept hL hw.2 (.inr ?_)⟩
              intro q
              have := (HAL.out g q).2
              omega
            have HFS : Hid (w1.heap.size ≤ (wr.setCell ⟨g, j, none⟩ (.string { data := #[64] })).heap.size) := Nat.le_trans HS3.out hw.2.size
            clear hw hy hcells HL hl HL3 HA3 HB3 HS3
            go_wp2
            exact ⟨⟨j + 1, by first | rfl | (congr 1), by omega, HFB, HFA, HFIN, HFS⟩, by simp [intOf]; omega⟩
        · have hlt2 : ¬ (j : Int) < (m : Int) := by omega
          clear hj hlt
          obtain ⟨la, hla, hLA⟩ := HA3.out
          obtain ⟨lb, hlb, hLB⟩ := HL3.out
          have HLA : Hid (wr.ownsRow w.heap.size 9 1 (.slice ao n ca) n (la.map strV)) := by
            unfold Lst at hLA
            rw [hla] at hLA
            exact hLA
          have HLB : Hid (∀ (o : Obj) (W : World), (wr.alloc o).grownBy W (Value.slice ao n ca).ownBlock → W.ownsRow w1.heap.size 9 1 (.slice bo m cb) m (lb.map strV)) := by
            intro o W hg
            unfold Lst at hLB
            rw [hlb] at hLB
            refine World.ownsRow.kept (World.ownsRow.alloc hLB o) hg ?_
            cases q : (Value.slice bo m cb).ownBlock with
            | none => exact .inl rfl
            | some k =>
              right
              intro q2
              have h1 := (HAL.out k q2.symm).2
              have h2 := (World.ownsRow.lt hLB k q).1
              omega
          have HBK : Hid (∀ (o : Obj) (W : World), (wr.alloc o).grownBy W (Value.slice ao n ca).ownBlock → Below w.heap.size w W ∧ w1.heap.size ≤ W.heap.size) := by
            intro o W hg
            have hs := hg.size
            have h0 : wr.heap.size ≤ (wr.alloc o).heap.size := by simp
            refine ⟨(HB3.out.alloc HB3.out.size o).grown hg (Nat.le_trans HB3.out.size h0) (fun k hk => (HAL.out k hk).1), ?_⟩
            have := HS3.out
            omega
          have HBL : Hid (∀ (o : Obj) (W W2 : World), Below w.heap.size w W ∧ w1.heap.size ≤ W.heap.size → (W.alloc o).grownBy W2 (Value.slice bo m cb).ownBlock → Below w.heap.size w W2) := by
            intro o W W2 h hg
            have h0 : W.heap.size ≤ (W.alloc o).heap.size := by simp
            refine (h.1.alloc h.1.size o).grown hg (Nat.le_trans h.1.size h0) (fun k hk => Nat.le_trans HSZ.out.1 (World.ownsRow.lt hLB k hk).1)
          have HFO : Hid (∀ (B k : Nat) (W : World) (v : Value) (xs : List Value), W.ownsRow B 9 1 v (k + 2) xs → ∃ g c, v = .slice (some ⟨g, 0, none⟩) (k + 2) c) := by
            intro B k W v xs h
            rcases h.2 with ⟨_, q⟩ | ⟨g, c, _, e, _⟩
            · omega
            · exact ⟨g, c, e⟩
          have HSZ3 : Hid (w.heap.size ≤ wr.heap.size) := HB3.out.size
          clear hla hlb hLA hLB HA3 HL3
          obtain ⟨i0, hi, hz0, hz1, hz2⟩ := info_parts strInfo
          have HZI := Lib.hid (And.intro hz0 (And.intro hz1 hz2))
          have HI := Lib.hid hi
          clear hz0 hz1 hz2 hi
          have h2n : (2 : Int) ≤ ((n + 2 : Nat) : Int) := by omega
          have h2m : (2 : Int) ≤ ((m + 2 : Nat) : Int) := by omega
          go_wp2_with (first
            | (at_builtin; refine wpList_append_own _ rfl _ _ 24 rfl w.heap.size 9 i0 (.string ByteArray.empty) 1 16 Tryd.underlying24 HI.out HZI.out.1 HZI.out.2.1 HZI.out.2.2 rfl (by decide) _ n _ rfl (World.ownsRow.alloc HLA.out _) ⟨wr.heap.size, 0, none⟩ 2 2 [.string { data := #[64] }, .string { data := #[64] }] rfl rfl (cell_two_new _ _ _ _) (fun x hx => by simp at hx; subst hx; rfl) (by unfold maxLen; omega) (by omega) (by have := HSZ3.out; simp; omega) ?_; intro v3 w3 hown3 hgrow3 hnil3; obtain ⟨g3, c3, rfl⟩ := HFO.out _ _ _ _ _ hown3; have HO3 := Lib.hid (HLB.out _ _ hgrow3); have HB5 := Lib.hid (HBK.out _ _ hgrow3); clear hown3 hgrow3 hnil3)
            | (at_builtin; refine wpList_append_own _ rfl _ _ 24 rfl w1.heap.size 9 i0 (.string ByteArray.empty) 1 16 Tryd.underlying24 HI.out HZI.out.1 HZI.out.2.1 HZI.out.2.2 rfl (by decide) _ m _ rfl (World.ownsRow.alloc HO3.out _) ⟨w3.heap.size, 0, none⟩ 2 2 [.string { data := #[64] }, .string { data := #[64] }] rfl rfl (cell_two_new _ _ _ _) (fun x hx => by simp at hx; subst hx; rfl) (by unfold maxLen; omega) (by omega) (by have := HB5.out.2; simp; omega) ?_; intro v4 w4 hown4 hgrow4 hnil4; obtain ⟨g4, c4, rfl⟩ := HFO.out _ _ _ _ _ hown4; have h4 := HBL.out _ _ _ HB5.out hgrow4; clear hown4 hgrow4 hnil4)
            | (go_at_call 17; refine (HS.out _ h4).mono ?_; rintro e w5 ⟨co, cc, rfl, h5, g5, l5⟩)
            | (go_at_call 18; refine (HS2.out _ h5).mono ?_; rintro e w6 ⟨eo, ce, rfl, h6, g6, l6⟩)
            | (go_at_call 7; refine (live_on HT.out h6).mono ?_; rintro e w7 ⟨rfl, h7, g7⟩)
            | (go_at_call 8; refine (same_any ((l5.on g6).on g7) (l6.on g7) (by rw [← HNN.out]; omega)).mono ?_; rw [decide_eq_true rfl]; rintro e w8 ⟨rfl, h8⟩; have k8 := below_chain h7 h8; clear l5 l6 g5 g6)
            | (go_at_call 9; refine (HN.out _ k8).mono ?_; rintro e w9 ⟨fo, cf, rfl, h9, g9, l9⟩)
            | (go_at_call 10; refine (HN2.out _ h9).mono ?_; rintro e w10 ⟨ho, ch, rfl, h10, g10, l10⟩)
            | (go_at_call 8; refine (same_any (l9.on g10) l10 (by rw [← HMM.out]; omega)).mono ?_; rw [decide_eq_true rfl]; rintro e w11 ⟨rfl, h11⟩))
          go_ret
          exact ⟨rfl, below_chain h10 h11⟩
end Go.Proofs.YtffgnfbfifooeabDoor
