/- stage 19 (asm): the places are filled in -/
import Derived.Test.YtaliehikdidiaaaDoorN5
namespace Go.Proofs.YtaliehikdidiaaaDoor.As
open Go.ChangeShapes Go.WideShapes Go.ChangeAt Go.RowKit Num Go.Maps
attribute [local go_sem] run_store_float frombits_run bits_run

/-! pure: filled in one by one -/
def setN (l : List Ins) (k : Nat) (n : Int) : List Ins := l.set k { ci l k with n := n }
def fillL (r : Mk) (lat : List (Int × Nat)) (c : List Ins) : List Ins := lat.foldl (fun c t => setN c t.2 (plN r t.1 : Nat)) c
theorem setN_len (l : List Ins) (k : Nat) (n : Int) : (setN l k n).length = l.length := by simp [setN]
theorem fillL_len (r : Mk) : ∀ (lat : List (Int × Nat)) (c : List Ins), (fillL r lat c).length = c.length
  | [], _ => rfl
  | _ :: lat, _ => (fillL_len r lat _).trans (setN_len _ _ _)
theorem fillL_snoc (r : Mk) (lat : List (Int × Nat)) (t : Int × Nat) (c : List Ins) : fillL r (lat ++ [t]) c = setN (fillL r lat c) t.2 (plN r t.1 : Nat) := by simp [fillL]
theorem ci_setN {l : List Ins} {k : Nat} (n : Int) (hk : k < l.length) (j : Nat) : ci (setN l k n) j = if j = k then { ci l k with n := n } else ci l j := by
  unfold setN ci
  rw [List.getD_eq_getElem?_getD, List.getElem?_set]
  by_cases h : j = k
  · subst h
    rw [if_pos rfl, if_pos hk, if_pos rfl]
    rfl
  · rw [if_neg (Ne.symm h), if_neg h, List.getD_eq_getElem?_getD]
theorem codC_setN {l : List Ins} {k : Nat} (n : Int) (hk : k < l.length) : codC (setN l k n) = (codC l).set (k * 3 + 1) (.int .i64 n) := by
  apply List.ext_getElem?
  intro j
  by_cases hj : j < l.length * 3
  · have hL : j / 3 < l.length := by omega
    obtain ⟨c0, c1, c2⟩ := codC_at (setN l k n) (j / 3) (by rw [setN_len]; exact hL)
    obtain ⟨d0, d1, d2⟩ := codC_at l (j / 3) hL
    rw [ci_setN n hk] at c0 c1 c2
    rw [List.getElem?_set, codC_len]
    by_cases hjk : j / 3 = k
    · rw [if_pos hjk] at c0 c1 c2
      subst hjk
      rcases (by omega : j % 3 = 0 ∨ j % 3 = 1 ∨ j % 3 = 2) with q | q | q
      · rw [if_neg (by omega), show j = j / 3 * 3 by omega, Nat.mul_div_cancel _ (by decide : 0 < 3), c0, d0]
      · rw [if_pos (by omega), if_pos (by omega), show j = j / 3 * 3 + 1 by omega, show (j / 3 * 3 + 1) / 3 = j / 3 by omega, c1]
      · rw [if_neg (by omega), show j = j / 3 * 3 + 2 by omega, show (j / 3 * 3 + 2) / 3 = j / 3 by omega, c2, d2]
    · rw [if_neg hjk] at c0 c1 c2
      rw [if_neg (by omega)]
      rcases (by omega : j % 3 = 0 ∨ j % 3 = 1 ∨ j % 3 = 2) with q | q | q
      · rw [show j = j / 3 * 3 by omega, c0, d0]
      · rw [show j = j / 3 * 3 + 1 by omega, c1, d1]
      · rw [show j = j / 3 * 3 + 2 by omega, c2, d2]
  · rw [List.getElem?_eq_none (by rw [codC_len, setN_len]; omega), List.getElem?_eq_none (by rw [List.length_set, codC_len]; omega)]
theorem fillL_at {s : Bs} (ok : Ok s) : ∀ i, i ≤ s.lat.length → ∀ k, k < s.code.length → ci (fillL s.marks (s.lat.take i) (s.code.map fixI)) k = if (∃ t, t ∈ s.lat.take i ∧ t.2 = k) then fixI (s.fin k) else fixI (ci s.code k)
  | 0, _, k, hk => by rw [List.take_zero, if_neg (by simp)]; exact ci_fix _ _
  | i + 1, hi, k, hk => by
    have hi' : i < s.lat.length := by omega
    rw [List.take_succ_eq_append_getElem hi', fillL_snoc]
    obtain ⟨a, b, _⟩ := ok.of _ (List.getElem_mem hi')
    rw [ci_setN _ (by rw [fillL_len, List.length_map]; exact a)]
    by_cases h : k = (s.lat[i]).2
    · have h2 : ∃ t, t ∈ s.lat.take i ++ [s.lat[i]] ∧ t.2 = k := ⟨_, List.mem_append_right _ (List.mem_singleton.2 rfl), h.symm⟩
      rw [if_pos h, if_pos h2, h, fin_to b]
      have := fillL_at ok i (by omega) _ a
      rw [this]
      split
      · rw [fin_to b]; rfl
      · rfl
    · rw [if_neg h, fillL_at ok i (by omega) k hk]
      have e : (∃ t, t ∈ s.lat.take i ++ [s.lat[i]] ∧ t.2 = k) ↔ ∃ t, t ∈ s.lat.take i ∧ t.2 = k := by
        constructor
        · rintro ⟨t, ht, q⟩
          rcases List.mem_append.1 ht with z | z
          · exact ⟨t, z, q⟩
          · rw [List.mem_singleton] at z
            subst z
            exact absurd q.symm h
        · rintro ⟨t, ht, q⟩
          exact ⟨t, List.mem_append_left _ ht, q⟩
      by_cases q : ∃ t, t ∈ s.lat.take i ∧ t.2 = k
      · rw [if_pos q, if_pos (e.2 q)]
      · rw [if_neg q, if_neg (fun z => q (e.1 z))]
theorem fillL_all {s : Bs} (ok : Ok s) : fillL s.marks s.lat (s.code.map fixI) = s.filled.map fixI := by
  refine ci_ext (by rw [fillL_len, List.length_map, List.length_map, filled_len]) fun k hk => ?_
  rw [fillL_len, List.length_map] at hk
  have := fillL_at ok s.lat.length (Nat.le_refl _) k hk
  rw [List.take_length] at this
  rw [this, ci_fix, filled_at hk]
  split
  · rfl
  · rename_i q
    cases hq : s.tos.getD k none with
    | none => rw [fin_no hq]
    | some l => exact absurd ⟨(l, k), ok.to k hk l hq, rfl⟩ q

section
variable {w w' u w3 : World} {b : Nat} {s : Bs} {v : Bv} {F : List Nat}
theorem fill_enter (args : Array Value) (w : World) : (callFunc 49 args).run Tryd.prog w = .ok (.enter 49 args) w := enter_run Tryd.func49 (by kernel_rfl) (by kernel_rfl) args w
set_option maxRecDepth 100000 in
theorem fill_any {x y z bm g n c k : Nat} {l m : Int} {old : Value} (hx : w.cell? ⟨x, 0, none⟩ = some (.pointer (some ⟨b, 0, none⟩))) (hy : w.cell? ⟨y, 0, none⟩ = some (.int .i64 l)) (hz : w.cell? ⟨z, 0, none⟩ = some (.int .i64 k)) (h3 : w.cell? ⟨b, 3, none⟩ = some (.map (some bm)))
    {has : Bool} (hlk : ∀ u, Same w u → (Instr.lookup 57 (.map (some bm)) (.int .i64 l) true).run Tryd.prog u = .ok (.tuple #[.int .i64 m, .bool has]) u) (hk : k < n) (ho : w.cell? ⟨g, k * 3 + 1, none⟩ = some old) (hf : w.frozen? ⟨g, k * 3 + 1, none⟩ = false) :
    Calls Tryd.prog 49 #[.slice (some ⟨g, 0, none⟩) n c, .pointer (some ⟨x, 0, none⟩), .pointer (some ⟨y, 0, none⟩), .pointer (some ⟨z, 0, none⟩)] w fun e w' => e = .returned (.bool has) ∧ ∃ w0, Same w w0 ∧ w' = w0.setCell ⟨g, k * 3 + 1, none⟩ (.int .i64 m) := by
  have hlx := World.block_lt_of_cell? w _ hx
  have hly := World.block_lt_of_cell? w _ hy
  have hlz := World.block_lt_of_cell? w _ hz
  have hk' : (k : Int) < (n : Int) := by omega
  go_enter Tryd.func49, Tryd.ntmps49
  go_wp2
  have hl2 := hlk _ (Same.drew w)
  clear hlk
  refine wp_region_seq (fun u => u.cell? ⟨x, 0, none⟩ = some (.pointer (some ⟨b, 0, none⟩)) ∧ u.cell? ⟨y, 0, none⟩ = some (.int .i64 l) ∧ u.cell? ⟨b, 3, none⟩ = some (.map (some bm)) ∧ (Instr.lookup 57 (.map (some bm)) (.int .i64 l) true).run Tryd.prog u = .ok (.tuple #[.int .i64 m, .bool has]) u) ((0, true) :: (1, true) :: (2, true) :: (3, true) :: (4, true) :: (5, true) :: (6, true) :: (7, true) :: (8, true) :: (9, true) :: (10, true) :: []) follows (by kernel_rfl) (fun _ _ _ _ _ h => h) ⟨hx, hy, h3, hl2⟩ ?_
  (repeat (first | (refine wpSeq_take (v := ?_) rfl (by rfl) (fun wq hSq => ?_) ?_; rotate_left; (focus ((try dsimp only at hSq); go_simp; try with_reducible rfl)); simp only [Act.put, List.setIfInBounds_toArray, List.set_cons_zero, List.set_cons_succ]) | (refine wpSeq_skip rfl (by rfl) ?_; simp only [Act.put, List.setIfInBounds_toArray, List.set_cons_zero, List.set_cons_succ])))
  refine wpSeq_nil ?_
  go_wp2_with fail
  go_ret
  exact ⟨rfl, _, Same.drew _, rfl⟩
theorem take_all {r : Mk} {lat : List (Int × Nat)} (h : ∀ j, j < lat.length → hasM r (lat.getD j (0, 0)).1 = true) : (lat.all fun t => hasM r t.1) = true := by
  rw [List.all_eq_true]
  intro t ht
  obtain ⟨j, hj, e⟩ := List.getElem_of_mem ht
  have := h j hj
  rwa [List.getD_eq_getElem?_getD, List.getElem?_eq_getElem hj, Option.getD_some, e] at this
theorem take_no {r : Mk} {lat : List (Int × Nat)} {j : Nat} (hj : j < lat.length) (h : hasM r (lat.getD j (0, 0)).1 = false) : (lat.all fun t => hasM r t.1) = false := by
  cases q : lat.all fun t => hasM r t.1
  · rfl
  · rw [List.all_eq_true] at q
    have := q _ (List.getElem_mem hj)
    rw [List.getD_eq_getElem?_getD, List.getElem?_eq_getElem hj, Option.getD_some] at h
    rw [h] at this
    cases this
theorem RowW.put {E : TypeId} {sz : Nat} {g c n : Nat} {xs : List Value} (h : RowW E sz w (some ⟨g, 0, none⟩) c n xs) (j : Nat) (y : Value) : RowW E sz (w.setCell ⟨g, j, none⟩ y) (some ⟨g, 0, none⟩) c n (xs.set j y) := ⟨(h.own.stored j y).1⟩
set_option maxRecDepth 100000 in
set_option maxHeartbeats 1000000 in
theorem fillIn_any (h : Bld w b F s) {p : Option Addr} {c n : Nat} (hn : s.code.length = n) (hlim : n < lim) (hr : RowW 63 3 w p c n (codC (s.code.map fixI))) (hs : Sep F (fpR p)) : Calls Tryd.prog 52 #[.pointer (some ⟨b, 0, none⟩), .slice p n c] w fun e w' => e = .returned (.bool (s.lat.all fun t => hasM s.marks t.1)) ∧ Hid (∃ cl, cl.length = n ∧ RowW 63 3 w' p c n (codC cl) ∧ ((s.lat.all fun t => hasM s.marks t.1) = true → cl = s.filled.map fixI) ∧ Turn (fpR p) (fpR p) w w') := by
  have ok := h.ok
  have HB := Lib.hid h
  obtain ⟨v, h, rfl⟩ := h
  obtain ⟨hb, _, _, _, _, _, h5, _⟩ := h.cells
  have HV : Hid (∀ u, Turn (fpR p) (fpR p) w u → BAt u b s v) := fun u k => h.keep (k.kept hs h.blw)
  have hnl : s.lat.length ≤ n := hn ▸ ok.size
  have HOK := Lib.hid ok
  have HR := Lib.hid hr
  have HN := Lib.hid hn
  have HL : Hid (n < lim) := hlim
  obtain ⟨nl, hnl2⟩ : ∃ nl, s.lat.length = nl := ⟨_, rfl⟩
  rw [hnl2] at h5 hnl
  have HNL := Lib.hid hnl2
  have hnlI : (nl : Int) ≤ 9223372036854775807 := by unfold lim at hlim; omega
  clear h ok hr hs hn hlim hnl2
  go_enter Tryd.func52, Tryd.ntmps52
  go_wp2
  go_loopw [12] (fun vi wr => ∃ (i : Nat), vi = .int .i64 i ∧ i ≤ nl ∧ Hid (RowW 63 3 wr p c n (codC (fillL s.marks (s.lat.take i) (s.code.map fixI))) ∧ Turn (fpR p) (fpR p) w wr ∧ ∀ j, j < i → hasM s.marks (s.lat.getD j (0, 0)).1 = true)) (fun vi _ => nl - (intOf vi).toNat)
  case atStart => exact ⟨0, rfl, Nat.zero_le _, HR.out, Turn.refl _ _, fun j hj => absurd hj (Nat.not_lt_zero _)⟩
  case round =>
    obtain ⟨i, rfl, hi, HI⟩ := hrel
    by_cases hlt : i < nl
    · have hltI : (i : Int) < (nl : Int) := by omega
      have hv := HV.out _ HI.out.2.1
      obtain ⟨vs, l1, l2⟩ := hv.lat
      have hlti : i < s.lat.length := by rw [HNL.out]; exact hlt
      obtain ⟨u0, e1, x, y, z, rfl, m1, m2, m3, x1, y1, z1⟩ := l2 i hlti
      obtain ⟨gL, eL, hgL, hcL, _, cL, _⟩ := l1.at (by omega)
      have kL : wr.cell? ⟨gL, i, none⟩ = some (cloV x y z) := (cL i (by omega)).trans e1
      have et : s.lat.getD i (0, 0) ∈ s.lat := by
        rw [List.getD_eq_getElem?_getD, List.getElem?_eq_getElem hlti]
        exact List.getElem_mem hlti
      have etk : s.lat.take (i + 1) = s.lat.take i ++ [s.lat.getD i (0, 0)] := by
        rw [List.take_succ_eq_append_getElem hlti, List.getD_eq_getElem?_getD, List.getElem?_eq_getElem hlti]
        rfl
      obtain ⟨q1, q2, q3⟩ := HOK.out.of _ et
      rw [eL]
      have hmap := hv.map
      obtain ⟨hbr, _, _, _, k3, _, _, _⟩ := hv.cells
      have HH : Hid (hasM s.marks (s.lat.getD i (0, 0)).1 = false → (s.lat.all fun t => hasM s.marks t.1) = false) := take_no hlti
      have HQ : Hid (hasM s.marks (s.lat.getD i (0, 0)).1 = true → ∀ j, j < i + 1 → hasM s.marks (s.lat.getD j (0, 0)).1 = true) := fun q j hj => by
        by_cases e : j = i
        · rw [e]; exact q
        · exact HI.out.2.2 j (by omega)
      obtain ⟨l, hl⟩ : ∃ l, (s.lat.getD i (0, 0)).1 = l := ⟨_, rfl⟩
      obtain ⟨k, hk⟩ : ∃ k, (s.lat.getD i (0, 0)).2 = k := ⟨_, rfl⟩
      have eset := fillL_snoc s.marks (s.lat.take i) (s.lat.getD i (0, 0)) (s.code.map fixI)
      rw [hl, hk] at eset
      rw [hk] at q1 z1
      rw [hl] at q3 y1 HH HQ
      have hlen : (fillL s.marks (s.lat.take i) (s.code.map fixI)).length = n := by rw [fillL_len, List.length_map]; exact HN.out
      have hkn : k < n := by rw [← HN.out]; exact q1
      have hrow := HI.out.1
      obtain ⟨g, ep, hg, _, _, cg, fg⟩ := hrow.at (by omega)
      subst ep
      have HF := Lib.hid (fill_any (c := c) (n := n) (k := k) (old := ((codC (fillL s.marks (s.lat.take i) (s.code.map fixI))).getD (k * 3 + 1) (.int .i64 0))) ((cell_of_row _ _ 0 _ _ _ x1).trans rfl) ((cell_of_row _ _ 0 _ _ _ y1).trans rfl) ((cell_of_row _ _ 0 _ _ _ z1).trans rfl) k3 (fun u hu => (hmap.keep (by rw [hu.heap])).look q3) hkn (by rw [cg _ (by omega), List.getD_eq_getElem?_getD, List.getElem?_eq_getElem (by rw [codC_len, hlen]; omega)]; rfl) (fg _))
      have HS : Hid (∀ w0, Same wr w0 → RowW 63 3 (w0.setCell ⟨g, k * 3 + 1, none⟩ (.int .i64 (plN s.marks l : Nat))) (some ⟨g, 0, none⟩) c n (codC (fillL s.marks (s.lat.take (i + 1)) (s.code.map fixI))) ∧ Turn (fpR (some ⟨g, 0, none⟩)) (fpR (some ⟨g, 0, none⟩)) w (w0.setCell ⟨g, k * 3 + 1, none⟩ (.int .i64 (plN s.marks l : Nat)))) := fun w0 h0 => by
        refine ⟨?_, HI.out.2.1.trans ((h0.turn _).trans (turn_set g _ _ w0))⟩
        rw [etk, eset, codC_setN _ (by rw [hlen]; exact hkn)]
        exact (hrow.keep (h0.kept _)).put _ _
      unfold cloV at kL
      have hcall := fill_enter
      cases hh : hasM s.marks l
      · rw [hh] at HF
        have HE := Lib.hid (HH.out hh)
        have HL2 := Lib.hid hlen
        clear HH HQ hh hl hk eset hrow cg fg hmap hv l1 l2 cL e1 x1 y1 z1 q1 q2 q3 etk et m1 m2 m3 hlen HI HV HB HOK HR HN hlti k3 hbr hkn hnl
        go_wp2_with (refine HF.out.mono ?_; rintro e w2 ⟨rfl, w0, h0, hw2⟩; have HZ := Lib.hid (HS.out w0 h0); rw [← hw2] at HZ; clear hw2 h0 HS HF)
        go_ret
        exact ⟨by rw [HE.out]; rfl, fillL s.marks (s.lat.take (i + 1)) (s.code.map fixI), by rw [fillL_len] at *; exact HL2.out, HZ.out.1, (fun q => by rw [HE.out] at q; cases q), HZ.out.2⟩
      · rw [hh] at HF
        have HE := Lib.hid (HQ.out hh)
        clear HH HQ hh hl hk eset hrow cg fg hmap hv l1 l2 cL e1 x1 y1 z1 q1 q2 q3 etk et m1 m2 m3 hlen HI HV HB HOK HR HN hlti k3 hbr hkn hnl
        go_wp2_with (refine HF.out.mono ?_; rintro e w2 ⟨rfl, w0, h0, hw2⟩; have HZ := Lib.hid (HS.out w0 h0); rw [← hw2] at HZ; clear hw2 h0 HS HF)
        exact ⟨⟨i + 1, by first | rfl | (congr 1), by omega, HZ.out.1, HZ.out.2, HE.out⟩, by simp [intOf]; omega⟩
    · have hltI : ¬ (i : Int) < (nl : Int) := by omega
      obtain rfl : i = nl := by omega
      have HE : Hid ((s.lat.all fun t => hasM s.marks t.1) = true) := take_all fun j hj => HI.out.2.2 j (by rw [HNL.out] at hj; exact hj)
      have HZ : Hid (RowW 63 3 wr p c n (codC (s.filled.map fixI)) ∧ Turn (fpR p) (fpR p) w wr) := by
        have := HI.out.1
        rw [← HNL.out, List.take_length, fillL_all HOK.out] at this
        exact ⟨this, HI.out.2.1⟩
      clear HI HV
      go_wp2
      go_ret
      exact ⟨by rw [HE.out]; rfl, _, by rw [List.length_map, filled_len]; exact HN.out, HZ.out.1, fun _ => rfl, HZ.out.2⟩
end
end Go.Proofs.YtaliehikdidiaaaDoor.As
