import Derived.Test.YtmlklnimkgnbkaaGreatDoorA3
import Derived.Test.YtmlklnimkgnbkaaGreatDoorAR
import Derived.BigQuiet
import Derived.Deep.QuietTactic
import Derived.Test.YtmlklnimkgnbkaaGreatDoorKO
namespace Go.Proofs.YtmlklnimkgnbkaaGreatDoor
open Go.ChangeShapes Go.WideShapes Go.ChangeAt Go.RowKit Num

/-! what was written is what is changed -/
theorem setL_at (s : List Nat) (c : Int) (x : Nat) {i : Nat} (hi : i < s.length) : (Sx.setL s c x).getD i 0 = if c = (i : Int) then fixB x else s.getD i 0 := by
  unfold Sx.setL
  by_cases hc : c = (i : Int)
  · subst hc
    rw [if_pos (by rw [Sx.hasN_nat]; exact decide_eq_true hi), if_pos rfl, Int.toNat_natCast]
    simp [List.getD_eq_getElem?_getD, hi]
  · rw [if_neg hc]
    split
    · rename_i hh
      obtain ⟨k, rfl, _⟩ := Sx.hasN_pos hh
      have hk : ¬ k = i := fun e => hc (by rw [e])
      simp [List.getD_eq_getElem?_getD, hk]
    · rfl
theorem foldL_at : ∀ (ts : Wr) (s : List Nat) {i : Nat}, i < s.length → (cellsOfL ts).Nodup → (Sx.foldL s ts).getD i 0 = if hasC ts (i : Int) then fixB (getC ts (i : Int)) else s.getD i 0
  | [], s, i, _, _ => by
    rw [if_neg (by simp [hasC, idx])]
    rfl
  | t :: ts, s, i, hi, hn => by
    show (Sx.foldL (Sx.setL s t.1 t.2) ts).getD i 0 = _
    have hn2 : t.1 ∉ cellsOfL ts ∧ (cellsOfL ts).Nodup := by
      have : cellsOfL (t :: ts) = t.1 :: cellsOfL ts := rfl
      rw [this, List.nodup_cons] at hn
      exact hn
    rw [foldL_at ts _ (by rw [Sx.setL_len]; exact hi) hn2.2, setL_at s t.1 t.2 hi, hasC_cons, getC_cons]
    by_cases hc : t.1 = (i : Int)
    · have hh : hasC ts (i : Int) = false := by
        cases hq : hasC ts (i : Int) with
        | false => rfl
        | true => exact absurd (hasC_mem.1 hq) (by rw [← hc]; exact hn2.1)
      rw [hh, if_pos hc, if_neg Bool.false_ne_true, decide_eq_true hc, Bool.true_or, if_pos rfl, if_pos hc]
    · rw [if_neg hc, decide_eq_false hc, Bool.false_or, if_neg hc]
end Go.Proofs.YtmlklnimkgnbkaaGreatDoor
namespace Go.Proofs.YtmlklnimkgnbkaaGreatDoor
open Go.ChangeShapes Go.WideShapes Go.ChangeAt Go.RowKit Num
attribute [local go_sem] run_store_float

/-! AloneQuiet -/
theorem quiet_same {a b c e t : Int} {cs : List Ins} {l s : List Nat} (hs : okS s) (hx : ∀ i ∈ cs, i.x < 18446744073709551616) (hl : ∀ x ∈ l, x < 18446744073709551616) (h : ¬ (goodB a b c e s.length l.length = true ∧ (runR a b c e t cs l s).how = 1 ∧ t = 2)) : aftS s (runR a b c e t cs l s) = s := by
  by_cases h1 : (runR a b c e t cs l s).how = 1
  · cases hg : goodB a b c e s.length l.length with
    | false =>
      rw [runR_bad hg] at h1
      exact absurd h1 (by decide)
    | true =>
      have h2 : ¬ t = 2 := fun ht => h ⟨hg, h1, ht⟩
      have hc : Md.cfgB a b c e = true := by unfold goodB at hg; simp only [Bool.and_eq_true] at hg; exact hg.1.1
      have hr := new_rest (t := t) hc (fun j hj => hx _ (List.mem_of_getElem? (ci_lt hj))) hl
      have hb : (runR a b c e t cs l s).buf = [] := by
        rw [runR_good hg]
        refine (endM_rest hs hr).inv.none ?_
        rw [(endM_like hs hr).upd]
        show (t == 2) = false
        simpa using h2
      unfold aftS
      rw [if_pos h1, hb]
      rfl
  · exact if_neg h1
/-- what stands where it was written, and where not -/
theorem aft_at {s : List Nat} {m : Mac} (hm : Rest m) (h1 : m.how = 1) {i : Nat} (hi : i < s.length) : (aftS s m).getD i 0 = if (i : Int) ∈ cellsOfL m.buf then getC m.buf (i : Int) else s.getD i 0 := by
  unfold aftS
  rw [if_pos h1, foldL_at m.buf s hi hm.nod]
  cases hh : hasC m.buf (i : Int) with
  | true =>
    rw [if_pos rfl, if_pos (hasC_mem.1 hh)]
    exact (getC_ok hm.inv.buf).1
  | false =>
    rw [if_neg Bool.false_ne_true, if_neg (fun hc => by rw [hasC_mem.2 hc] at hh; cases hh)]
theorem cells_take {l : Wr} {j : Nat} (hj : j < l.length) : cellsOfL (l.take (j + 1)) = cellsOfL (l.take j) ++ [(l.getD j (0, 0)).1] := by
  unfold cellsOfL
  rw [List.take_add_one, List.map_append]
  congr 1
  simp [hj]
theorem take_not {l : Wr} (hn : (cellsOfL l).Nodup) {j : Nat} (hj : j < l.length) : (l.getD j (0, 0)).1 ∉ cellsOfL (l.take j) := fun hc => by
  have h1 := cells_take hj
  have h2 : (cellsOfL (l.take (j + 1))).Nodup := by
    unfold cellsOfL at hn ⊢
    rw [List.map_take]
    exact hn.sublist (List.take_sublist _ _)
  rw [h1, List.nodup_append] at h2
  exact h2.2.2 _ hc _ (by simp) rfl
/-- the flags of what was written so far -/
def Flags (hs : List Bool) (ns : Nat) (l : Wr) : Prop := hs.length = ns ∧ ∀ i, i < ns → hs.getD i false = decide ((i : Int) ∈ cellsOfL l)
theorem flags_nil (ns : Nat) : Flags (List.replicate ns false) ns [] := ⟨by simp, fun i hi => by simp [hi, cellsOfL]⟩
theorem Flags.more {hs : List Bool} {ns : Nat} {l : Wr} {j i : Nat} (h : Flags hs ns (l.take j)) (hj : j < l.length) (hc : (l.getD j (0, 0)).1 = (i : Int)) (hi : i < ns) : Flags (hs.set i true) ns (l.take (j + 1)) := by
  refine ⟨by rw [List.length_set]; exact h.1, fun k hk => ?_⟩
  rw [cells_take hj, hc]
  by_cases hki : i = k
  · subst hki
    simp [h.1, hi]
  · have := h.2 k hk
    rw [List.getD_eq_getElem?_getD] at this ⊢
    rw [List.getElem?_set_ne hki, this]
    have hne : ¬ ((k : Int) = (i : Int)) := by omega
    simp [List.mem_append, hne]
structure Qt (W wr : World) (gh gw gx ns : Nat) (pw : Option Addr) (cw : Nat) (hs : List Bool) (s sa : List Nat) (l : Wr) : Prop where
  fl : RowAt 4 wr (some ⟨gh, 0, none⟩) ns (bls hs)
  was : RowAt 50 wr (some ⟨gw, 0, none⟩) ns (fls s)
  now : RowAt 50 wr (some ⟨gx, 0, none⟩) ns (fls sa)
  wri : TRow wr pw cw l
  bel : Below W.heap.size W wr
theorem Qt.on {W wr u : World} {gh gw gx ns : Nat} {pw : Option Addr} {cw : Nat} {hs : List Bool} {s sa : List Nat} {l : Wr} (h : Qt W wr gh gw gx ns pw cw hs s sa l) (k : Below wr.heap.size wr u) : Qt W u gh gw gx ns pw cw hs s sa l := ⟨h.fl.on k, h.was.on k, h.now.on k, h.wri.on k, h.bel.trans (k.mono h.bel.size)⟩
theorem Qt.put {W wr : World} {gh gw gx ns : Nat} {pw : Option Addr} {cw : Nat} {hs : List Bool} {s sa : List Nat} {l : Wr} (h : Qt W wr gh gw gx ns pw cw hs s sa l) (hW : W.heap.size ≤ gh) (n1 : gw ≠ gh) (n2 : gx ≠ gh) (n3 : gh ∉ fpR pw) (i : Nat) : Qt W (wr.setCell ⟨gh, i, none⟩ (.bool true)) gh gw gx ns pw cw (hs.set i true) s sa l := by
  have hp := row_put h.fl i (.bool true)
  have e : (bls hs).set i (.bool true) = bls (hs.set i true) := by unfold bls; rw [List.map_set]
  rw [e] at hp
  exact ⟨hp.1, h.was.turn hp.2 (fun x hx y => by simp [fpR] at hx y; omega), h.now.turn hp.2 (fun x hx y => by simp [fpR] at hx y; omega), h.wri.turn hp.2 (fun x hx y => by simp at y; subst y; exact n3 hx), h.bel.setCell (p := ⟨gh, i, none⟩) hW _⟩
theorem bls_get {hs : List Bool} {i : Nat} (hi : i < hs.length) : (bls hs)[i]? = some (.bool (hs.getD i false)) := by simp [bls, hi]
end Go.Proofs.YtmlklnimkgnbkaaGreatDoor
namespace Go.Proofs.YtmlklnimkgnbkaaGreatDoor
open Go.ChangeShapes Go.WideShapes Go.ChangeAt Go.RowKit Num
attribute [local go_sem] run_store_float

end Go.Proofs.YtmlklnimkgnbkaaGreatDoor
namespace Go.Proofs.YtmlklnimkgnbkaaGreatDoor
open Go.ChangeShapes Go.WideShapes Go.ChangeAt Go.RowKit Num

/-! what is told only grows; cells that are not looked at -/
structure More (m m' : Mac) : Prop where
  reads : m.reads <+: m'.reads
  out : m.out <+: m'.out
  used : m.used ≤ m'.used
theorem More.refl (m : Mac) : More m m := ⟨List.prefix_rfl, List.prefix_rfl, Int.le_refl _⟩
theorem More.trans {a b c : Mac} (h : More a b) (k : More b c) : More a c := ⟨h.reads.trans k.reads, h.out.trans k.out, Int.le_trans h.used k.used⟩
theorem More.of {m m' : Mac} (h1 : m'.reads = m.reads) (h2 : m'.out = m.out) (h3 : m.used ≤ m'.used) : More m m' := ⟨h1 ▸ List.prefix_rfl, h2 ▸ List.prefix_rfl, h3⟩
theorem fails_more {m : Mac} (e : Int) : More m (failM m e).1 := More.of rfl rfl (Int.le_refl _)
theorem beg_more (m : Mac) : More m (begM m) := More.of rfl rfl (by show m.used ≤ m.used + 1; omega)
theorem do_more {m : Mac} {k : Nat} {n : Int} {x : Nat} (hk : 1 ≤ k ∧ k < 21) : More m (doM m ⟨k, n, x⟩).1 := by
  have hkk : k = 1 ∨ k = 2 ∨ k = 3 ∨ k = 4 ∨ k = 5 ∨ k = 6 ∨ k = 7 ∨ k = 8 ∨ k = 9 ∨ k = 10 ∨ k = 11 ∨ k = 12 ∨ k = 13 ∨ k = 14 ∨ k = 15 ∨ k = 16 ∨ k = 17 ∨ k = 18 ∨ k = 19 ∨ k = 20 := by omega
  rcases hkk with rfl | rfl | rfl | rfl | rfl | rfl | rfl | rfl | rfl | rfl | rfl | rfl | rfl | rfl | rfl | rfl | rfl | rfl | rfl | rfl
  iterate 14 exact More.of rfl rfl (Int.le_refl _)
  · show More m (retM m).1
    cases hc : m.calls with
    | nil => rw [retM_nil hc]; exact More.of rfl rfl (Int.le_refl _)
    | cons c q => rw [retM_cons hc]; exact More.of rfl rfl (Int.le_refl _)
  · show More m (readM m).1
    unfold readM
    split
    · split
      · exact ⟨⟨_, rfl⟩, List.prefix_rfl, Int.le_refl _⟩
      · exact More.of rfl rfl (Int.le_refl _)
    · exact fails_more 50
  · show More m (writeM m).1
    unfold writeM
    split
    · split
      · split
        · exact More.of rfl rfl (Int.le_refl _)
        · exact fails_more 70
      · exact fails_more 50
    · exact fails_more 81
  · exact ⟨List.prefix_rfl, ⟨_, rfl⟩, Int.le_refl _⟩
  · exact More.of rfl rfl (Int.le_refl _)
  · exact More.of rfl rfl (Int.le_refl _)
theorem step_more {m : Mac} (h : Inv m) : More m (stepM m).1 := by
  unfold stepM
  by_cases hw : 0 ≤ m.wait
  · rw [if_pos hw]; exact More.refl m
  rw [if_neg hw]
  by_cases h0 : m.how = 0
  · rw [if_pos h0]
    by_cases hf : m.used < m.fuel
    · rw [if_pos hf]
      by_cases hp : m.place < (m.code.length : Int)
      · rw [if_pos hp]
        have hk : m.place.toNat < m.code.length := by have := h.place; omega
        have hmay := h.may _ hk
        cases hr : roomB (begM m) (insM m) with
        | false => exact (beg_more m).trans (fails_more 82)
        | true =>
          rw [if_pos rfl]
          unfold insM
          rcases hci : ci m.code m.place.toNat with ⟨o, n, x⟩
          rw [hci] at hmay
          obtain ⟨q, hq⟩ : ∃ q : Nat, o = q := ⟨o.toNat, by have := hmay.1; unfold mayB knownB at this; simp at this; omega⟩
          subst hq
          exact (beg_more m).trans (do_more (fits_parts hmay.1).1)
      · rw [if_neg hp]
        exact fails_more 50
    · rw [if_neg hf]
      exact fails_more 80
  · rw [if_neg h0]; exact More.refl m
theorem give_more (m : Mac) (x : Nat) : More m (giveM m x) := by
  unfold giveM
  split
  · exact ⟨⟨_, rfl⟩, List.prefix_rfl, Int.le_refl _⟩
  · exact More.refl m
theorem go_more {s : List Nat} {m : Mac} (h : Inv m) : More m (goM s m) := by
  unfold goM
  split
  · exact (step_more h).trans (give_more _ _)
  · exact step_more h
theorem run_more {s : List Nat} (hs : okS s) : ∀ (k : Nat) {m : Mac}, Rest m → More m (runN s k m)
  | 0, m, _ => More.refl m
  | k + 1, _, h => (go_more h.inv).trans (run_more hs k (h.go hs))
theorem getV_other {s t : List Nat} {c : Nat} (hl : t.length = s.length) (hst : ∀ j : Nat, j ≠ c → t.getD j 0 = s.getD j 0) {i : Int} (hi : i ≠ (c : Int)) : Sx.getV t i = Sx.getV s i := by
  unfold Sx.getV
  rw [hl]
  split
  · rename_i hh
    obtain ⟨k, rfl, _⟩ := Sx.hasN_pos hh
    exact hst _ (by rintro rfl; exact hi rfl)
  · rfl
/-- two lists that differ at a cell which isn't read: the same run -/
theorem run_same {s t : List Nat} (hs : okS s) (ht : okS t) {c : Nat} (hl : t.length = s.length) (hst : ∀ j : Nat, j ≠ c → t.getD j 0 = s.getD j 0) : ∀ (k : Nat) {m : Mac}, Rest m → (∀ r ∈ (runN s k m).reads, r.1 ≠ (c : Int)) → runN t k m = runN s k m
  | 0, _, _, _ => rfl
  | k + 1, m, h, hr => by
    show runN t k (goM t m) = runN s k (goM s m)
    have e : goM t m = goM s m := by
      unfold goM
      by_cases h1 : (stepM m).2.kind = 1
      · rw [if_pos h1, if_pos h1]
        have hc : (stepM m).2.cell ≠ (c : Int) := by
          by_cases h0 : m.how = 0
          · obtain ⟨_, ⟨k1, _⟩ | ⟨k1, k2, k3, k4, k5⟩ | ⟨k1, _⟩⟩ := step_turns h.inv h.nw h0
            · rw [k1] at h1
              exact absurd h1 (by decide)
            · rw [k2]
              refine hr ((stepM m).1.wait, fixB (Sx.getV s (stepM m).2.cell)) ?_
              refine (run_more hs k (h.go hs)).reads.subset ?_
              rw [go_kind1 h1]
              unfold giveM
              rw [if_pos k3]
              exact List.mem_append.2 (.inr (by simp))
            · rw [h1] at k1
              rcases k1 with k | k | k <;> exact absurd k (by decide)
          · rw [step_over h.nw h0] at h1
            exact absurd (show (4 : Int) = 1 from h1) (by decide)
        rw [getV_other hl hst hc]
      · rw [if_neg h1, if_neg h1]
    rw [e]
    exact run_same hs ht hl hst k (h.go hs) hr
theorem end_same {s t : List Nat} (hs : okS s) (ht : okS t) {c : Nat} (hl : t.length = s.length) (hst : ∀ j : Nat, j ≠ c → t.getD j 0 = s.getD j 0) {m : Mac} (h : Rest m) (hr : ∀ r ∈ (endM s m).reads, r.1 ≠ (c : Int)) : endM t m = endM s m := run_same hs ht hl hst 1025 h hr
theorem setL_comm {s : List Nat} {c : Nat} {i : Int} (hi : i ≠ (c : Int)) (x y : Nat) : Sx.setL (s.set c y) i x = (Sx.setL s i x).set c y := by
  unfold Sx.setL
  rw [List.length_set]
  split
  · rename_i hh
    obtain ⟨k, rfl, _⟩ := Sx.hasN_pos hh
    exact List.set_comm _ _ (by rintro rfl; exact hi rfl)
  · rfl
theorem foldL_comm {c y : Nat} : ∀ (ts : Wr) (s : List Nat), (∀ t ∈ ts, t.1 ≠ (c : Int)) → Sx.foldL (s.set c y) ts = (Sx.foldL s ts).set c y
  | [], _, _ => rfl
  | t :: ts, s, h => by
    show Sx.foldL (Sx.setL (s.set c y) t.1 t.2) ts = (Sx.foldL (Sx.setL s t.1 t.2) ts).set c y
    rw [setL_comm (h t (by simp))]
    exact foldL_comm ts _ (fun u hu => h u (by simp [hu]))
theorem aftS_comm {s : List Nat} {c y : Nat} {m : Mac} (h : ∀ t ∈ m.buf, t.1 ≠ (c : Int)) : aftS (s.set c y) m = (aftS s m).set c y := by
  unfold aftS
  split
  · exact foldL_comm _ _ h
  · rfl
end Go.Proofs.YtmlklnimkgnbkaaGreatDoor
namespace Go.Proofs.YtmlklnimkgnbkaaGreatDoor
open Go.ChangeShapes Go.WideShapes Go.ChangeAt Go.RowKit Num

/-! under the tag that only reads -/
def downM (m : Mac) : Mac := { m with upd := false }
theorem give_down (m : Mac) (x : Nat) : giveM (downM m) x = downM (giveM m x) := by
  unfold giveM
  by_cases h : 0 ≤ m.wait
  · rw [if_pos h, if_pos (show 0 ≤ (downM m).wait from h)]
    rfl
  · rw [if_neg h, if_neg (show ¬ 0 ≤ (downM m).wait from h)]
/-- the same step, and nothing written; or a write, which fails -/
def Down (m : Mac) (r q : Mac × Ask) : Prop :=
  (q = (downM r.1, r.2) ∧ r.1.buf = []) ∨ (q.1.err = 81 ∧ q.1.how = 3 ∧ q.2.kind = 4 ∧ ¬ 0 ≤ q.1.wait ∧ q.1.reads = m.reads ∧ q.1.out = m.out ∧ q.1.used ≤ r.1.used)
theorem do_down {m : Mac} (hw : ¬ 0 ≤ m.wait) (hb : m.buf = []) {k : Nat} {n : Int} {x : Nat} (hk : 1 ≤ k ∧ k < 21) : Down m (doM (begM m) ⟨k, n, x⟩) (doM (begM (downM m)) ⟨k, n, x⟩) := by
  have hkk : k = 1 ∨ k = 2 ∨ k = 3 ∨ k = 4 ∨ k = 5 ∨ k = 6 ∨ k = 7 ∨ k = 8 ∨ k = 9 ∨ k = 10 ∨ k = 11 ∨ k = 12 ∨ k = 13 ∨ k = 14 ∨ k = 15 ∨ k = 16 ∨ k = 17 ∨ k = 18 ∨ k = 19 ∨ k = 20 := by omega
  rcases hkk with rfl | rfl | rfl | rfl | rfl | rfl | rfl | rfl | rfl | rfl | rfl | rfl | rfl | rfl | rfl | rfl | rfl | rfl | rfl | rfl
  iterate 14 exact .inl ⟨rfl, hb⟩
  · show Down m (retM (begM m)) (retM (begM (downM m)))
    cases hc : (begM m).calls with
    | nil => rw [retM_nil hc, retM_nil (show (begM (downM m)).calls = [] from hc)]; exact .inl ⟨rfl, hb⟩
    | cons c q => rw [retM_cons hc, retM_cons (show (begM (downM m)).calls = c :: q from hc)]; exact .inl ⟨rfl, hb⟩
  · show Down m (readM (begM m)) (readM (begM (downM m)))
    unfold readM
    cases ha : addrB (begM m) with
    | false => rw [if_neg (show ¬ addrB (begM (downM m)) = true by rw [show addrB (begM (downM m)) = addrB (begM m) from rfl, ha]; decide)]; exact .inl ⟨rfl, hb⟩
    | true =>
      rw [if_pos (show addrB (begM (downM m)) = true from ha)]
      cases hh : hasC (begM m).buf (addrV (begM m)) with
      | false => rw [if_neg (show ¬ hasC (begM (downM m)).buf (addrV (begM (downM m))) = true by rw [show hasC (begM (downM m)).buf (addrV (begM (downM m))) = hasC (begM m).buf (addrV (begM m)) from rfl, hh]; decide)]; exact .inl ⟨rfl, hb⟩
      | true => rw [if_pos (show hasC (begM (downM m)).buf (addrV (begM (downM m))) = true from hh)]; exact .inl ⟨rfl, hb⟩
  · refine .inr ⟨rfl, rfl, rfl, hw, rfl, rfl, ?_⟩
    show m.used + 1 ≤ (writeM (begM m)).1.used
    unfold writeM
    split
    · split
      · split
        · exact Int.le_refl _
        · exact Int.le_refl _
      · exact Int.le_refl _
    · exact Int.le_refl _
  · exact .inl ⟨rfl, hb⟩
  · exact .inl ⟨rfl, hb⟩
  · exact .inl ⟨rfl, hb⟩
theorem step_down {m : Mac} (h : Inv m) (hw : ¬ 0 ≤ m.wait) (h0 : m.how = 0) (hb : m.buf = []) : Down m (stepM m) (stepM (downM m)) := by
  unfold stepM
  rw [if_neg hw, if_pos h0, if_neg (show ¬ 0 ≤ (downM m).wait from hw), if_pos (show (downM m).how = 0 from h0)]
  by_cases hf : m.used < m.fuel
  · rw [if_pos hf, if_pos (show (downM m).used < (downM m).fuel from hf)]
    by_cases hp : m.place < (m.code.length : Int)
    · rw [if_pos hp, if_pos (show (downM m).place < ((downM m).code.length : Int) from hp)]
      have hk : m.place.toNat < m.code.length := by have := h.place; omega
      have hmay := h.may _ hk
      cases hr : roomB (begM m) (insM m) with
      | false => rw [if_neg (show ¬ roomB (begM (downM m)) (insM (downM m)) = true by rw [show roomB (begM (downM m)) (insM (downM m)) = roomB (begM m) (insM m) from rfl, hr]; decide)]; exact .inl ⟨rfl, hb⟩
      | true =>
        rw [if_pos (show roomB (begM (downM m)) (insM (downM m)) = true from hr), if_pos rfl]
        show Down m (doM (begM m) (insM m)) (doM (begM (downM m)) (insM m))
        unfold insM
        rcases hci : ci m.code m.place.toNat with ⟨o, n, x⟩
        rw [hci] at hmay
        obtain ⟨q, hq⟩ : ∃ q : Nat, o = q := ⟨o.toNat, by have := hmay.1; unfold mayB knownB at this; simp at this; omega⟩
        subst hq
        exact do_down hw hb (fits_parts hmay.1).1
    · rw [if_neg hp, if_neg (show ¬ (downM m).place < ((downM m).code.length : Int) from hp)]
      exact .inl ⟨rfl, hb⟩
  · rw [if_neg hf, if_neg (show ¬ (downM m).used < (downM m).fuel from hf)]
    exact .inl ⟨rfl, hb⟩
theorem run_down {s : List Nat} (hs : okS s) : ∀ (k : Nat) {m : Mac}, Rest m → m.buf = [] → (runN s k (downM m) = downM (runN s k m) ∧ (runN s k m).buf = []) ∨ ((runN s k (downM m)).err = 81 ∧ More (runN s k (downM m)) (runN s k m))
  | 0, _, _, hb => .inl ⟨rfl, hb⟩
  | k + 1, m, h, hb => by
    show (runN s k (goM s (downM m)) = downM (runN s k (goM s m)) ∧ (runN s k (goM s m)).buf = []) ∨ ((runN s k (goM s (downM m))).err = 81 ∧ More (runN s k (goM s (downM m))) (runN s k (goM s m)))
    by_cases h0 : m.how = 0
    · rcases step_down h.inv h.nw h0 hb with ⟨e1, e2⟩ | ⟨e1, e2, e3, e4, e5, e6, e7⟩
      · have e : goM s (downM m) = downM (goM s m) := by
          unfold goM
          rw [e1]
          show (if (stepM m).2.kind = 1 then giveM (downM (stepM m).1) (Sx.getV s (stepM m).2.cell) else downM (stepM m).1) = _
          split
          · exact give_down _ _
          · rfl
        rw [e]
        exact run_down hs k (h.go hs) (by rw [go_buf]; exact e2)
      · have e : goM s (downM m) = (stepM (downM m)).1 := go_kindN (by rw [e3]; decide)
        rw [e, runN_over e4 (by rw [e2]; decide)]
        refine .inr ⟨e1, More.trans ?_ (run_more hs k (h.go hs))⟩
        have hm := go_more (s := s) h.inv
        refine ⟨e5 ▸ hm.reads, e6 ▸ hm.out, Int.le_trans e7 ?_⟩
        unfold goM
        split
        · exact (give_more _ _).used
        · exact Int.le_refl _
    · rw [go_over h.nw h0, go_over (show ¬ 0 ≤ (downM m).wait from h.nw) (show (downM m).how ≠ 0 from h0)]
      exact run_down hs k h hb
/-- up to its first write, the same under either tag -/
theorem run_down' {s : List Nat} (hs : okS s) (k : Nat) {m : Mac} (h : Rest m) (hb : m.buf = []) : More (runN s k (downM m)) (runN s k m) ∧ ((runN s k (downM m)).err ≠ 81 → runN s k (downM m) = downM (runN s k m) ∧ (runN s k m).buf = []) := by
  rcases run_down hs k h hb with ⟨e1, e2⟩ | ⟨e1, e2⟩
  · refine ⟨?_, fun _ => ⟨e1, e2⟩⟩
    rw [e1]
    exact More.of rfl rfl (Int.le_refl _)
  · exact ⟨e2, fun h => absurd e1 h⟩
theorem end_down {s : List Nat} (hs : okS s) {m : Mac} (h : Rest m) (hb : m.buf = []) : More (endM s (downM m)) (endM s m) ∧ ((endM s (downM m)).err ≠ 81 → endM s (downM m) = downM (endM s m) ∧ (endM s m).buf = []) := run_down' hs 1025 h hb
theorem check_tag (c : List Ins) : checkB 1 c = checkB 2 c := by unfold checkB; rfl
theorem new_down (a f e : Int) (c : List Ins) (l : List Nat) : newM a f e 1 c l = downM (newM a f e 2 c l) := by
  unfold newM
  rw [check_tag]
  rfl
end Go.Proofs.YtmlklnimkgnbkaaGreatDoor
namespace Go.Proofs.YtmlklnimkgnbkaaGreatDoor
open Go.ChangeShapes Go.WideShapes Go.ChangeAt Go.RowKit Num
attribute [local go_sem] run_store_float

/-! AloneTag -/
theorem tag_run {a b c e : Int} {cs : List Ins} {l s : List Nat} (hs : okS s) (hx : ∀ i ∈ cs, i.x < 18446744073709551616) (hl : ∀ x ∈ l, x < 18446744073709551616) : More (runR a b c e 1 cs l s) (runR a b c e 2 cs l s) ∧ ((runR a b c e 1 cs l s).err ≠ 81 → runR a b c e 1 cs l s = downM (runR a b c e 2 cs l s) ∧ (runR a b c e 2 cs l s).buf = []) := by
  cases hg : goodB a b c e s.length l.length with
  | false =>
    rw [runR_bad hg, runR_bad hg]
    exact ⟨More.refl _, fun _ => ⟨rfl, rfl⟩⟩
  | true =>
    rw [runR_good hg, runR_good hg, new_down]
    have hc : Md.cfgB a b c e = true := by unfold goodB at hg; simp only [Bool.and_eq_true] at hg; exact hg.1.1
    exact end_down hs (new_rest hc (fun j hj => hx _ (List.mem_of_getElem? (ci_lt hj))) hl) rfl
structure TgK (v2 wc : World) (g : Nat) (R : Rs) (m : Mac) : Prop where
  bel : Below v2.heap.size v2 wc
  box : wc.heap[g]? = some (.cells (resC R m) 44)
  res : ResAt wc v2.heap.size R m
  hg : v2.heap.size ≤ g
theorem tg_new {v2 u v : World} {B : Nat} {R : Rs} {m : Mac} (hB : Below v2.heap.size v2 u) (hR : ResAt u B R m) (hn : v2.heap.size ≤ B) (hv : Same (u.alloc (.cells (resC R m) 44)) v) : TgK v2 v u.heap.size R m :=
  ⟨(hB.alloc hB.size _).trans (hv.below _), by rw [hv.heap]; exact heap_alloc_new _ _, ((hR.mono hn).on (below_alloc _ _)).on (hv.below _), hB.size⟩
theorem tg_put {v2 u v : World} {B g : Nat} {R : Rs} {m : Mac} (hB : Below v2.heap.size v2 u) (hR : ResAt u B R m) (hb : u.heap[g]? = some resZ) (hg : v2.heap.size ≤ g) (hgB : g < B) (hv : Same (((((((u.setCell ⟨g, 0, none⟩ (.int .i64 m.how)).setCell ⟨g, 1, none⟩ (.int .i64 m.cod)).setCell ⟨g, 2, none⟩ (.int .i64 m.err)).setCell ⟨g, 3, none⟩ (.slice R.po m.out.length R.co)).setCell ⟨g, 4, none⟩ (.slice R.pr m.reads.length R.cr)).setCell ⟨g, 5, none⟩ (.slice R.pw m.buf.length R.cw)).setCell ⟨g, 6, none⟩ (.int .i64 m.used)) v) : TgK v2 v g R m := by
  have t := (turn_set7 u g (.int .i64 m.how) (.int .i64 m.cod) (.int .i64 m.err) (.slice R.po m.out.length R.co) (.slice R.pr m.reads.length R.cr) (.slice R.pw m.buf.length R.cw) (.int .i64 m.used)).trans (hv.turn [g])
  exact ⟨hB.trans (t.below (fun x hx => by simp at hx; omega) hB.size), by rw [hv.heap]; exact box_set7 hb, (hR.turn t (fun x hx => by simp at hx; omega)).mono (by omega), hg⟩
theorem res_caps {u : World} {R1 : Rs} {B1 : Nat} {m : Mac} (h : ResAt u B1 R1 m) : (m.reads.length : Int) ≤ (R1.cr : Int) ∧ (m.out.length : Int) ≤ (R1.co : Int) ∧ ((R1.pr = none ∧ m.reads.length = 0 ∧ R1.cr = 0) ∨ ∃ x, R1.pr = some ⟨x, 0, none⟩) ∧ ((R1.po = none ∧ m.out.length = 0 ∧ R1.co = 0) ∨ ∃ x, R1.po = some ⟨x, 0, none⟩) := by
  have hr : m.reads.length ≤ R1.cr ∧ ((R1.pr = none ∧ m.reads.length = 0 ∧ R1.cr = 0) ∨ ∃ x, R1.pr = some ⟨x, 0, none⟩) := by
    rcases h.reads.own.2 with ⟨q, hn⟩ | ⟨g, cap, cur, hv, _, _, hc, _⟩
    · have := Value.slice.inj q
      exact ⟨by omega, .inl ⟨this.1, this.2.1, this.2.2⟩⟩
    · have := Value.slice.inj hv
      exact ⟨by omega, .inr ⟨g, this.1⟩⟩
  have ho : m.out.length ≤ R1.co ∧ ((R1.po = none ∧ m.out.length = 0 ∧ R1.co = 0) ∨ ∃ x, R1.po = some ⟨x, 0, none⟩) := by
    rcases h.out.own.2 with ⟨q, hn⟩ | ⟨g, cap, cur, hv, _, _, hc, _⟩
    · have := Value.slice.inj q
      rw [fls_len] at this
      exact ⟨by omega, .inl ⟨this.1, this.2.1, this.2.2⟩⟩
    · have := Value.slice.inj hv
      rw [fls_len] at this hc
      exact ⟨by omega, .inr ⟨g, this.1⟩⟩
  exact ⟨by omega, by omega, hr.2, ho.2⟩
theorem FlAt.pre {w : World} {p : Option Addr} {l k : List Nat} (h : FlAt w p l) (hp : k <+: l) : FlAt w p k := fun j hj => by
  obtain ⟨r, rfl⟩ := hp
  obtain ⟨g, o, e, hg, hc⟩ := h j (by rw [List.length_append]; omega)
  refine ⟨g, o, e, hg, ?_⟩
  rw [hc, List.getD_eq_getElem?_getD, List.getD_eq_getElem?_getD, List.getElem?_append_left hj]
theorem TlAt.pre {w : World} {p : Option Addr} {l k : Wr} (h : TlAt w p l) (hp : k <+: l) : TlAt w p k := fun j hj => by
  obtain ⟨r, rfl⟩ := hp
  obtain ⟨g, o, e, hg, hc, hd⟩ := h j (by rw [List.length_append]; omega)
  rw [List.getD_eq_getElem?_getD, List.getElem?_append_left hj, ← List.getD_eq_getElem?_getD] at hc hd
  exact ⟨g, o, e, hg, hc, hd⟩
end Go.Proofs.YtmlklnimkgnbkaaGreatDoor
namespace Go.Proofs.YtmlklnimkgnbkaaGreatDoor
open Go.ChangeShapes Go.WideShapes Go.ChangeAt Go.RowKit Num

/-! AloneFrame, without the walk -/
theorem okS_set {s : List Nat} (hs : okS s) (i : Nat) {y : Nat} (hy : okN y) : okS (s.set i y) := fun x hx => by
  rcases List.mem_or_eq_of_mem_set hx with h | rfl
  · exact hs x h
  · exact hy

theorem setN_other {s : List Nat} {i y j : Nat} (h : j ≠ i) : (s.set i y).getD j 0 = s.getD j 0 := by
  rw [List.getD_eq_getElem?_getD, List.getD_eq_getElem?_getD, List.getElem?_set_ne (fun q => h q.symm)]
theorem frame_run {a b c e t : Int} {cs : List Ins} {l s : List Nat} (hs : okS s) (hx : ∀ i ∈ cs, i.x < 18446744073709551616) (hl : ∀ x ∈ l, x < 18446744073709551616) (i : Nat) {y : Nat} (hy : okN y) (hr : ∀ r ∈ (runR a b c e t cs l s).reads, r.1 ≠ (i : Int)) : runR a b c e t cs l (s.set i y) = runR a b c e t cs l s := by
  cases hg : goodB a b c e s.length l.length with
  | false => rw [runR_bad hg, runR_bad (by rw [List.length_set]; exact hg)]
  | true =>
    rw [runR_good hg] at hr ⊢
    rw [runR_good (by rw [List.length_set]; exact hg)]
    have hc : Md.cfgB a b c e = true := by unfold goodB at hg; simp only [Bool.and_eq_true] at hg; exact hg.1.1
    exact end_same hs (okS_set hs i hy) (List.length_set ..) (fun j hj => setN_other hj) (new_rest hc (fun j hj => hx _ (List.mem_of_getElem? (ci_lt hj))) hl) hr
theorem one_fl {w : World} {g x : Nat} (h : w.heap[g]? = some (.cells #[.float .f64 x] 50)) : FlAt w (some ⟨g, 0, none⟩) [x] := fun k hk => by
  obtain rfl : k = 0 := by simpa using hk
  exact ⟨g, 0, rfl, lt_of_block h, by rw [cell_of_row _ _ _ _ _ _ h]; rfl⟩
theorem part_fl {w : World} {g c i y : Nat} {l : List Nat} (h : RowAt 50 w (some ⟨g, 0, none⟩) c (fls l)) (hi : i < l.length) (hy : l.getD i 0 = y) : FlAt w (some ⟨g, i, none⟩) [y] := fun k hk => by
  obtain rfl : k = 0 := by simpa using hk
  obtain ⟨g2, e1, e2, e3, _⟩ := Sx.row_getD h i hi
  cases e1
  exact ⟨g, i, rfl, e2, by rw [Nat.add_zero, e3, hy]; rfl⟩
theorem set_at {l : List Nat} {i y : Nat} (hi : i < l.length) : (l.set i y).getD i 0 = y := by simp [hi]
end Go.Proofs.YtmlklnimkgnbkaaGreatDoor
namespace Go.Proofs.YtmlklnimkgnbkaaGreatDoor
open Go.ChangeShapes Go.WideShapes Go.ChangeAt Go.RowKit Num
attribute [local go_sem] run_store_float

/-- the cell, whatever the number that is asked for -/
theorem cell_in (c : Int) {n : Nat} (hn : 0 < n) (hm : n ≤ 256) : ∃ i : Nat, i < n ∧ (wrap64 (c.tmod n + n)).tmod n = (i : Int) := by
  have hn' : (0 : Int) < (n : Int) := by omega
  have h1 : -(n : Int) < c.tmod n := by
    have := Int.lt_tmod_of_pos c hn'
    omega
  have h2 : c.tmod n < (n : Int) := Int.tmod_lt_of_pos c hn'
  have e1 := Go.IntWalk.wrap64_in (c.tmod n + n) ⟨by omega, by omega⟩
  rw [e1, Int.tmod_eq_emod_of_nonneg (by omega)]
  have h3 := Int.emod_nonneg (c.tmod n + n) (Int.ne_of_gt hn')
  have h4 := Int.emod_lt_of_pos (c.tmod n + n) hn'
  exact ⟨((c.tmod n + n) % n).toNat, by omega, by omega⟩
set_option maxHeartbeats 16000000 in
set_option maxRecDepth 100000 in
theorem lawFrame_any {W : World} {a b c e t : Int} {ao : Option Addr} {cs : List Ins} {n cap : Nat} {po : Option Addr} {l : List Nat} {k co : Nat} {ps : Option Addr} {st : List Nat} {ns cst : Nat} (hT : Shaped5 W) (hn : cs.length = n) (hk : l.length = k) (hC : CodeAt W ao cs) (hx : ∀ i ∈ cs, i.x < 18446744073709551616) (hL : FlAt W po l) (hl : ∀ x ∈ l, x < 18446744073709551616) (hnl : n ≤ 9223372036854775807) (hns : st.length = ns) (hS : FlAt W ps st) (hst : ∀ x ∈ st, x < 18446744073709551616) {cl : Int} {x : Nat} (hxx : x < 18446744073709551616) : Calls Tryz.prog 5 #[cfgV a b c e, .agg #[.int .i64 t, .slice ao n cap], .slice po k co, .slice ps ns cst, .int .i64 cl, .float .f64 x] W fun r w' => r = .returned (.bool true) ∧ Below W.heap.size W w' := by
  have HLV := Lib.hid (live_any (hT.on (newW_below W a b c e t ao n cap)))
  cases hmay : Sx.mayN (ns : Int)
  · have HGN : Hid (∀ u, Calls Tryz.prog 7 #[.slice ps ns cst] u fun e w' => e = .returned (.tuple #[.pointer none, .bool true]) ∧ w' = u) := fun u => given_none hns hmay
    clear hT hC hx hL hl hS hst hnl hmay hn hk hns
    go_enter Tryz.func5, Tryz.ntmps5
    go_wp2_with (first
      | (go_at_call 7; refine (HGN.out _).mono ?_; rintro r w' ⟨rfl, hw⟩; subst w')
      | (go_at_call 6; refine HLV.out.mono ?_; rintro r u0 ⟨rfl, q⟩; obtain ⟨v0, v1, v2, v3, v4⟩ := newW_boxes4 q; obtain ⟨_, ⟨y0, y1, y2⟩, _⟩ := newW_boxes q; have B0 := Lib.hid q; clear q))
    go_ret
    exact ⟨rfl, (newW_boxes B0.out).2.2⟩
  · have HGI : Hid (∀ u, Below W.heap.size W u → Calls Tryz.prog 7 #[.slice ps ns cst] u fun e w' => ∃ b F, e = .returned (.tuple #[.pointer (some ⟨b, 0, none⟩), .bool true]) ∧ Sx.Cel 77 w' b F (st.map fixB) ∧ Abv u.heap.size F ∧ Below u.heap.size u w') := fun u hb => given_some hns (hS.on hb) hmay
    have hok : okS (st.map fixB) := okS_map hst
    have hsl : (st.map fixB).length = ns := by rw [List.length_map]; exact hns
    have HRN : Hid (∀ u b1 F, Below W.heap.size W u → Sx.Cel 77 u b1 F (st.map fixB) → Calls Tryz.prog 16 #[cfgV a b c e, .agg #[.int .i64 t, .slice ao n cap], .slice po k co, .pointer (some ⟨b1, 0, none⟩)] u fun r w' => ∃ R, r = .returned (.tuple #[resV R (runR a b c e t cs l (st.map fixB)), .int .i64 (runE a b c e (st.map fixB).length k)]) ∧ ResAt w' u.heap.size R (runR a b c e t cs l (st.map fixB)) ∧ Sx.Cel 77 w' b1 F (aftS (st.map fixB) (runR a b c e t cs l (st.map fixB))) ∧ Turn F F u w') := fun u b1 F hb hc => run_any (hT.on hb) hn hk (hC.on hb) hx (hL.on hb) hl hnl hc hok
    have hmn : 1 ≤ ns ∧ ns ≤ 256 := by unfold Sx.mayN at hmay; simp at hmay; omega
    have hnz : ((ns : Int) == 0) = false := by simp; omega
    obtain ⟨ci, hci, hce0⟩ := cell_in cl (n := ns) (by omega) hmn.2
    have HCE := Lib.hid hce0
    clear hce0
    have HST : Hid (∀ u b1 F, Sx.Cel 77 u b1 F (st.map fixB) → Calls Tryz.prog 15 #[.pointer (some ⟨b1, 0, none⟩), .int .i64 ci, .float .f64 x] u fun r w' => r = .returned (.int .i64 0) ∧ Sx.Cel 77 w' b1 F ((st.map fixB).set ci (fixB x)) ∧ Turn F F u w') := fun u b1 F h => (Sx.set_any h (ci : Int) x).mono fun r w' ⟨q1, q2, q3⟩ => by
      have hh : Sx.hasN (st.map fixB).length (ci : Int) = true := by rw [Sx.hasN_nat, hsl]; exact decide_eq_true hci
      unfold Sx.cellE at q1
      unfold Sx.setL at q2
      rw [if_pos hh] at q1 q2
      exact ⟨q1, q2, q3⟩
    have HTO := Lib.hid (runR_told (a := a) (b := b) (c := c) (e := e) (t := t) hok hx hl)
    have HRT0 : Hid ((∀ r ∈ (runR a b c e t cs l (st.map fixB)).reads, r.1 ≠ (ci : Int)) → (∀ r ∈ (runR a b c e t cs l (st.map fixB)).buf, r.1 ≠ (ci : Int)) → ∀ u b1 F, Below W.heap.size W u → Sx.Cel 77 u b1 F ((st.map fixB).set ci (fixB x)) → Calls Tryz.prog 16 #[cfgV a b c e, .agg #[.int .i64 t, .slice ao n cap], .slice po k co, .pointer (some ⟨b1, 0, none⟩)] u fun r w' => ∃ R, r = .returned (.tuple #[resV R (runR a b c e t cs l (st.map fixB)), .int .i64 (runE a b c e (st.map fixB).length k)]) ∧ ResAt w' u.heap.size R (runR a b c e t cs l (st.map fixB)) ∧ Sx.Cel 77 w' b1 F ((aftS (st.map fixB) (runR a b c e t cs l (st.map fixB))).set ci (fixB x)) ∧ Turn F F u w') := fun h1 h2 u b1 F hb hc => by
      have h := run_any (a := a) (b := b) (c := c) (e := e) (t := t) (cap := cap) (co := co) (hT.on hb) hn hk (hC.on hb) hx (hL.on hb) hl hnl hc (okS_set hok ci (okN_fix hxx))
      rw [frame_run hok hx hl ci (okN_fix hxx) h1, aftS_comm h2, List.length_set] at h
      exact h
    have hsA : (aftS (st.map fixB) (runR a b c e t cs l (st.map fixB))).length = ns := by rw [aftS_len]; exact hsl
    generalize runR a b c e t cs l (st.map fixB) = m at HRN HRT0 HTO hsA
    generalize runE a b c e (st.map fixB).length k = er at HRN HRT0
    have her : (er != er) = false := by simp
    generalize aftS (st.map fixB) m = sA at HRN HRT0 hsA
    have hsB : (sA.set ci (fixB x)).length = ns := by rw [List.length_set]; exact hsA
    have HSA := Lib.hid hsA
    have HSB := Lib.hid hsB
    have HAL : Hid (∀ u b1 F s, s.length = ns → Sx.Cel 77 u b1 F s → Calls Tryz.prog 12 #[.pointer (some ⟨b1, 0, none⟩)] u fun e w' => e = .returned (.slice (some ⟨u.heap.size, 0, none⟩) ns ns) ∧ RowAt 50 w' (some ⟨u.heap.size, 0, none⟩) ns (fls s) ∧ Below u.heap.size u w') := fun u b1 F s h0 h => by subst h0; exact Sx.all_any h
    have HEX : Hid (∀ u p q c1 c2, FlAt u p (sA.set ci (fixB x)) → FlAt u q (sA.set ci (fixB x)) → Calls Tryz.prog 11 #[.slice p ns c1, .slice q ns c2] u fun e w' => e = .returned (.bool true) ∧ Same u w') := fun u p q c1 c2 h1 h2 => exact_at hsB (by omega) h1 h2
    have HE1 : Hid (∀ u p q c1 c2, FlAt u p [fixB x] → FlAt u q [fixB x] → Calls Tryz.prog 11 #[.slice p 1 c1, .slice q 1 c2] u fun e w' => e = .returned (.bool true) ∧ Same u w') := fun u p q c1 c2 h1 h2 => exact_at rfl (by omega) h1 h2
    have HNU : Hid (∀ u p c1, FlAt u p [x] → Calls Tryz.prog 8 #[.slice p 1 c1] u fun r w' => ∃ p' c', r = .returned (.slice p' 1 c') ∧ RowAt 50 w' p' c' (fls [fixB x]) ∧ Abv u.heap.size (fpR p') ∧ Below u.heap.size u w') := fun u p c1 h => numbers_any (l := [x]) rfl h (by omega)
    have HRS : Hid (∀ u R Q, WantAt u R m → WantAt u Q m → Calls Tryz.prog 13 #[resV R m, resV Q m] u fun e w' => e = .returned (.bool true) ∧ Below u.heap.size u w') := fun u R Q h1 h2 => result_any HTO.out h1 h2
    clear hT hC hx hL hl hS hst hnl hmay hn hk hns hok hsl hsA hsB hxx
    go_enter Tryz.func5, Tryz.ntmps5
    have hce := HCE.out
    go_upto_region 6 with (first
      | (go_at_call 7; refine (HGI.out _ (newW_boxes B0.out).2.2).mono ?_; rintro r u1 ⟨b1, F, rfl, q1, q2, q3⟩; have q4 := B0.out.trans (q3.mono B0.out.size); obtain ⟨v0, v1, v2, v3, v4⟩ := newW_boxes4 q4; obtain ⟨_, ⟨y0, y1, y2⟩, _⟩ := newW_boxes q4; have C1 := Lib.hid q1; have A1 := Lib.hid q2; have B1 := Lib.hid q4; clear q1 q2 q3 q4)
      | (go_at_call 6; refine HLV.out.mono ?_; rintro r u0 ⟨rfl, q⟩; obtain ⟨v0, v1, v2, v3, v4⟩ := newW_boxes4 q; obtain ⟨_, ⟨y0, y1, y2⟩, _⟩ := newW_boxes q; have B0 := Lib.hid q; clear q))
    clear hce HCE
    go_wp2_with (first
      | (go_at_call 16; refine (HRN.out _ _ _ (newW_boxes B3.out).2.2 D3.out).mono ?_; rintro r u4 ⟨R, rfl, q1, q2, q3⟩; have q4 := q3.shaped B3.out (A1.out.mono B0.out.size); have E4 := Lib.hid q1; have C4 := Lib.hid q2; have D4 := Lib.hid (C3.out.turn q3 (fun x hx y => by have := A2.out x hx; have := G1.out x y; omega)); have B4 := Lib.hid q4; clear q1 q2 q3 q4)
      | (go_at_call 15; refine (HST.out _ _ _ C2.out).mono ?_; rintro r u3 ⟨rfl, q1, q2⟩; have q4 := q2.shaped B2.out (A2.out.mono B1.out.size); obtain ⟨v0, v1, v2, v3, v4⟩ := newW_boxes4 q4; obtain ⟨_, ⟨y0, y1, y2⟩, _⟩ := newW_boxes q4; have C3 := Lib.hid q1; have D3 := Lib.hid (D2.out.turn q2 (fun x hx y => by have := A2.out x y; have := G1.out x hx; omega)); have B3 := Lib.hid q4; clear q1 q2 q4)
      | (go_at_call 14; refine (Sx.clone_any C1.out).mono ?_; rintro r u2 ⟨b2, F2, rfl, q1, q2, q3⟩; have q4 := B1.out.trans (q3.mono B1.out.size); obtain ⟨v0, v1, v2, v3, v4⟩ := newW_boxes4 q4; obtain ⟨_, ⟨y0, y1, y2⟩, _⟩ := newW_boxes q4; have C2 := Lib.hid q1; have A2 := Lib.hid q2; have G1 : Hid (∀ x ∈ F, x < u1.heap.size) := C1.out.blw; have D2 := Lib.hid (C1.out.on q3); have B2 := Lib.hid q4; clear q1 q2 q3 q4))
    have V4 : Hid (Below u4.heap.size u4 ((u4.alloc (.cells (resC R m) 44)).alloc (.cells #[.slice R.pr m.reads.length R.cr, .slice R.pw m.buf.length R.cw] 42))) := (below_alloc u4 _).trans ((below_alloc _ _).mono (Nat.le_of_lt (by simp)))
    have XR : Hid (((u4.alloc (.cells (resC R m) 44)).alloc (.cells #[.slice R.pr m.reads.length R.cr, .slice R.pw m.buf.length R.cw] 42)).heap[u4.heap.size]? = some (.cells (resC R m) 44)) := (heap_alloc_old _ _ (by simp)).trans (heap_alloc_new _ _)
    have XQ : Hid (((u4.alloc (.cells (resC R m) 44)).alloc (.cells #[.slice R.pr m.reads.length R.cr, .slice R.pw m.buf.length R.cw] 42)).heap[u4.heap.size + 1]? = some (.cells #[.slice R.pr m.reads.length R.cr, .slice R.pw m.buf.length R.cw] 42)) := heap_new (by simp)
    have BV : Hid (Below (newW W a b c e t ao n cap).heap.size (newW W a b c e t ao n cap) ((u4.alloc (.cells (resC R m) 44)).alloc (.cells #[.slice R.pr m.reads.length R.cr, .slice R.pw m.buf.length R.cw] 42))) := B4.out.trans (V4.out.mono B4.out.size)
    have HTR : Hid (TRow ((u4.alloc (.cells (resC R m) 44)).alloc (.cells #[.slice R.pr m.reads.length R.cr, .slice R.pw m.buf.length R.cw] 42)) R.pr R.cr m.reads ∧ TRow ((u4.alloc (.cells (resC R m) 44)).alloc (.cells #[.slice R.pr m.reads.length R.cr, .slice R.pw m.buf.length R.cw] 42)) R.pw R.cw m.buf) := ⟨E4.out.reads.on V4.out, E4.out.writes.on V4.out⟩
    have E5 := Lib.hid (E4.out.on V4.out)
    have C5 := Lib.hid (C4.out.on V4.out)
    have D5 := Lib.hid (D4.out.on V4.out)
    have A2W : Hid (Abv W.heap.size F2) := A2.out.mono (newW_boxes B1.out).2.2.size
    have HSP : Hid (Sep F F2) := fun x hx y => by have := A2.out x y; have := G1.out x hx; omega
    have H2L : Hid (∀ x ∈ F2, x < u3.heap.size) := C3.out.blw
    have HNF : Hid (u4.heap.size ∉ F2) := fun hx => absurd (D4.out.blw _ hx) (Nat.lt_irrefl _)
    clear V4 E4 C4 D4 C3 D3 B3 C2 D2 A2 A1 B0 B1 B2 HGI HLV HST HRN G1
    generalize (u4.alloc (.cells (resC R m) 44)).alloc (.cells #[.slice R.pr m.reads.length R.cr, .slice R.pw m.buf.length R.cw] 42) = v at *
    go_loopw [74] (fun vi wr => ∃ j : Nat, vi = .int .i64 j ∧ j ≤ 2 ∧ Hid (Below v.heap.size v wr ∧ (1 ≤ j → ∀ r ∈ m.reads, r.1 ≠ (ci : Int)) ∧ (2 ≤ j → ∀ r ∈ m.buf, r.1 ≠ (ci : Int)))) (fun vi _ => 2 - (intOf vi).toNat)
    case atStart => exact ⟨0, rfl, by omega, Below.refl _ _, fun h => absurd h (by omega), fun h => absurd h (by omega)⟩
    case round =>
      obtain ⟨j, rfl, hj, HQ⟩ := hrel
      by_cases hlt : j < 2
      · have hlt' : (j : Int) < 2 := by omega
        obtain ⟨tp, tn, tc, tl, hcl, htn, htm, HTL, HNX⟩ : ∃ (tp : Option Addr) (tn tc : Nat) (tl : Wr), wr.cell? ⟨u4.heap.size + 1, j, none⟩ = some (.slice tp tn tc) ∧ tl.length = tn ∧ tn ≤ 1024 ∧ Hid (TRow v tp tc tl) ∧ Hid ((∀ r ∈ tl, r.1 ≠ (ci : Int)) → (1 ≤ j + 1 → ∀ r ∈ m.reads, r.1 ≠ (ci : Int)) ∧ (2 ≤ j + 1 → ∀ r ∈ m.buf, r.1 ≠ (ci : Int))) := by
          obtain ⟨c0, c1, _⟩ := cells2_of ((HQ.out.1.block _ (lt_of_block XQ.out)).trans XQ.out)
          have hj2 : j = 0 ∨ j = 1 := by omega
          rcases hj2 with rfl | rfl
          · exact ⟨_, _, _, m.reads, c0, rfl, HTO.out.reads, HTR.out.1, fun h => ⟨fun _ => h, fun h2 => absurd h2 (by omega)⟩⟩
          · exact ⟨_, _, _, m.buf, c1, rfl, HTO.out.buf, HTR.out.2, fun h => ⟨fun _ => HQ.out.2.1 (by omega), fun _ => h⟩⟩
        have hlb : u4.heap.size + 1 < wr.heap.size := Nat.lt_of_lt_of_le (lt_of_block XQ.out) HQ.out.1.size
        have HTN : Hid (tl.length = tn) := htn
        have HB2 := Lib.hid HQ.out.1
        clear HQ htn
        go_wp2_with fail
        go_loopw [80] (fun vi wr => ∃ i : Nat, vi = .int .i64 i ∧ i ≤ tn ∧ Hid (Below v.heap.size v wr ∧ ∀ r ∈ tl.take i, r.1 ≠ (ci : Int))) (fun vi _ => tn - (intOf vi).toNat)
        case atStart => exact ⟨0, rfl, Nat.zero_le _, HB2.out, fun r hr => by simp at hr⟩
        case round =>
          obtain ⟨i, rfl, hi, HS⟩ := hrel
          by_cases hil : i < tn
          · have hil' : (i : Int) < (tn : Int) := by omega
            have hil2 : i < tl.length := by rw [HTN.out]; exact hil
            obtain ⟨g, e1, e2, e3, e4, _⟩ := (HTL.out.on HS.out.1).at i hil2
            have HBA : Hid (∀ ob, Below v.heap.size v (wr.alloc ob)) := fun ob => HS.out.1.alloc HS.out.1.size ob
            have HTK : Hid (tl[i].1 ≠ (ci : Int) → ∀ r ∈ tl.take (i + 1), r.1 ≠ (ci : Int)) := fun h r hr => by
              rw [List.take_add_one, List.getElem?_eq_getElem hil2] at hr
              rcases List.mem_append.1 hr with hr | hr
              · exact HS.out.2 r hr
              · simp at hr
                subst hr
                exact h
            subst e1
            clear HS
            by_cases hfd : tl[i].1 = (ci : Int)
            · rw [hfd] at e3
              generalize tl[i].2 = yx at e4
              have BF : Hid (∀ ob, Below W.heap.size W (wr.alloc ob)) := fun ob => (newW_boxes BV.out).2.2.trans ((HBA.out ob).mono (newW_boxes BV.out).2.2.size)
              clear HTK HBA hfd
              go_wp2_with fail
              go_ret
              exact ⟨rfl, BF.out _⟩
            · have HNT := Lib.hid (HTK.out hfd)
              generalize tl[i].2 = yx at e4
              generalize tl[i].1 = yc at e3 hfd
              have hfb : (yc == (ci : Int)) = false := by simpa using hfd
              clear HTK hfd
              go_wp2_with fail
              exact ⟨⟨i + 1, by first | rfl | (congr 1), by omega, HBA.out _, HNT.out⟩, by simp [intOf]; omega⟩
          · have hil' : ¬ (i : Int) < (tn : Int) := by omega
            have HN2 : Hid (Below v.heap.size v wr ∧ (1 ≤ j + 1 → ∀ r ∈ m.reads, r.1 ≠ (ci : Int)) ∧ (2 ≤ j + 1 → ∀ r ∈ m.buf, r.1 ≠ (ci : Int))) := ⟨HS.out.1, HNX.out (fun r hr => HS.out.2 r (by rw [List.take_of_length_le (by rw [HTN.out]; omega)]; exact hr))⟩
            clear HS
            go_wp2_with fail
            exact ⟨⟨j + 1, by first | rfl | (congr 1), by omega, HN2.out⟩, by simp [intOf]; omega⟩
      · have hlt' : ¬ (j : Int) < 2 := by omega
        have HRT := Lib.hid (HRT0.out (HQ.out.2.1 (by omega)) (HQ.out.2.2 (by omega)))
        have E6 := Lib.hid (E5.out.on HQ.out.1)
        have C6 := Lib.hid (C5.out.on HQ.out.1)
        have D6 := Lib.hid (D5.out.on HQ.out.1)
        have X6 : Hid (wr.heap[u4.heap.size]? = some (.cells (resC R m) 44)) := (HQ.out.1.block _ (lt_of_block XR.out)).trans XR.out
        have BN6 := Lib.hid (BV.out.trans (HQ.out.1.mono BV.out.size))
        have BW6 := Lib.hid (newW_boxes BN6.out).2.2
        obtain ⟨v0, v1, v2, v3, v4⟩ := newW_boxes4 BN6.out
        obtain ⟨_, ⟨y0, y1, y2⟩, _⟩ := newW_boxes BN6.out
        obtain ⟨wo, rfl⟩ : ∃ wo : World, wo = wr := ⟨_, rfl⟩
        clear HQ HRT0 E5 C5 D5 XR XQ BV BN6 HTR
        go_upto_region 25 with (first
          | (go_at_call 12; refine (HAL.out _ _ _ _ HSB.out D9.out).mono ?_; rintro r w10 ⟨rfl, q1, q2⟩; have R10 := Lib.hid (And.intro (R9.out.on q2) q1); have L10 : Hid (w8.heap.size < w9.heap.size ∧ w9.heap.size < w10.heap.size) := ⟨R9.out.blw _ (by simp [fpR]), q1.blw _ (by simp [fpR])⟩; have B10 := Lib.hid (B9.out.trans (q2.mono B9.out.size)); clear q1 q2)
          | (go_at_call 12; refine (HAL.out _ _ _ _ HSA.out C8.out).mono ?_; rintro r w9 ⟨rfl, q1, q2⟩; have R9 := Lib.hid q1; have D9 := Lib.hid (D8.out.on q2); have B9 := Lib.hid (B8.out.trans (q2.mono B8.out.size)); clear q1 q2)
          | (go_at_call 13; refine (HRS.out _ _ _ E7.out.want Q7.out.want).mono ?_; rintro r w8 ⟨rfl, q⟩; have C8 := Lib.hid (C7.out.on q); have D8 := Lib.hid (D7.out.on q); have B8 := Lib.hid (B7.out.trans (q.mono B7.out.size)); clear q)
          | (go_at_call 16; refine (HRT.out _ _ _ BW6.out D6.out).mono ?_; rintro r w7 ⟨Q, rfl, q1, q2, q3⟩; have ka := below_alloc w7 (.cells (resC Q m) 44); have E7 := Lib.hid ((E6.out.turn q3 H2L.out).on ka); have Q7 := Lib.hid (q1.on ka); have C7 := Lib.hid ((C6.out.turn q3 HSP.out).on ka); have D7 := Lib.hid (q2.on ka); have z7 := q3.keeps X6.out HNF.out; have Z7 := Lib.hid ((heap_alloc_old _ (.cells (resC Q m) 44) (lt_of_block z7)).trans z7); have b7 := q3.shaped BW6.out A2W.out; have B7 := Lib.hid (b7.trans (ka.mono b7.size)); obtain ⟨⟨x0, x1, x2, x3, x4, x5, x6, x7⟩, _⟩ := cells7_of Z7.out; clear q1 q2 q3 ka z7 b7))
        have hcn : (ci : Int) < (ns : Int) := by omega
        have hcm : (ci : Int) + 1 ≤ (ns : Int) := by omega
        have hck : ¬ ns = ci := by omega
        have hc0 : (0 : Int) ≤ (ci : Int) + 1 := by omega
        have hw1 : IntKind.i64.wrap ((ci : Int) + 1) = (ci : Int) + 1 := Go.IntWalk.i64_in _ ⟨by omega, by omega⟩
        have hcz : ci ≤ 256 := by omega
        have HLA : Hid (ci < sA.length ∧ ci < (sA.set ci (fixB x)).length) := ⟨by rw [HSA.out]; exact hci, by rw [HSB.out]; exact hci⟩
        have B8W : Hid (W.heap.size ≤ w8.heap.size) := B8.out.size
        clear HRT HRS HAL E6 C6 D6 X6 BW6 E7 Q7 C7 D7 Z7 B7 C8 D8 B8 R9 D9 B9 H2L HSP HNF A2W x0 x1 x2 x3 x4 x5 x6 x7 v0 v1 v2 v3 v4 y0 y1 y2
        refine wp_region_seq (fun _ => True) ((0, true) :: (1, true) :: (2, true) :: (3, true) :: (4, true) :: (5, true) :: (6, true) :: (7, true) :: (8, true) :: (9, true) :: (10, true) :: (11, true) :: (12, false) :: (13, false) :: (14, false) :: (15, true) :: (16, true) :: []) (by kernel_rfl) (by kernel_rfl) (fun _ _ _ _ _ h => h) trivial ?_
        repeat (first
          | (refine wpSeq_skip rfl (by rfl) ?_; simp only [Act.put, List.setIfInBounds_toArray, List.set_cons_zero, List.set_cons_succ])
          | (refine wpSeq_take (v := ?_) rfl (by rfl) (fun wq hSq => ?_) ?_; rotate_left; (focus ((try dsimp only at hSq); go_simp; try with_reducible rfl)); simp only [Act.put, List.setIfInBounds_toArray, List.set_cons_zero, List.set_cons_succ]))
        refine wpSeq_do rfl (by rfl) (fun K hK => ?_)
        go_simp
        refine hK.out _ _ trivial ?_
        clear hK K
        try simp only [Act.put, List.setIfInBounds_toArray, List.set_cons_zero, List.set_cons_succ]
        repeat (first
          | (refine wpSeq_skip rfl (by rfl) ?_; simp only [Act.put, List.setIfInBounds_toArray, List.set_cons_zero, List.set_cons_succ])
          | (refine wpSeq_take (v := ?_) rfl (by rfl) (fun wq hSq => ?_) ?_; rotate_left; (focus ((try dsimp only at hSq); go_simp; try with_reducible rfl)); simp only [Act.put, List.setIfInBounds_toArray, List.set_cons_zero, List.set_cons_succ]))
        refine wpSeq_do rfl (by rfl) (fun K hK => ?_)
        go_simp
        refine (HNU.out (w10.drew.alloc (.cells #[.float .f64 x] 50)) _ _ (one_fl (heap_alloc_new _ _))).mono ?_
        rintro r w11 ⟨p', c', rfl, q1, q2, q3⟩
        have q4 : Below w10.heap.size w10 w11 := ((Same.drew w10).below w10.heap.size).trans ((below_alloc w10.drew _).trans (q3.mono (Nat.le_of_lt (by simp))))
        have R11 := Lib.hid (And.intro (R10.out.1.on q4) (R10.out.2.on q4))
        have N11 := Lib.hid q1
        have B11 := Lib.hid (B10.out.trans (q4.mono B10.out.size))
        clear q1 q2 q3 q4
        refine hK.out _ _ trivial ?_
        clear hK K
        try simp only [Act.put, List.setIfInBounds_toArray, List.set_cons_zero, List.set_cons_succ]
        repeat (first
          | (refine wpSeq_skip rfl (by rfl) ?_; simp only [Act.put, List.setIfInBounds_toArray, List.set_cons_zero, List.set_cons_succ])
          | (refine wpSeq_take (v := ?_) rfl (by rfl) (fun wq hSq => ?_) ?_; rotate_left; (focus ((try dsimp only at hSq); go_simp; try with_reducible rfl)); simp only [Act.put, List.setIfInBounds_toArray, List.set_cons_zero, List.set_cons_succ]))
        refine wpSeq_do rfl (by rfl) (fun K hK => ?_)
        go_simp
        refine (HE1.out _ _ _ _ _ (part_fl R11.out.2 HLA.out.2 (set_at HLA.out.1)) N11.out.fl).mono ?_
        rintro r w12 ⟨rfl, q⟩
        have R12 := Lib.hid (And.intro (R11.out.1.on (q.below _)) (R11.out.2.on (q.below _)))
        have B12 := Lib.hid (B11.out.trans (q.below _))
        clear q
        refine hK.out _ _ trivial ?_
        clear hK K
        try simp only [Act.put, List.setIfInBounds_toArray, List.set_cons_zero, List.set_cons_succ]
        repeat (first
          | (refine wpSeq_skip rfl (by rfl) ?_; simp only [Act.put, List.setIfInBounds_toArray, List.set_cons_zero, List.set_cons_succ])
          | (refine wpSeq_take (v := ?_) rfl (by rfl) (fun wq hSq => ?_) ?_; rotate_left; (focus ((try dsimp only at hSq); go_simp; try with_reducible rfl)); simp only [Act.put, List.setIfInBounds_toArray, List.set_cons_zero, List.set_cons_succ]))
        refine wpSeq_nil ?_
        obtain ⟨g1, e1, e2, e3, e4⟩ := Sx.row_getD R12.out.1 ci HLA.out.1
        cases e1
        obtain ⟨g2, f1, f2, f3, f4⟩ := Sx.row_getD R12.out.2 ci HLA.out.2
        cases f1
        rw [set_at HLA.out.1] at f3
        have hne : w9.heap.size ≠ w8.heap.size := Nat.ne_of_gt L10.out.1
        have RS := Sx.row_store R12.out.1 ci (.float .f64 (fixB x))
        rw [fls_set] at RS
        have RA := Lib.hid RS.1
        have RB := Lib.hid (R12.out.2.turn RS.2 (fun y hy z => by simp [fpR] at hy z; omega))
        have BS : Hid (Below W.heap.size W (w12.setCell ⟨w8.heap.size, ci, none⟩ (.float .f64 (fixB x)))) := B12.out.trans (RS.2.below (fun y hy => by simp at hy; subst hy; exact B8W.out) B12.out.size)
        clear RS HNU HE1 N11 R10 R11 R12 B10 B11 B12 HLA
        go_wp2_with (go_at_call 11; refine (HEX.out _ _ _ _ _ RA.out.fl RB.out.fl).mono ?_; rintro r w13 ⟨rfl, q⟩; have BF := Lib.hid (BS.out.trans (q.below _)); clear q)
        go_ret
        exact ⟨rfl, BF.out⟩
end Go.Proofs.YtmlklnimkgnbkaaGreatDoor
namespace Go.Proofs.YtmlklnimkgnbkaaGreatDoor
open Go.ChangeShapes Go.WideShapes Go.ChangeAt Go.RowKit Go.Deep

/-! openings: an int, a float -/
section
variable {H : Type} {enc : TypeId × Value → H}
theorem okWide_f64 {P : Program} {t : TypeId} {w : World} {r : Reach} {base : Nat} {v : Value} (ht : P.underlying t = some (.float .f64)) (h : Value.okWide P w r base t v) : ∃ b, v = .float .f64 b := by
  simp only [Value.okWide, ht, Cell.okWide] at h
  cases v <;> simp_all [Cell.ok]
set_option maxRecDepth 100000 in
theorem open_f64 {W : World} {base : Nat} {v : Value} {d : DataW H} {ps : List MemPlace} (hval : Value.okWide Tryz.prog W .any base 50 v) (h : DataW.Trod enc Tryz.prog W 0 (fun _ => true) true 50 v d ps) : ∃ b : Nat, v = .float .f64 b ∧ b < 18446744073709551616 := by
  obtain ⟨b, rfl⟩ := okWide_f64 Tryz.underlying50 hval
  obtain ⟨fuel, hf⟩ := h
  obtain ⟨b', h1, h2⟩ := trod_f64 hf
  simp [Value.cells] at h1
  subst h1
  exact ⟨b, rfl, h2⟩
set_option maxRecDepth 100000 in
theorem open_i64 {W : World} {base : Nat} {v : Value} {d : DataW H} {ps : List MemPlace} (hval : Value.okWide Tryz.prog W .any base 3 v) (h : DataW.Trod enc Tryz.prog W 0 (fun _ => true) true 3 v d ps) : ∃ n : Int, v = .int .i64 n ∧ (Lit.int .i64 n).wf = true := by
  obtain ⟨n, h1, _, _, h4⟩ := open_int Tryz.underlying3 hval h
  exact ⟨n, h1, h4⟩
end
end Go.Proofs.YtmlklnimkgnbkaaGreatDoor
