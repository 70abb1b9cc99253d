import Derived.Test.YthnpcnmidbacjaaGreatDoorA3
import Derived.Test.YthnpcnmidbacjaaGreatDoorAR
import Derived.BigQuiet
import Derived.Deep.QuietTactic
namespace Go.Proofs.YthnpcnmidbacjaaGreatDoor
open Go.ChangeShapes Go.WideShapes Go.ChangeAt Go.RowKit Num

/-! what was written is what is changed -/
theorem setL_at (s : List Nat) (c : Int) (x : Nat) {i : Nat} (hi : i < s.length) : (Sx.setL s c x).getD i 0 = if c = (i : Int) then fixB x else s.getD i 0 := by
  unfold Sx.setL
  by_cases hc : c = (i : Int)
  · subst hc
    rw [if_pos (by rw [Sx.hasN_nat]; exact decide_eq_true hi), if_pos rfl, Int.toNat_natCast]
    simp [List.getD_eq_getElem?_getD, hi]
  · rw [if_neg hc]
    split
    · rename_i hh
      obtain ⟨k, rfl, _⟩ := Sx.hasN_pos hh
      have hk : ¬ k = i := fun e => hc (by rw [e])
      simp [List.getD_eq_getElem?_getD, hk]
    · rfl
theorem foldL_at : ∀ (ts : Wr) (s : List Nat) {i : Nat}, i < s.length → (cellsOfL ts).Nodup → (Sx.foldL s ts).getD i 0 = if hasC ts (i : Int) then fixB (getC ts (i : Int)) else s.getD i 0
  | [], s, i, _, _ => by
    rw [if_neg (by simp [hasC, idx])]
    rfl
  | t :: ts, s, i, hi, hn => by
    show (Sx.foldL (Sx.setL s t.1 t.2) ts).getD i 0 = _
    have hn2 : t.1 ∉ cellsOfL ts ∧ (cellsOfL ts).Nodup := by
      have : cellsOfL (t :: ts) = t.1 :: cellsOfL ts := rfl
      rw [this, List.nodup_cons] at hn
      exact hn
    rw [foldL_at ts _ (by rw [Sx.setL_len]; exact hi) hn2.2, setL_at s t.1 t.2 hi, hasC_cons, getC_cons]
    by_cases hc : t.1 = (i : Int)
    · have hh : hasC ts (i : Int) = false := by
        cases hq : hasC ts (i : Int) with
        | false => rfl
        | true => exact absurd (hasC_mem.1 hq) (by rw [← hc]; exact hn2.1)
      rw [hh, if_pos hc, if_neg Bool.false_ne_true, decide_eq_true hc, Bool.true_or, if_pos rfl, if_pos hc]
    · rw [if_neg hc, decide_eq_false hc, Bool.false_or, if_neg hc]
end Go.Proofs.YthnpcnmidbacjaaGreatDoor
namespace Go.Proofs.YthnpcnmidbacjaaGreatDoor
open Go.ChangeShapes Go.WideShapes Go.ChangeAt Go.RowKit Num
attribute [local go_sem] run_store_float

/-! AloneQuiet -/
theorem quiet_same {a b c e t : Int} {cs : List Ins} {l s : List Nat} (hs : okS s) (hx : ∀ i ∈ cs, i.x < 18446744073709551616) (hl : ∀ x ∈ l, x < 18446744073709551616) (h : ¬ (goodB a b c e s.length l.length = true ∧ (runR a b c e t cs l s).how = 1 ∧ t = 2)) : aftS s (runR a b c e t cs l s) = s := by
  by_cases h1 : (runR a b c e t cs l s).how = 1
  · cases hg : goodB a b c e s.length l.length with
    | false =>
      rw [runR_bad hg] at h1
      exact absurd h1 (by decide)
    | true =>
      have h2 : ¬ t = 2 := fun ht => h ⟨hg, h1, ht⟩
      have hc : Md.cfgB a b c e = true := by unfold goodB at hg; simp only [Bool.and_eq_true] at hg; exact hg.1.1
      have hr := new_rest (t := t) hc (fun j hj => hx _ (List.mem_of_getElem? (ci_lt hj))) hl
      have hb : (runR a b c e t cs l s).buf = [] := by
        rw [runR_good hg]
        refine (endM_rest hs hr).inv.none ?_
        rw [(endM_like hs hr).upd]
        show (t == 2) = false
        simpa using h2
      unfold aftS
      rw [if_pos h1, hb]
      rfl
  · exact if_neg h1
/-- what stands where it was written, and where not -/
theorem aft_at {s : List Nat} {m : Mac} (hm : Rest m) (h1 : m.how = 1) {i : Nat} (hi : i < s.length) : (aftS s m).getD i 0 = if (i : Int) ∈ cellsOfL m.buf then getC m.buf (i : Int) else s.getD i 0 := by
  unfold aftS
  rw [if_pos h1, foldL_at m.buf s hi hm.nod]
  cases hh : hasC m.buf (i : Int) with
  | true =>
    rw [if_pos rfl, if_pos (hasC_mem.1 hh)]
    exact (getC_ok hm.inv.buf).1
  | false =>
    rw [if_neg Bool.false_ne_true, if_neg (fun hc => by rw [hasC_mem.2 hc] at hh; cases hh)]
theorem cells_take {l : Wr} {j : Nat} (hj : j < l.length) : cellsOfL (l.take (j + 1)) = cellsOfL (l.take j) ++ [(l.getD j (0, 0)).1] := by
  unfold cellsOfL
  rw [List.take_add_one, List.map_append]
  congr 1
  simp [hj]
theorem take_not {l : Wr} (hn : (cellsOfL l).Nodup) {j : Nat} (hj : j < l.length) : (l.getD j (0, 0)).1 ∉ cellsOfL (l.take j) := fun hc => by
  have h1 := cells_take hj
  have h2 : (cellsOfL (l.take (j + 1))).Nodup := by
    unfold cellsOfL at hn ⊢
    rw [List.map_take]
    exact hn.sublist (List.take_sublist _ _)
  rw [h1, List.nodup_append] at h2
  exact h2.2.2 _ hc _ (by simp) rfl
/-- the flags of what was written so far -/
def Flags (hs : List Bool) (ns : Nat) (l : Wr) : Prop := hs.length = ns ∧ ∀ i, i < ns → hs.getD i false = decide ((i : Int) ∈ cellsOfL l)
theorem flags_nil (ns : Nat) : Flags (List.replicate ns false) ns [] := ⟨by simp, fun i hi => by simp [hi, cellsOfL]⟩
theorem Flags.more {hs : List Bool} {ns : Nat} {l : Wr} {j i : Nat} (h : Flags hs ns (l.take j)) (hj : j < l.length) (hc : (l.getD j (0, 0)).1 = (i : Int)) (hi : i < ns) : Flags (hs.set i true) ns (l.take (j + 1)) := by
  refine ⟨by rw [List.length_set]; exact h.1, fun k hk => ?_⟩
  rw [cells_take hj, hc]
  by_cases hki : i = k
  · subst hki
    simp [h.1, hi]
  · have := h.2 k hk
    rw [List.getD_eq_getElem?_getD] at this ⊢
    rw [List.getElem?_set_ne hki, this]
    have hne : ¬ ((k : Int) = (i : Int)) := by omega
    simp [List.mem_append, hne]
structure Qt (W wr : World) (gh gw gx ns : Nat) (pw : Option Addr) (cw : Nat) (hs : List Bool) (s sa : List Nat) (l : Wr) : Prop where
  fl : RowAt 4 wr (some ⟨gh, 0, none⟩) ns (bls hs)
  was : RowAt 55 wr (some ⟨gw, 0, none⟩) ns (fls s)
  now : RowAt 55 wr (some ⟨gx, 0, none⟩) ns (fls sa)
  wri : TRow wr pw cw l
  bel : Below W.heap.size W wr
theorem Qt.on {W wr u : World} {gh gw gx ns : Nat} {pw : Option Addr} {cw : Nat} {hs : List Bool} {s sa : List Nat} {l : Wr} (h : Qt W wr gh gw gx ns pw cw hs s sa l) (k : Below wr.heap.size wr u) : Qt W u gh gw gx ns pw cw hs s sa l := ⟨h.fl.on k, h.was.on k, h.now.on k, h.wri.on k, h.bel.trans (k.mono h.bel.size)⟩
theorem Qt.put {W wr : World} {gh gw gx ns : Nat} {pw : Option Addr} {cw : Nat} {hs : List Bool} {s sa : List Nat} {l : Wr} (h : Qt W wr gh gw gx ns pw cw hs s sa l) (hW : W.heap.size ≤ gh) (n1 : gw ≠ gh) (n2 : gx ≠ gh) (n3 : gh ∉ fpR pw) (i : Nat) : Qt W (wr.setCell ⟨gh, i, none⟩ (.bool true)) gh gw gx ns pw cw (hs.set i true) s sa l := by
  have hp := row_put h.fl i (.bool true)
  have e : (bls hs).set i (.bool true) = bls (hs.set i true) := by unfold bls; rw [List.map_set]
  rw [e] at hp
  exact ⟨hp.1, h.was.turn hp.2 (fun x hx y => by simp [fpR] at hx y; omega), h.now.turn hp.2 (fun x hx y => by simp [fpR] at hx y; omega), h.wri.turn hp.2 (fun x hx y => by simp at y; subst y; exact n3 hx), h.bel.setCell (p := ⟨gh, i, none⟩) hW _⟩
theorem bls_get {hs : List Bool} {i : Nat} (hi : i < hs.length) : (bls hs)[i]? = some (.bool (hs.getD i false)) := by simp [bls, hi]
end Go.Proofs.YthnpcnmidbacjaaGreatDoor
namespace Go.Proofs.YthnpcnmidbacjaaGreatDoor
open Go.ChangeShapes Go.WideShapes Go.ChangeAt Go.RowKit Num
attribute [local go_sem] run_store_float

set_option maxHeartbeats 16000000 in
set_option maxRecDepth 100000 in
theorem lawQuiet_any {W : World} {a b c e t : Int} {ao : Option Addr} {cs : List Ins} {n cap : Nat} {po : Option Addr} {l : List Nat} {k co : Nat} {ps : Option Addr} {st : List Nat} {ns cst : Nat} (hT : Shaped5 W) (hn : cs.length = n) (hk : l.length = k) (hC : CodeAt W ao cs) (hx : ∀ i ∈ cs, i.x < 18446744073709551616) (hL : FlAt W po l) (hl : ∀ x ∈ l, x < 18446744073709551616) (hnl : n ≤ 9223372036854775807) (hns : st.length = ns) (hS : FlAt W ps st) (hst : ∀ x ∈ st, x < 18446744073709551616) : Calls Tryz.prog 5 #[cfgV a b c e, .agg #[.int .i64 t, .slice ao n cap], .slice po k co, .slice ps ns cst] W fun r w' => r = .returned (.bool true) ∧ Below W.heap.size W w' := by
  have HLV := Lib.hid (live_any (hT.on (newW_below W a b c e t ao n cap)))
  cases hmay : Sx.mayN (ns : Int)
  · have HGN : Hid (∀ u, Calls Tryz.prog 10 #[.slice ps ns cst] u fun e w' => e = .returned (.tuple #[.pointer none, .bool true]) ∧ w' = u) := fun u => given_none hns hmay
    clear hT hC hx hL hl hS hst hnl hmay hn hk hns
    go_enter Tryz.func5, Tryz.ntmps5
    go_wp2_with (first
      | (go_at_call 10; refine (HGN.out _).mono ?_; rintro r w' ⟨rfl, hw⟩; subst w')
      | (go_at_call 9; refine HLV.out.mono ?_; rintro r u0 ⟨rfl, q⟩; obtain ⟨v0, v1, v2, v3, v4⟩ := newW_boxes4 q; obtain ⟨_, ⟨y0, y1, y2⟩, _⟩ := newW_boxes q; have B0 := Lib.hid q; clear q))
    go_ret
    exact ⟨rfl, (newW_boxes B0.out).2.2⟩
  · have HGI : Hid (∀ u, Below W.heap.size W u → Calls Tryz.prog 10 #[.slice ps ns cst] u fun e w' => ∃ b F, e = .returned (.tuple #[.pointer (some ⟨b, 0, none⟩), .bool true]) ∧ Sx.Cel 91 w' b F (st.map fixB) ∧ Abv u.heap.size F ∧ Below u.heap.size u w') := fun u hb => given_some hns (hS.on hb) hmay
    have hok : okS (st.map fixB) := okS_map hst
    have hsl : (st.map fixB).length = ns := by rw [List.length_map]; exact hns
    have HRN : Hid (∀ u b1 F, Below W.heap.size W u → Sx.Cel 91 u b1 F (st.map fixB) → Calls Tryz.prog 12 #[cfgV a b c e, .agg #[.int .i64 t, .slice ao n cap], .slice po k co, .pointer (some ⟨b1, 0, none⟩)] u fun r w' => ∃ R, r = .returned (.tuple #[resV R (runR a b c e t cs l (st.map fixB)), .int .i64 (runE a b c e (st.map fixB).length k)]) ∧ ResAt w' u.heap.size R (runR a b c e t cs l (st.map fixB)) ∧ Sx.Cel 91 w' b1 F (aftS (st.map fixB) (runR a b c e t cs l (st.map fixB))) ∧ Turn F F u w') := fun u b1 F hb hc => run_any (hT.on hb) hn hk (hC.on hb) hx (hL.on hb) hl hnl hc hok
    have hmn : 1 ≤ ns ∧ ns ≤ 256 := by unfold Sx.mayN at hmay; simp at hmay; omega
    have HSL : Hid ((st.map fixB).length = ns) := hsl
    have HAL : Hid (∀ u b1 F s, s.length = ns → Sx.Cel 91 u b1 F s → Calls Tryz.prog 16 #[.pointer (some ⟨b1, 0, none⟩)] u fun e w' => e = .returned (.slice (some ⟨u.heap.size, 0, none⟩) ns ns) ∧ RowAt 55 w' (some ⟨u.heap.size, 0, none⟩) ns (fls s) ∧ Below u.heap.size u w') := fun u b1 F s h0 h => by subst h0; exact Sx.all_any h
    have HAS : Hid ((aftS (st.map fixB) (runR a b c e t cs l (st.map fixB))).length = ns) := by rw [aftS_len]; exact hsl
    have HEX : Hid (∀ u p q c1 c2, FlAt u p (st.map fixB) → FlAt u q (st.map fixB) → Calls Tryz.prog 15 #[.slice p ns c1, .slice q ns c2] u fun e w' => e = .returned (.bool true) ∧ Same u w') := fun u p q c1 c2 h1 h2 => exact_at hsl (by omega) h1 h2
    have HSL0 := hsl
    by_cases hall : goodB a b c e (st.map fixB).length k = true ∧ (runR a b c e t cs l (st.map fixB)).how = 1 ∧ t = 2
    · obtain ⟨hg, hh, ht⟩ := hall
      have he : runE a b c e (st.map fixB).length k = 0 := by unfold runE; rw [hg]; rfl
      rw [he] at HRN
      have hgl : goodB a b c e (st.map fixB).length l.length = true := by rw [hk]; exact hg
      have hcf : Md.cfgB a b c e = true ∧ (((st.map fixB).length : Nat) : Int) = a := by unfold goodB at hgl; simp only [Bool.and_eq_true, decide_eq_true_eq] at hgl; exact ⟨hgl.1.1, hgl.1.2⟩
      have hnr := new_rest (t := t) hcf.1 (fun j hj => hx _ (List.mem_of_getElem? (ci_lt hj))) hl
      have HRE : Hid (Rest (runR a b c e t cs l (st.map fixB)) ∧ (runR a b c e t cs l (st.map fixB)).cells = (ns : Int)) := by
        rw [runR_good hgl]
        refine ⟨endM_rest hok hnr, ?_⟩
        rw [(endM_like hok hnr).cells, ← hsl]
        exact hcf.2.symm
      have HAT : Hid (∀ i, i < ns → (aftS (st.map fixB) (runR a b c e t cs l (st.map fixB))).getD i 0 = if (i : Int) ∈ cellsOfL (runR a b c e t cs l (st.map fixB)).buf then getC (runR a b c e t cs l (st.map fixB)).buf (i : Int) else (st.map fixB).getD i 0) := fun i hi => aft_at HRE.out.1 hh (by rw [hsl]; exact hi)
      have hnb : (runR a b c e t cs l (st.map fixB)).buf.length ≤ 1024 := HRE.out.1.tolds.buf
      have hhb : ((runR a b c e t cs l (st.map fixB)).how != 1) = false := by simp [hh]
      have htb : (t != 2) = false := by simp [ht]
      generalize runR a b c e t cs l (st.map fixB) = m at HRN HRE HAT hnb hhb HAS
      generalize aftS (st.map fixB) m = sa at HRN HAT HAS
      have hmk := bMake ns (by omega)
      clear hT hC hx hL hl hS hst hnl hmay hn hk hns hok hsl hg he HSL0 hh ht hgl hcf hnr
      go_enter Tryz.func5, Tryz.ntmps5
      go_wp2_with (first
        | (go_at_call 16; refine (HAL.out _ _ _ _ HAS.out C3.out).mono ?_; rintro r u4 ⟨rfl, q1, q2⟩; have hsz : (u3.alloc (.cells (resC R m) 38)).heap.size = u3.heap.size + 1 := Array.size_push _; rw [hsz] at q1; clear hsz; have q4 := B3.out.trans (q2.mono B3.out.size); obtain ⟨v0, v1, v2, v3, v4⟩ := newW_boxes4 q4; obtain ⟨_, ⟨y0, y1, y2⟩, _⟩ := newW_boxes q4; have RX := Lib.hid q1; have W4 := Lib.hid (W3.out.on q2); have E4 := Lib.hid (E3.out.on q2); have Z4 : Hid (u4.heap[u3.heap.size]? = some (.cells (resC R m) 38)) := (q2.block _ (by simp)).trans (heap_alloc_new _ _); obtain ⟨⟨x0, x1, x2, x3, x4, x5, x6, x7⟩, _⟩ := cells7_of Z4.out; have B4 := Lib.hid q4; have S4 : Hid (u2.heap.size ≤ u4.heap.size ∧ u3.heap.size + 1 < u4.heap.size) := ⟨Nat.le_trans T3.out.size (Nat.le_trans (below_alloc u3 (.cells (resC R m) 38)).size q2.size), q1.blw _ (by simp [fpR])⟩; clear q1 q2 q4)
        | (go_at_call 12; refine (HRN.out _ _ _ (newW_boxes B2.out).2.2 D2.out).mono ?_; rintro r u3 ⟨R, rfl, q1, q2, q3⟩; have q4 := q3.shaped B2.out (A1.out.mono B0.out.size); have q5 := q4.alloc q4.size (.cells (resC R m) 38); obtain ⟨v0, v1, v2, v3, v4⟩ := newW_boxes4 q5; obtain ⟨_, ⟨y0, y1, y2⟩, _⟩ := newW_boxes q5; have E3 := Lib.hid (q1.on (below_alloc _ (.cells (resC R m) 38))); have W3 := Lib.hid ((RW.out.turn q3 (fun x hx y => by simp [fpR] at hx; subst hx; exact absurd (C1.out.blw _ y) (Nat.lt_irrefl _))).on (below_alloc _ (.cells (resC R m) 38))); have C3 := Lib.hid (q2.on (below_alloc _ (.cells (resC R m) 38))); have T3 := Lib.hid q3; have B3 := Lib.hid q5; clear q1 q2 q3 q4 q5)
        | (go_at_call 16; refine (HAL.out _ _ _ _ HSL.out C1.out).mono ?_; rintro r u2 ⟨rfl, q1, q2⟩; have q4 := B1.out.trans (q2.mono B1.out.size); obtain ⟨v0, v1, v2, v3, v4⟩ := newW_boxes4 q4; obtain ⟨_, ⟨y0, y1, y2⟩, _⟩ := newW_boxes q4; have RW := Lib.hid q1; have D2 := Lib.hid (C1.out.on q2); have B2 := Lib.hid q4; have P2 := Lib.hid q2; clear q1 q2 q4)
        | (go_at_call 10; refine (HGI.out _ (newW_boxes B0.out).2.2).mono ?_; rintro r u1 ⟨b1, F, rfl, q1, q2, q3⟩; have q4 := B0.out.trans (q3.mono B0.out.size); obtain ⟨v0, v1, v2, v3, v4⟩ := newW_boxes4 q4; obtain ⟨_, ⟨y0, y1, y2⟩, _⟩ := newW_boxes q4; have C1 := Lib.hid q1; have A1 := Lib.hid q2; have B1 := Lib.hid q4; clear q1 q2 q3 q4)
        | (go_at_call 9; refine HLV.out.mono ?_; rintro r u0 ⟨rfl, q⟩; obtain ⟨v0, v1, v2, v3, v4⟩ := newW_boxes4 q; obtain ⟨_, ⟨y0, y1, y2⟩, _⟩ := newW_boxes q; have B0 := Lib.hid q; clear q))
      have HNE : Hid (W.heap.size ≤ u4.heap.size ∧ u1.heap.size ≠ u4.heap.size ∧ u3.heap.size + 1 ≠ u4.heap.size) := ⟨(newW_boxes B4.out).2.2.size, by have := S4.out.1; have := P2.out.size; have := RW.out.blw u1.heap.size (by simp [fpR]); omega, Nat.ne_of_lt S4.out.2⟩
      have HQ0 : Hid (Qt W (u4.alloc (.cells (bls (List.replicate ns false)).toArray 4)) u4.heap.size u1.heap.size (u3.heap.size + 1) ns R.pw R.cw (List.replicate ns false) (st.map fixB) sa m.buf ∧ u4.heap.size ∉ fpR R.pw) := by
        have kk := below_alloc u4 (.cells (bls (List.replicate ns false)).toArray 4)
        refine ⟨⟨?_, W4.out.on kk, RX.out.on kk, E4.out.writes.on kk, (newW_boxes B4.out).2.2.trans (kk.mono (newW_boxes B4.out).2.2.size)⟩, fun hx => absurd (E4.out.writes.blw _ hx) (Nat.lt_irrefl _)⟩
        refine ⟨(Nat.mul_one _).symm, .inr ⟨u4.heap.size, ns, (bls (List.replicate ns false)).toArray, by rw [bls_len, List.length_replicate], Nat.zero_le _, heap_alloc_new _ _, by rw [bls_len, List.length_replicate]; exact Nat.le_refl _, by unfold maxLen; omega, by simp [bls], by simp [bls]⟩⟩
      obtain ⟨po, co, pr, cr, pw, cw⟩ := R
      dsimp only at HQ0 x5
      generalize hnbe : m.buf.length = nb at x5 hnb
      have HNB : Hid (m.buf.length = nb) := hnbe
      clear hnbe
      go_loopw [74] (fun vi wr => ∃ j : Nat, vi = .int .i64 j ∧ j ≤ nb ∧ ∃ hs, Hid (Flags hs ns (m.buf.take j) ∧ Qt W wr u4.heap.size u1.heap.size (u3.heap.size + 1) ns pw cw hs (st.map fixB) sa m.buf)) (fun vi _ => nb - (intOf vi).toNat)
      case atStart => exact ⟨0, rfl, Nat.zero_le _, _, flags_nil ns, HQ0.out.1⟩
      case round =>
        obtain ⟨j, rfl, hj, hs, HQ⟩ := hrel
        by_cases hlt : j < nb
        · have hlt' : (j : Int) < (nb : Int) := by omega
          have hjl : j < m.buf.length := by rw [HNB.out]; exact hlt
          obtain ⟨g, e1, e2, e3, e4, _⟩ := HQ.out.2.wri.at j hjl
          have hgd : m.buf.getD j (0, 0) = m.buf[j] := by simp [hjl]
          have hce := HRE.out.1.cel m.buf[j] (List.getElem_mem hjl)
          rw [HRE.out.2] at hce
          obtain ⟨i, hi⟩ : ∃ i : Nat, m.buf[j].1 = (i : Int) := ⟨m.buf[j].1.toNat, by omega⟩
          have hin : i < ns := by omega
          have hfl : hs.getD i false = false := by
            rw [HQ.out.1.2 i hin]
            refine decide_eq_false fun hc => take_not HRE.out.1.nod hjl ?_
            rw [hgd, hi]
            exact hc
          obtain ⟨f1, f2, f3⟩ := row_get HQ.out.2.fl (bls_get (i := i) (by rw [HQ.out.1.1]; exact hin))
          rw [hfl] at f1
          have hnow : sa.getD i 0 = m.buf[j].2 := by
            rw [HAT.out i hin, if_pos (by unfold cellsOfL; exact List.mem_map.2 ⟨m.buf[j], List.getElem_mem hjl, hi⟩), ← hi]
            exact getC_of HRE.out.1.nod hjl
          obtain ⟨n1, _, n3⟩ := row_get HQ.out.2.now (j := i) (fls_get (by rw [HAS.out]; exact hin))
          rw [hnow] at n1
          rw [hi] at e3
          have HNX : Hid (∀ ob v, Same (wr.alloc ob) v → Flags (hs.set i true) ns (m.buf.take (j + 1)) ∧ Qt W (v.setCell ⟨u4.heap.size, i, none⟩ (.bool true)) u4.heap.size u1.heap.size (u3.heap.size + 1) ns pw cw (hs.set i true) (st.map fixB) sa m.buf) := fun ob v hv => ⟨HQ.out.1.more hjl (by rw [hgd]; exact hi) hin, ((HQ.out.2.on (below_alloc _ ob)).on (hv.below _)).put HNE.out.1 HNE.out.2.1 HNE.out.2.2 HQ0.out.2 i⟩
          generalize m.buf[j].2 = x at e4 n1
          have hi2 : (i : Int) < (ns : Int) := by omega
          have hd0 : decide ((i : Int) < 0) = false := decide_eq_false (by omega)
          have hd1 : decide ((ns : Int) ≤ (i : Int)) = false := decide_eq_false (by omega)
          clear hgd hce hi hfl hnow HQ
          subst e1
          go_wp2
          go_quiet ((go_at_call 20; refine Calls.quiet_of_same (bits_same _ _)))
          go_wp2
          exact ⟨⟨j + 1, by first | rfl | (congr 1), by omega, _, HNX.out _ _ (by first | exact Same.refl _ | exact Same.drewN _ _)⟩, by simp [intOf]; omega⟩
        · have hlt' : ¬ (j : Int) < (nb : Int) := by omega
          have HFG : Hid (Flags hs ns m.buf) := by
            have := HQ.out.1
            rwa [show j = m.buf.length by rw [HNB.out]; omega, List.take_length] at this
          have HQ2 := Lib.hid HQ.out.2
          clear HQ
          obtain ⟨wo, rfl⟩ : ∃ wo : World, wo = wr := ⟨_, rfl⟩
          go_wp2
          go_loopw [113] (fun vi wr => ∃ i : Nat, vi = .int .i64 i ∧ i ≤ ns ∧ Hid (Qt W wr u4.heap.size u1.heap.size (u3.heap.size + 1) ns pw cw hs (st.map fixB) sa m.buf)) (fun vi _ => ns - (intOf vi).toNat)
          case atStart => exact ⟨0, rfl, Nat.zero_le _, HQ2.out⟩
          case round =>
            obtain ⟨i, rfl, hile, HQ⟩ := hrel
            by_cases hin : i < ns
            · have hi2 : (i : Int) < (ns : Int) := by omega
              obtain ⟨f1, _, f3⟩ := row_get HQ.out.fl (bls_get (i := i) (by rw [HFG.out.1]; exact hin))
              obtain ⟨n1, _, n3⟩ := row_get HQ.out.now (j := i) (fls_get (by rw [HAS.out]; exact hin))
              obtain ⟨o1, _, o3⟩ := row_get HQ.out.was (j := i) (fls_get (by rw [HSL.out]; exact hin))
              have HNX : Hid (∀ v, Same wr v → Qt W v u4.heap.size u1.heap.size (u3.heap.size + 1) ns pw cw hs (st.map fixB) sa m.buf) := fun v hv => HQ.out.on (hv.below _)
              cases hfb : hs.getD i false
              · have hsame : sa.getD i 0 = (st.map fixB).getD i 0 := by
                  have h2 := HFG.out.2 i hin
                  rw [hfb] at h2
                  rw [HAT.out i hin, if_neg (of_decide_eq_false h2.symm)]
                rw [hsame] at n1
                rw [hfb] at f1
                generalize (st.map fixB).getD i 0 = x at n1 o1
                clear hsame hfb HQ
                go_wp2
                go_quiet ((go_at_call 20; refine Calls.quiet_of_same (bits_same _ _)))
                go_wp2
                exact ⟨⟨i + 1, by first | rfl | (congr 1), by omega, HNX.out _ (by first | exact Same.refl _ | exact Same.drewN _ _)⟩, by simp [intOf]; omega⟩
              · rw [hfb] at f1
                clear hfb HQ
                go_wp2
                go_quiet (fail)
                go_wp2
                exact ⟨⟨i + 1, by first | rfl | (congr 1), by omega, HNX.out _ (by first | exact Same.refl _ | exact Same.drewN _ _)⟩, by simp [intOf]; omega⟩
            · have hin' : ¬ (i : Int) < (ns : Int) := by omega
              have HFI := Lib.hid HQ.out.bel
              clear HQ
              go_wp2
              go_ret
              exact ⟨rfl, HFI.out⟩
    · have hsa : aftS (st.map fixB) (runR a b c e t cs l (st.map fixB)) = st.map fixB := quiet_same hok hx hl (by rw [hk]; exact hall)
      rw [hsa] at HRN HAS
      cases hg : goodB a b c e (st.map fixB).length k
      · have he : runE a b c e (st.map fixB).length k = 1 := by unfold runE; rw [hg]; rfl
        rw [he] at HRN
        generalize runR a b c e t cs l (st.map fixB) = m at HRN
        clear hall hsa
        clear hT hC hx hL hl hS hst hnl hmay hn hk hns hok hsl hg he HSL0
        go_enter Tryz.func5, Tryz.ntmps5
        go_wp2_with (first
          | (go_at_call 15; refine (HEX.out _ _ _ _ _ W4.out.fl RX.out.fl).mono ?_; rintro r u5 ⟨rfl, q⟩; have B5 := Lib.hid (B4.out.trans (q.below _)); clear q)
          | (go_at_call 16; refine (HAL.out _ _ _ _ HAS.out C3.out).mono ?_; rintro r u4 ⟨rfl, q1, q2⟩; have hsz : (u3.alloc (.cells (resC R m) 38)).heap.size = u3.heap.size + 1 := Array.size_push _; rw [hsz] at q1; clear hsz; have q4 := B3.out.trans (q2.mono B3.out.size); obtain ⟨v0, v1, v2, v3, v4⟩ := newW_boxes4 q4; obtain ⟨_, ⟨y0, y1, y2⟩, _⟩ := newW_boxes q4; have RX := Lib.hid q1; have W4 := Lib.hid (W3.out.on q2); have E4 := Lib.hid (E3.out.on q2); have Z4 : Hid (u4.heap[u3.heap.size]? = some (.cells (resC R m) 38)) := (q2.block _ (by simp)).trans (heap_alloc_new _ _); obtain ⟨⟨x0, x1, x2, x3, x4, x5, x6, x7⟩, _⟩ := cells7_of Z4.out; have B4 := Lib.hid q4; have S4 : Hid (u2.heap.size ≤ u4.heap.size ∧ u3.heap.size + 1 < u4.heap.size) := ⟨Nat.le_trans T3.out.size (Nat.le_trans (below_alloc u3 (.cells (resC R m) 38)).size q2.size), q1.blw _ (by simp [fpR])⟩; clear q1 q2 q4)
          | (go_at_call 12; refine (HRN.out _ _ _ (newW_boxes B2.out).2.2 D2.out).mono ?_; rintro r u3 ⟨R, rfl, q1, q2, q3⟩; have q4 := q3.shaped B2.out (A1.out.mono B0.out.size); have q5 := q4.alloc q4.size (.cells (resC R m) 38); obtain ⟨v0, v1, v2, v3, v4⟩ := newW_boxes4 q5; obtain ⟨_, ⟨y0, y1, y2⟩, _⟩ := newW_boxes q5; have E3 := Lib.hid (q1.on (below_alloc _ (.cells (resC R m) 38))); have W3 := Lib.hid ((RW.out.turn q3 (fun x hx y => by simp [fpR] at hx; subst hx; exact absurd (C1.out.blw _ y) (Nat.lt_irrefl _))).on (below_alloc _ (.cells (resC R m) 38))); have C3 := Lib.hid (q2.on (below_alloc _ (.cells (resC R m) 38))); have T3 := Lib.hid q3; have B3 := Lib.hid q5; clear q1 q2 q3 q4 q5)
          | (go_at_call 16; refine (HAL.out _ _ _ _ HSL.out C1.out).mono ?_; rintro r u2 ⟨rfl, q1, q2⟩; have q4 := B1.out.trans (q2.mono B1.out.size); obtain ⟨v0, v1, v2, v3, v4⟩ := newW_boxes4 q4; obtain ⟨_, ⟨y0, y1, y2⟩, _⟩ := newW_boxes q4; have RW := Lib.hid q1; have D2 := Lib.hid (C1.out.on q2); have B2 := Lib.hid q4; have P2 := Lib.hid q2; clear q1 q2 q4)
          | (go_at_call 10; refine (HGI.out _ (newW_boxes B0.out).2.2).mono ?_; rintro r u1 ⟨b1, F, rfl, q1, q2, q3⟩; have q4 := B0.out.trans (q3.mono B0.out.size); obtain ⟨v0, v1, v2, v3, v4⟩ := newW_boxes4 q4; obtain ⟨_, ⟨y0, y1, y2⟩, _⟩ := newW_boxes q4; have C1 := Lib.hid q1; have A1 := Lib.hid q2; have B1 := Lib.hid q4; clear q1 q2 q3 q4)
          | (go_at_call 9; refine HLV.out.mono ?_; rintro r u0 ⟨rfl, q⟩; obtain ⟨v0, v1, v2, v3, v4⟩ := newW_boxes4 q; obtain ⟨_, ⟨y0, y1, y2⟩, _⟩ := newW_boxes q; have B0 := Lib.hid q; clear q))
        go_ret
        exact ⟨rfl, (newW_boxes B5.out).2.2⟩
      · have he : runE a b c e (st.map fixB).length k = 0 := by unfold runE; rw [hg]; rfl
        rw [he] at HRN
        by_cases hh : (runR a b c e t cs l (st.map fixB)).how = 1
        · have ht : ¬ t = 2 := fun h => hall ⟨hg, hh, h⟩
          have hhb : ((runR a b c e t cs l (st.map fixB)).how != 1) = false := by simp [hh]
          have htb : (t != 2) = true := by simpa using ht
          generalize runR a b c e t cs l (st.map fixB) = m at HRN hhb
          clear hall hsa hh ht
          clear hT hC hx hL hl hS hst hnl hmay hn hk hns hok hsl hg he HSL0
          go_enter Tryz.func5, Tryz.ntmps5
          go_wp2_with (first
            | (go_at_call 15; refine (HEX.out _ _ _ _ _ W4.out.fl RX.out.fl).mono ?_; rintro r u5 ⟨rfl, q⟩; have B5 := Lib.hid (B4.out.trans (q.below _)); clear q)
            | (go_at_call 16; refine (HAL.out _ _ _ _ HAS.out C3.out).mono ?_; rintro r u4 ⟨rfl, q1, q2⟩; have hsz : (u3.alloc (.cells (resC R m) 38)).heap.size = u3.heap.size + 1 := Array.size_push _; rw [hsz] at q1; clear hsz; have q4 := B3.out.trans (q2.mono B3.out.size); obtain ⟨v0, v1, v2, v3, v4⟩ := newW_boxes4 q4; obtain ⟨_, ⟨y0, y1, y2⟩, _⟩ := newW_boxes q4; have RX := Lib.hid q1; have W4 := Lib.hid (W3.out.on q2); have E4 := Lib.hid (E3.out.on q2); have Z4 : Hid (u4.heap[u3.heap.size]? = some (.cells (resC R m) 38)) := (q2.block _ (by simp)).trans (heap_alloc_new _ _); obtain ⟨⟨x0, x1, x2, x3, x4, x5, x6, x7⟩, _⟩ := cells7_of Z4.out; have B4 := Lib.hid q4; have S4 : Hid (u2.heap.size ≤ u4.heap.size ∧ u3.heap.size + 1 < u4.heap.size) := ⟨Nat.le_trans T3.out.size (Nat.le_trans (below_alloc u3 (.cells (resC R m) 38)).size q2.size), q1.blw _ (by simp [fpR])⟩; clear q1 q2 q4)
            | (go_at_call 12; refine (HRN.out _ _ _ (newW_boxes B2.out).2.2 D2.out).mono ?_; rintro r u3 ⟨R, rfl, q1, q2, q3⟩; have q4 := q3.shaped B2.out (A1.out.mono B0.out.size); have q5 := q4.alloc q4.size (.cells (resC R m) 38); obtain ⟨v0, v1, v2, v3, v4⟩ := newW_boxes4 q5; obtain ⟨_, ⟨y0, y1, y2⟩, _⟩ := newW_boxes q5; have E3 := Lib.hid (q1.on (below_alloc _ (.cells (resC R m) 38))); have W3 := Lib.hid ((RW.out.turn q3 (fun x hx y => by simp [fpR] at hx; subst hx; exact absurd (C1.out.blw _ y) (Nat.lt_irrefl _))).on (below_alloc _ (.cells (resC R m) 38))); have C3 := Lib.hid (q2.on (below_alloc _ (.cells (resC R m) 38))); have T3 := Lib.hid q3; have B3 := Lib.hid q5; clear q1 q2 q3 q4 q5)
            | (go_at_call 16; refine (HAL.out _ _ _ _ HSL.out C1.out).mono ?_; rintro r u2 ⟨rfl, q1, q2⟩; have q4 := B1.out.trans (q2.mono B1.out.size); obtain ⟨v0, v1, v2, v3, v4⟩ := newW_boxes4 q4; obtain ⟨_, ⟨y0, y1, y2⟩, _⟩ := newW_boxes q4; have RW := Lib.hid q1; have D2 := Lib.hid (C1.out.on q2); have B2 := Lib.hid q4; have P2 := Lib.hid q2; clear q1 q2 q4)
            | (go_at_call 10; refine (HGI.out _ (newW_boxes B0.out).2.2).mono ?_; rintro r u1 ⟨b1, F, rfl, q1, q2, q3⟩; have q4 := B0.out.trans (q3.mono B0.out.size); obtain ⟨v0, v1, v2, v3, v4⟩ := newW_boxes4 q4; obtain ⟨_, ⟨y0, y1, y2⟩, _⟩ := newW_boxes q4; have C1 := Lib.hid q1; have A1 := Lib.hid q2; have B1 := Lib.hid q4; clear q1 q2 q3 q4)
            | (go_at_call 9; refine HLV.out.mono ?_; rintro r u0 ⟨rfl, q⟩; obtain ⟨v0, v1, v2, v3, v4⟩ := newW_boxes4 q; obtain ⟨_, ⟨y0, y1, y2⟩, _⟩ := newW_boxes q; have B0 := Lib.hid q; clear q))
          go_ret
          exact ⟨rfl, (newW_boxes B5.out).2.2⟩
        · have hhb : ((runR a b c e t cs l (st.map fixB)).how != 1) = true := by simpa using hh
          generalize runR a b c e t cs l (st.map fixB) = m at HRN hhb
          clear hall hsa hh
          clear hT hC hx hL hl hS hst hnl hmay hn hk hns hok hsl hg he HSL0
          go_enter Tryz.func5, Tryz.ntmps5
          go_wp2_with (first
            | (go_at_call 15; refine (HEX.out _ _ _ _ _ W4.out.fl RX.out.fl).mono ?_; rintro r u5 ⟨rfl, q⟩; have B5 := Lib.hid (B4.out.trans (q.below _)); clear q)
            | (go_at_call 16; refine (HAL.out _ _ _ _ HAS.out C3.out).mono ?_; rintro r u4 ⟨rfl, q1, q2⟩; have hsz : (u3.alloc (.cells (resC R m) 38)).heap.size = u3.heap.size + 1 := Array.size_push _; rw [hsz] at q1; clear hsz; have q4 := B3.out.trans (q2.mono B3.out.size); obtain ⟨v0, v1, v2, v3, v4⟩ := newW_boxes4 q4; obtain ⟨_, ⟨y0, y1, y2⟩, _⟩ := newW_boxes q4; have RX := Lib.hid q1; have W4 := Lib.hid (W3.out.on q2); have E4 := Lib.hid (E3.out.on q2); have Z4 : Hid (u4.heap[u3.heap.size]? = some (.cells (resC R m) 38)) := (q2.block _ (by simp)).trans (heap_alloc_new _ _); obtain ⟨⟨x0, x1, x2, x3, x4, x5, x6, x7⟩, _⟩ := cells7_of Z4.out; have B4 := Lib.hid q4; have S4 : Hid (u2.heap.size ≤ u4.heap.size ∧ u3.heap.size + 1 < u4.heap.size) := ⟨Nat.le_trans T3.out.size (Nat.le_trans (below_alloc u3 (.cells (resC R m) 38)).size q2.size), q1.blw _ (by simp [fpR])⟩; clear q1 q2 q4)
            | (go_at_call 12; refine (HRN.out _ _ _ (newW_boxes B2.out).2.2 D2.out).mono ?_; rintro r u3 ⟨R, rfl, q1, q2, q3⟩; have q4 := q3.shaped B2.out (A1.out.mono B0.out.size); have q5 := q4.alloc q4.size (.cells (resC R m) 38); obtain ⟨v0, v1, v2, v3, v4⟩ := newW_boxes4 q5; obtain ⟨_, ⟨y0, y1, y2⟩, _⟩ := newW_boxes q5; have E3 := Lib.hid (q1.on (below_alloc _ (.cells (resC R m) 38))); have W3 := Lib.hid ((RW.out.turn q3 (fun x hx y => by simp [fpR] at hx; subst hx; exact absurd (C1.out.blw _ y) (Nat.lt_irrefl _))).on (below_alloc _ (.cells (resC R m) 38))); have C3 := Lib.hid (q2.on (below_alloc _ (.cells (resC R m) 38))); have T3 := Lib.hid q3; have B3 := Lib.hid q5; clear q1 q2 q3 q4 q5)
            | (go_at_call 16; refine (HAL.out _ _ _ _ HSL.out C1.out).mono ?_; rintro r u2 ⟨rfl, q1, q2⟩; have q4 := B1.out.trans (q2.mono B1.out.size); obtain ⟨v0, v1, v2, v3, v4⟩ := newW_boxes4 q4; obtain ⟨_, ⟨y0, y1, y2⟩, _⟩ := newW_boxes q4; have RW := Lib.hid q1; have D2 := Lib.hid (C1.out.on q2); have B2 := Lib.hid q4; have P2 := Lib.hid q2; clear q1 q2 q4)
            | (go_at_call 10; refine (HGI.out _ (newW_boxes B0.out).2.2).mono ?_; rintro r u1 ⟨b1, F, rfl, q1, q2, q3⟩; have q4 := B0.out.trans (q3.mono B0.out.size); obtain ⟨v0, v1, v2, v3, v4⟩ := newW_boxes4 q4; obtain ⟨_, ⟨y0, y1, y2⟩, _⟩ := newW_boxes q4; have C1 := Lib.hid q1; have A1 := Lib.hid q2; have B1 := Lib.hid q4; clear q1 q2 q3 q4)
            | (go_at_call 9; refine HLV.out.mono ?_; rintro r u0 ⟨rfl, q⟩; obtain ⟨v0, v1, v2, v3, v4⟩ := newW_boxes4 q; obtain ⟨_, ⟨y0, y1, y2⟩, _⟩ := newW_boxes q; have B0 := Lib.hid q; clear q))
          go_ret
          exact ⟨rfl, (newW_boxes B5.out).2.2⟩
end Go.Proofs.YthnpcnmidbacjaaGreatDoor
namespace Go.Proofs.YthnpcnmidbacjaaGreatDoor
open Go.ChangeShapes Go.WideShapes Go.ChangeAt Go.RowKit Num

/-! what is told only grows; cells that are not looked at -/
structure More (m m' : Mac) : Prop where
  reads : m.reads <+: m'.reads
  out : m.out <+: m'.out
  used : m.used ≤ m'.used
theorem More.refl (m : Mac) : More m m := ⟨List.prefix_rfl, List.prefix_rfl, Int.le_refl _⟩
theorem More.trans {a b c : Mac} (h : More a b) (k : More b c) : More a c := ⟨h.reads.trans k.reads, h.out.trans k.out, Int.le_trans h.used k.used⟩
theorem More.of {m m' : Mac} (h1 : m'.reads = m.reads) (h2 : m'.out = m.out) (h3 : m.used ≤ m'.used) : More m m' := ⟨h1 ▸ List.prefix_rfl, h2 ▸ List.prefix_rfl, h3⟩
theorem fails_more {m : Mac} (e : Int) : More m (failM m e).1 := More.of rfl rfl (Int.le_refl _)
theorem beg_more (m : Mac) : More m (begM m) := More.of rfl rfl (by show m.used ≤ m.used + 1; omega)
theorem do_more {m : Mac} {k : Nat} {n : Int} {x : Nat} (hk : 1 ≤ k ∧ k < 21) : More m (doM m ⟨k, n, x⟩).1 := by
  have hkk : k = 1 ∨ k = 2 ∨ k = 3 ∨ k = 4 ∨ k = 5 ∨ k = 6 ∨ k = 7 ∨ k = 8 ∨ k = 9 ∨ k = 10 ∨ k = 11 ∨ k = 12 ∨ k = 13 ∨ k = 14 ∨ k = 15 ∨ k = 16 ∨ k = 17 ∨ k = 18 ∨ k = 19 ∨ k = 20 := by omega
  rcases hkk with rfl | rfl | rfl | rfl | rfl | rfl | rfl | rfl | rfl | rfl | rfl | rfl | rfl | rfl | rfl | rfl | rfl | rfl | rfl | rfl
  iterate 14 exact More.of rfl rfl (Int.le_refl _)
  · show More m (retM m).1
    cases hc : m.calls with
    | nil => rw [retM_nil hc]; exact More.of rfl rfl (Int.le_refl _)
    | cons c q => rw [retM_cons hc]; exact More.of rfl rfl (Int.le_refl _)
  · show More m (readM m).1
    unfold readM
    split
    · split
      · exact ⟨⟨_, rfl⟩, List.prefix_rfl, Int.le_refl _⟩
      · exact More.of rfl rfl (Int.le_refl _)
    · exact fails_more 50
  · show More m (writeM m).1
    unfold writeM
    split
    · split
      · split
        · exact More.of rfl rfl (Int.le_refl _)
        · exact fails_more 70
      · exact fails_more 50
    · exact fails_more 81
  · exact ⟨List.prefix_rfl, ⟨_, rfl⟩, Int.le_refl _⟩
  · exact More.of rfl rfl (Int.le_refl _)
  · exact More.of rfl rfl (Int.le_refl _)
theorem step_more {m : Mac} (h : Inv m) : More m (stepM m).1 := by
  unfold stepM
  by_cases hw : 0 ≤ m.wait
  · rw [if_pos hw]; exact More.refl m
  rw [if_neg hw]
  by_cases h0 : m.how = 0
  · rw [if_pos h0]
    by_cases hf : m.used < m.fuel
    · rw [if_pos hf]
      by_cases hp : m.place < (m.code.length : Int)
      · rw [if_pos hp]
        have hk : m.place.toNat < m.code.length := by have := h.place; omega
        have hmay := h.may _ hk
        cases hr : roomB (begM m) (insM m) with
        | false => exact (beg_more m).trans (fails_more 82)
        | true =>
          rw [if_pos rfl]
          unfold insM
          rcases hci : ci m.code m.place.toNat with ⟨o, n, x⟩
          rw [hci] at hmay
          obtain ⟨q, hq⟩ : ∃ q : Nat, o = q := ⟨o.toNat, by have := hmay.1; unfold mayB knownB at this; simp at this; omega⟩
          subst hq
          exact (beg_more m).trans (do_more (fits_parts hmay.1).1)
      · rw [if_neg hp]
        exact fails_more 50
    · rw [if_neg hf]
      exact fails_more 80
  · rw [if_neg h0]; exact More.refl m
theorem give_more (m : Mac) (x : Nat) : More m (giveM m x) := by
  unfold giveM
  split
  · exact ⟨⟨_, rfl⟩, List.prefix_rfl, Int.le_refl _⟩
  · exact More.refl m
theorem go_more {s : List Nat} {m : Mac} (h : Inv m) : More m (goM s m) := by
  unfold goM
  split
  · exact (step_more h).trans (give_more _ _)
  · exact step_more h
theorem run_more {s : List Nat} (hs : okS s) : ∀ (k : Nat) {m : Mac}, Rest m → More m (runN s k m)
  | 0, m, _ => More.refl m
  | k + 1, _, h => (go_more h.inv).trans (run_more hs k (h.go hs))
theorem getV_other {s t : List Nat} {c : Nat} (hl : t.length = s.length) (hst : ∀ j : Nat, j ≠ c → t.getD j 0 = s.getD j 0) {i : Int} (hi : i ≠ (c : Int)) : Sx.getV t i = Sx.getV s i := by
  unfold Sx.getV
  rw [hl]
  split
  · rename_i hh
    obtain ⟨k, rfl, _⟩ := Sx.hasN_pos hh
    exact hst _ (by rintro rfl; exact hi rfl)
  · rfl
/-- two lists that differ at a cell which isn't read: the same run -/
theorem run_same {s t : List Nat} (hs : okS s) (ht : okS t) {c : Nat} (hl : t.length = s.length) (hst : ∀ j : Nat, j ≠ c → t.getD j 0 = s.getD j 0) : ∀ (k : Nat) {m : Mac}, Rest m → (∀ r ∈ (runN s k m).reads, r.1 ≠ (c : Int)) → runN t k m = runN s k m
  | 0, _, _, _ => rfl
  | k + 1, m, h, hr => by
    show runN t k (goM t m) = runN s k (goM s m)
    have e : goM t m = goM s m := by
      unfold goM
      by_cases h1 : (stepM m).2.kind = 1
      · rw [if_pos h1, if_pos h1]
        have hc : (stepM m).2.cell ≠ (c : Int) := by
          by_cases h0 : m.how = 0
          · obtain ⟨_, ⟨k1, _⟩ | ⟨k1, k2, k3, k4, k5⟩ | ⟨k1, _⟩⟩ := step_turns h.inv h.nw h0
            · rw [k1] at h1
              exact absurd h1 (by decide)
            · rw [k2]
              refine hr ((stepM m).1.wait, fixB (Sx.getV s (stepM m).2.cell)) ?_
              refine (run_more hs k (h.go hs)).reads.subset ?_
              rw [go_kind1 h1]
              unfold giveM
              rw [if_pos k3]
              exact List.mem_append.2 (.inr (by simp))
            · rw [h1] at k1
              rcases k1 with k | k | k <;> exact absurd k (by decide)
          · rw [step_over h.nw h0] at h1
            exact absurd (show (4 : Int) = 1 from h1) (by decide)
        rw [getV_other hl hst hc]
      · rw [if_neg h1, if_neg h1]
    rw [e]
    exact run_same hs ht hl hst k (h.go hs) hr
theorem end_same {s t : List Nat} (hs : okS s) (ht : okS t) {c : Nat} (hl : t.length = s.length) (hst : ∀ j : Nat, j ≠ c → t.getD j 0 = s.getD j 0) {m : Mac} (h : Rest m) (hr : ∀ r ∈ (endM s m).reads, r.1 ≠ (c : Int)) : endM t m = endM s m := run_same hs ht hl hst 1025 h hr
theorem setL_comm {s : List Nat} {c : Nat} {i : Int} (hi : i ≠ (c : Int)) (x y : Nat) : Sx.setL (s.set c y) i x = (Sx.setL s i x).set c y := by
  unfold Sx.setL
  rw [List.length_set]
  split
  · rename_i hh
    obtain ⟨k, rfl, _⟩ := Sx.hasN_pos hh
    exact List.set_comm _ _ (by rintro rfl; exact hi rfl)
  · rfl
theorem foldL_comm {c y : Nat} : ∀ (ts : Wr) (s : List Nat), (∀ t ∈ ts, t.1 ≠ (c : Int)) → Sx.foldL (s.set c y) ts = (Sx.foldL s ts).set c y
  | [], _, _ => rfl
  | t :: ts, s, h => by
    show Sx.foldL (Sx.setL (s.set c y) t.1 t.2) ts = (Sx.foldL (Sx.setL s t.1 t.2) ts).set c y
    rw [setL_comm (h t (by simp))]
    exact foldL_comm ts _ (fun u hu => h u (by simp [hu]))
theorem aftS_comm {s : List Nat} {c y : Nat} {m : Mac} (h : ∀ t ∈ m.buf, t.1 ≠ (c : Int)) : aftS (s.set c y) m = (aftS s m).set c y := by
  unfold aftS
  split
  · exact foldL_comm _ _ h
  · rfl
end Go.Proofs.YthnpcnmidbacjaaGreatDoor
namespace Go.Proofs.YthnpcnmidbacjaaGreatDoor
open Go.ChangeShapes Go.WideShapes Go.ChangeAt Go.RowKit Num

/-! under the tag that only reads -/
def downM (m : Mac) : Mac := { m with upd := false }
theorem give_down (m : Mac) (x : Nat) : giveM (downM m) x = downM (giveM m x) := by
  unfold giveM
  by_cases h : 0 ≤ m.wait
  · rw [if_pos h, if_pos (show 0 ≤ (downM m).wait from h)]
    rfl
  · rw [if_neg h, if_neg (show ¬ 0 ≤ (downM m).wait from h)]
/-- the same step, and nothing written; or a write, which fails -/
def Down (m : Mac) (r q : Mac × Ask) : Prop :=
  (q = (downM r.1, r.2) ∧ r.1.buf = []) ∨ (q.1.err = 81 ∧ q.1.how = 3 ∧ q.2.kind = 4 ∧ ¬ 0 ≤ q.1.wait ∧ q.1.reads = m.reads ∧ q.1.out = m.out ∧ q.1.used ≤ r.1.used)
theorem do_down {m : Mac} (hw : ¬ 0 ≤ m.wait) (hb : m.buf = []) {k : Nat} {n : Int} {x : Nat} (hk : 1 ≤ k ∧ k < 21) : Down m (doM (begM m) ⟨k, n, x⟩) (doM (begM (downM m)) ⟨k, n, x⟩) := by
  have hkk : k = 1 ∨ k = 2 ∨ k = 3 ∨ k = 4 ∨ k = 5 ∨ k = 6 ∨ k = 7 ∨ k = 8 ∨ k = 9 ∨ k = 10 ∨ k = 11 ∨ k = 12 ∨ k = 13 ∨ k = 14 ∨ k = 15 ∨ k = 16 ∨ k = 17 ∨ k = 18 ∨ k = 19 ∨ k = 20 := by omega
  rcases hkk with rfl | rfl | rfl | rfl | rfl | rfl | rfl | rfl | rfl | rfl | rfl | rfl | rfl | rfl | rfl | rfl | rfl | rfl | rfl | rfl
  iterate 14 exact .inl ⟨rfl, hb⟩
  · show Down m (retM (begM m)) (retM (begM (downM m)))
    cases hc : (begM m).calls with
    | nil => rw [retM_nil hc, retM_nil (show (begM (downM m)).calls = [] from hc)]; exact .inl ⟨rfl, hb⟩
    | cons c q => rw [retM_cons hc, retM_cons (show (begM (downM m)).calls = c :: q from hc)]; exact .inl ⟨rfl, hb⟩
  · show Down m (readM (begM m)) (readM (begM (downM m)))
    unfold readM
    cases ha : addrB (begM m) with
    | false => rw [if_neg (show ¬ addrB (begM (downM m)) = true by rw [show addrB (begM (downM m)) = addrB (begM m) from rfl, ha]; decide)]; exact .inl ⟨rfl, hb⟩
    | true =>
      rw [if_pos (show addrB (begM (downM m)) = true from ha)]
      cases hh : hasC (begM m).buf (addrV (begM m)) with
      | false => rw [if_neg (show ¬ hasC (begM (downM m)).buf (addrV (begM (downM m))) = true by rw [show hasC (begM (downM m)).buf (addrV (begM (downM m))) = hasC (begM m).buf (addrV (begM m)) from rfl, hh]; decide)]; exact .inl ⟨rfl, hb⟩
      | true => rw [if_pos (show hasC (begM (downM m)).buf (addrV (begM (downM m))) = true from hh)]; exact .inl ⟨rfl, hb⟩
  · refine .inr ⟨rfl, rfl, rfl, hw, rfl, rfl, ?_⟩
    show m.used + 1 ≤ (writeM (begM m)).1.used
    unfold writeM
    split
    · split
      · split
        · exact Int.le_refl _
        · exact Int.le_refl _
      · exact Int.le_refl _
    · exact Int.le_refl _
  · exact .inl ⟨rfl, hb⟩
  · exact .inl ⟨rfl, hb⟩
  · exact .inl ⟨rfl, hb⟩
theorem step_down {m : Mac} (h : Inv m) (hw : ¬ 0 ≤ m.wait) (h0 : m.how = 0) (hb : m.buf = []) : Down m (stepM m) (stepM (downM m)) := by
  unfold stepM
  rw [if_neg hw, if_pos h0, if_neg (show ¬ 0 ≤ (downM m).wait from hw), if_pos (show (downM m).how = 0 from h0)]
  by_cases hf : m.used < m.fuel
  · rw [if_pos hf, if_pos (show (downM m).used < (downM m).fuel from hf)]
    by_cases hp : m.place < (m.code.length : Int)
    · rw [if_pos hp, if_pos (show (downM m).place < ((downM m).code.length : Int) from hp)]
      have hk : m.place.toNat < m.code.length := by have := h.place; omega
      have hmay := h.may _ hk
      cases hr : roomB (begM m) (insM m) with
      | false => rw [if_neg (show ¬ roomB (begM (downM m)) (insM (downM m)) = true by rw [show roomB (begM (downM m)) (insM (downM m)) = roomB (begM m) (insM m) from rfl, hr]; decide)]; exact .inl ⟨rfl, hb⟩
      | true =>
        rw [if_pos (show roomB (begM (downM m)) (insM (downM m)) = true from hr), if_pos rfl]
        show Down m (doM (begM m) (insM m)) (doM (begM (downM m)) (insM m))
        unfold insM
        rcases hci : ci m.code m.place.toNat with ⟨o, n, x⟩
        rw [hci] at hmay
        obtain ⟨q, hq⟩ : ∃ q : Nat, o = q := ⟨o.toNat, by have := hmay.1; unfold mayB knownB at this; simp at this; omega⟩
        subst hq
        exact do_down hw hb (fits_parts hmay.1).1
    · rw [if_neg hp, if_neg (show ¬ (downM m).place < ((downM m).code.length : Int) from hp)]
      exact .inl ⟨rfl, hb⟩
  · rw [if_neg hf, if_neg (show ¬ (downM m).used < (downM m).fuel from hf)]
    exact .inl ⟨rfl, hb⟩
theorem run_down {s : List Nat} (hs : okS s) : ∀ (k : Nat) {m : Mac}, Rest m → m.buf = [] → (runN s k (downM m) = downM (runN s k m) ∧ (runN s k m).buf = []) ∨ ((runN s k (downM m)).err = 81 ∧ More (runN s k (downM m)) (runN s k m))
  | 0, _, _, hb => .inl ⟨rfl, hb⟩
  | k + 1, m, h, hb => by
    show (runN s k (goM s (downM m)) = downM (runN s k (goM s m)) ∧ (runN s k (goM s m)).buf = []) ∨ ((runN s k (goM s (downM m))).err = 81 ∧ More (runN s k (goM s (downM m))) (runN s k (goM s m)))
    by_cases h0 : m.how = 0
    · rcases step_down h.inv h.nw h0 hb with ⟨e1, e2⟩ | ⟨e1, e2, e3, e4, e5, e6, e7⟩
      · have e : goM s (downM m) = downM (goM s m) := by
          unfold goM
          rw [e1]
          show (if (stepM m).2.kind = 1 then giveM (downM (stepM m).1) (Sx.getV s (stepM m).2.cell) else downM (stepM m).1) = _
          split
          · exact give_down _ _
          · rfl
        rw [e]
        exact run_down hs k (h.go hs) (by rw [go_buf]; exact e2)
      · have e : goM s (downM m) = (stepM (downM m)).1 := go_kindN (by rw [e3]; decide)
        rw [e, runN_over e4 (by rw [e2]; decide)]
        refine .inr ⟨e1, More.trans ?_ (run_more hs k (h.go hs))⟩
        have hm := go_more (s := s) h.inv
        refine ⟨e5 ▸ hm.reads, e6 ▸ hm.out, Int.le_trans e7 ?_⟩
        unfold goM
        split
        · exact (give_more _ _).used
        · exact Int.le_refl _
    · rw [go_over h.nw h0, go_over (show ¬ 0 ≤ (downM m).wait from h.nw) (show (downM m).how ≠ 0 from h0)]
      exact run_down hs k h hb
/-- up to its first write, the same under either tag -/
theorem run_down' {s : List Nat} (hs : okS s) (k : Nat) {m : Mac} (h : Rest m) (hb : m.buf = []) : More (runN s k (downM m)) (runN s k m) ∧ ((runN s k (downM m)).err ≠ 81 → runN s k (downM m) = downM (runN s k m) ∧ (runN s k m).buf = []) := by
  rcases run_down hs k h hb with ⟨e1, e2⟩ | ⟨e1, e2⟩
  · refine ⟨?_, fun _ => ⟨e1, e2⟩⟩
    rw [e1]
    exact More.of rfl rfl (Int.le_refl _)
  · exact ⟨e2, fun h => absurd e1 h⟩
theorem end_down {s : List Nat} (hs : okS s) {m : Mac} (h : Rest m) (hb : m.buf = []) : More (endM s (downM m)) (endM s m) ∧ ((endM s (downM m)).err ≠ 81 → endM s (downM m) = downM (endM s m) ∧ (endM s m).buf = []) := run_down' hs 1025 h hb
theorem check_tag (c : List Ins) : checkB 1 c = checkB 2 c := by unfold checkB; rfl
theorem new_down (a f e : Int) (c : List Ins) (l : List Nat) : newM a f e 1 c l = downM (newM a f e 2 c l) := by
  unfold newM
  rw [check_tag]
  rfl
end Go.Proofs.YthnpcnmidbacjaaGreatDoor
namespace Go.Proofs.YthnpcnmidbacjaaGreatDoor
open Go.ChangeShapes Go.WideShapes Go.ChangeAt Go.RowKit Num
attribute [local go_sem] run_store_float

/-! AloneTag -/
theorem tag_run {a b c e : Int} {cs : List Ins} {l s : List Nat} (hs : okS s) (hx : ∀ i ∈ cs, i.x < 18446744073709551616) (hl : ∀ x ∈ l, x < 18446744073709551616) : More (runR a b c e 1 cs l s) (runR a b c e 2 cs l s) ∧ ((runR a b c e 1 cs l s).err ≠ 81 → runR a b c e 1 cs l s = downM (runR a b c e 2 cs l s) ∧ (runR a b c e 2 cs l s).buf = []) := by
  cases hg : goodB a b c e s.length l.length with
  | false =>
    rw [runR_bad hg, runR_bad hg]
    exact ⟨More.refl _, fun _ => ⟨rfl, rfl⟩⟩
  | true =>
    rw [runR_good hg, runR_good hg, new_down]
    have hc : Md.cfgB a b c e = true := by unfold goodB at hg; simp only [Bool.and_eq_true] at hg; exact hg.1.1
    exact end_down hs (new_rest hc (fun j hj => hx _ (List.mem_of_getElem? (ci_lt hj))) hl) rfl
structure TgK (v2 wc : World) (g : Nat) (R : Rs) (m : Mac) : Prop where
  bel : Below v2.heap.size v2 wc
  box : wc.heap[g]? = some (.cells (resC R m) 38)
  res : ResAt wc v2.heap.size R m
  hg : v2.heap.size ≤ g
theorem tg_new {v2 u v : World} {B : Nat} {R : Rs} {m : Mac} (hB : Below v2.heap.size v2 u) (hR : ResAt u B R m) (hn : v2.heap.size ≤ B) (hv : Same (u.alloc (.cells (resC R m) 38)) v) : TgK v2 v u.heap.size R m :=
  ⟨(hB.alloc hB.size _).trans (hv.below _), by rw [hv.heap]; exact heap_alloc_new _ _, ((hR.mono hn).on (below_alloc _ _)).on (hv.below _), hB.size⟩
theorem tg_put {v2 u v : World} {B g : Nat} {R : Rs} {m : Mac} (hB : Below v2.heap.size v2 u) (hR : ResAt u B R m) (hb : u.heap[g]? = some resZ) (hg : v2.heap.size ≤ g) (hgB : g < B) (hv : Same (((((((u.setCell ⟨g, 0, none⟩ (.int .i64 m.how)).setCell ⟨g, 1, none⟩ (.int .i64 m.cod)).setCell ⟨g, 2, none⟩ (.int .i64 m.err)).setCell ⟨g, 3, none⟩ (.slice R.po m.out.length R.co)).setCell ⟨g, 4, none⟩ (.slice R.pr m.reads.length R.cr)).setCell ⟨g, 5, none⟩ (.slice R.pw m.buf.length R.cw)).setCell ⟨g, 6, none⟩ (.int .i64 m.used)) v) : TgK v2 v g R m := by
  have t := (turn_set7 u g (.int .i64 m.how) (.int .i64 m.cod) (.int .i64 m.err) (.slice R.po m.out.length R.co) (.slice R.pr m.reads.length R.cr) (.slice R.pw m.buf.length R.cw) (.int .i64 m.used)).trans (hv.turn [g])
  exact ⟨hB.trans (t.below (fun x hx => by simp at hx; omega) hB.size), by rw [hv.heap]; exact box_set7 hb, (hR.turn t (fun x hx => by simp at hx; omega)).mono (by omega), hg⟩
theorem res_caps {u : World} {R1 : Rs} {B1 : Nat} {m : Mac} (h : ResAt u B1 R1 m) : (m.reads.length : Int) ≤ (R1.cr : Int) ∧ (m.out.length : Int) ≤ (R1.co : Int) ∧ ((R1.pr = none ∧ m.reads.length = 0 ∧ R1.cr = 0) ∨ ∃ x, R1.pr = some ⟨x, 0, none⟩) ∧ ((R1.po = none ∧ m.out.length = 0 ∧ R1.co = 0) ∨ ∃ x, R1.po = some ⟨x, 0, none⟩) := by
  have hr : m.reads.length ≤ R1.cr ∧ ((R1.pr = none ∧ m.reads.length = 0 ∧ R1.cr = 0) ∨ ∃ x, R1.pr = some ⟨x, 0, none⟩) := by
    rcases h.reads.own.2 with ⟨q, hn⟩ | ⟨g, cap, cur, hv, _, _, hc, _⟩
    · have := Value.slice.inj q
      exact ⟨by omega, .inl ⟨this.1, this.2.1, this.2.2⟩⟩
    · have := Value.slice.inj hv
      exact ⟨by omega, .inr ⟨g, this.1⟩⟩
  have ho : m.out.length ≤ R1.co ∧ ((R1.po = none ∧ m.out.length = 0 ∧ R1.co = 0) ∨ ∃ x, R1.po = some ⟨x, 0, none⟩) := by
    rcases h.out.own.2 with ⟨q, hn⟩ | ⟨g, cap, cur, hv, _, _, hc, _⟩
    · have := Value.slice.inj q
      rw [fls_len] at this
      exact ⟨by omega, .inl ⟨this.1, this.2.1, this.2.2⟩⟩
    · have := Value.slice.inj hv
      rw [fls_len] at this hc
      exact ⟨by omega, .inr ⟨g, this.1⟩⟩
  exact ⟨by omega, by omega, hr.2, ho.2⟩
theorem FlAt.pre {w : World} {p : Option Addr} {l k : List Nat} (h : FlAt w p l) (hp : k <+: l) : FlAt w p k := fun j hj => by
  obtain ⟨r, rfl⟩ := hp
  obtain ⟨g, o, e, hg, hc⟩ := h j (by rw [List.length_append]; omega)
  refine ⟨g, o, e, hg, ?_⟩
  rw [hc, List.getD_eq_getElem?_getD, List.getD_eq_getElem?_getD, List.getElem?_append_left hj]
theorem TlAt.pre {w : World} {p : Option Addr} {l k : Wr} (h : TlAt w p l) (hp : k <+: l) : TlAt w p k := fun j hj => by
  obtain ⟨r, rfl⟩ := hp
  obtain ⟨g, o, e, hg, hc, hd⟩ := h j (by rw [List.length_append]; omega)
  rw [List.getD_eq_getElem?_getD, List.getElem?_append_left hj, ← List.getD_eq_getElem?_getD] at hc hd
  exact ⟨g, o, e, hg, hc, hd⟩
set_option maxHeartbeats 16000000 in
set_option maxRecDepth 100000 in
theorem lawTag_any {W : World} {a b c e t : Int} {ao : Option Addr} {cs : List Ins} {n cap : Nat} {po : Option Addr} {l : List Nat} {k co : Nat} {ps : Option Addr} {st : List Nat} {ns cst : Nat} (hT : Shaped5 W) (hn : cs.length = n) (hk : l.length = k) (hC : CodeAt W ao cs) (hx : ∀ i ∈ cs, i.x < 18446744073709551616) (hL : FlAt W po l) (hl : ∀ x ∈ l, x < 18446744073709551616) (hnl : n ≤ 9223372036854775807) (hns : st.length = ns) (hS : FlAt W ps st) (hst : ∀ x ∈ st, x < 18446744073709551616) : Calls Tryz.prog 8 #[cfgV a b c e, .agg #[.int .i64 t, .slice ao n cap], .slice po k co, .slice ps ns cst] W fun r w' => r = .returned (.bool true) ∧ Below W.heap.size W w' := by
  have HLV := Lib.hid (live_any (hT.on (newW_below W a b c e t ao n cap)))
  cases hmay : Sx.mayN (ns : Int)
  · have HGN : Hid (∀ u, Calls Tryz.prog 10 #[.slice ps ns cst] u fun e w' => e = .returned (.tuple #[.pointer none, .bool true]) ∧ w' = u) := fun u => given_none hns hmay
    clear hT hC hx hL hl hS hst hnl hmay hn hk hns
    go_enter Tryz.func8, Tryz.ntmps8
    go_wp2_with (first
      | (go_at_call 10; refine (HGN.out _).mono ?_; rintro r w' ⟨rfl, hw⟩; subst w')
      | (go_at_call 9; refine HLV.out.mono ?_; rintro r u0 ⟨rfl, q⟩; obtain ⟨v0, v1, v2, v3, v4⟩ := newW_boxes4 q; obtain ⟨_, ⟨y0, y1, y2⟩, _⟩ := newW_boxes q; have B0 := Lib.hid q; clear q))
    go_ret
    exact ⟨rfl, (newW_boxes B0.out).2.2⟩
  · have HGI : Hid (∀ u, Below W.heap.size W u → Calls Tryz.prog 10 #[.slice ps ns cst] u fun e w' => ∃ b F, e = .returned (.tuple #[.pointer (some ⟨b, 0, none⟩), .bool true]) ∧ Sx.Cel 91 w' b F (st.map fixB) ∧ Abv u.heap.size F ∧ Below u.heap.size u w') := fun u hb => given_some hns (hS.on hb) hmay
    have hok : okS (st.map fixB) := okS_map hst
    have hsl : (st.map fixB).length = ns := by rw [List.length_map]; exact hns
    have hmn : 1 ≤ ns ∧ ns ≤ 256 := by unfold Sx.mayN at hmay; simp at hmay; omega
    have HRU : Hid (∀ u b1 F, Below W.heap.size W u → Sx.Cel 91 u b1 F (st.map fixB) → Calls Tryz.prog 12 #[cfgV a b c e, .agg #[.int .i64 2, .slice ao n cap], .slice po k co, .pointer (some ⟨b1, 0, none⟩)] u fun r w' => ∃ R, r = .returned (.tuple #[resV R (runR a b c e 2 cs l (st.map fixB)), .int .i64 (runE a b c e ns k)]) ∧ ResAt w' u.heap.size R (runR a b c e 2 cs l (st.map fixB)) ∧ Turn F F u w') := fun u b1 F hb hc => by
      rw [← hsl]
      exact (run_any (hT.on hb) hn hk (hC.on hb) hx (hL.on hb) hl hnl hc hok).mono fun r w' ⟨R, q1, q2, _, q4⟩ => ⟨R, q1, q2, q4⟩
    have hqs : aftS (st.map fixB) (runR a b c e 1 cs l (st.map fixB)) = st.map fixB := quiet_same hok hx hl (fun h => by cases h.2.2)
    have HRD : Hid (∀ u b1 F, Below W.heap.size W u → Sx.Cel 91 u b1 F (st.map fixB) → Calls Tryz.prog 12 #[cfgV a b c e, .agg #[.int .i64 1, .slice ao n cap], .slice po k co, .pointer (some ⟨b1, 0, none⟩)] u fun r w' => ∃ R, r = .returned (.tuple #[resV R (runR a b c e 1 cs l (st.map fixB)), .int .i64 (runE a b c e ns k)]) ∧ ResAt w' u.heap.size R (runR a b c e 1 cs l (st.map fixB)) ∧ Sx.Cel 91 w' b1 F (st.map fixB) ∧ Turn F F u w') := fun u b1 F hb hc => by
      have h := run_any (a := a) (b := b) (c := c) (e := e) (t := 1) (cap := cap) (co := co) (hT.on hb) hn hk (hC.on hb) hx (hL.on hb) hl hnl hc hok
      rw [hqs, hsl] at h
      exact h
    have HSL : Hid ((st.map fixB).length = ns) := hsl
    have HAL : Hid (∀ u b1 F s, s.length = ns → Sx.Cel 91 u b1 F s → Calls Tryz.prog 16 #[.pointer (some ⟨b1, 0, none⟩)] u fun e w' => e = .returned (.slice (some ⟨u.heap.size, 0, none⟩) ns ns) ∧ RowAt 55 w' (some ⟨u.heap.size, 0, none⟩) ns (fls s) ∧ Below u.heap.size u w') := fun u b1 F s h0 h => by subst h0; exact Sx.all_any h
    have HEX : Hid (∀ u p q c1 c2, FlAt u p (st.map fixB) → FlAt u q (st.map fixB) → Calls Tryz.prog 15 #[.slice p ns c1, .slice q ns c2] u fun e w' => e = .returned (.bool true) ∧ Same u w') := fun u p q c1 c2 h1 h2 => exact_at hsl (by omega) h1 h2
    have HTG := Lib.hid (tag_run (a := a) (b := b) (c := c) (e := e) hok hx hl)
    have HTO := Lib.hid (And.intro (runR_told (a := a) (b := b) (c := c) (e := e) (t := 1) hok hx hl) (runR_told (a := a) (b := b) (c := c) (e := e) (t := 2) hok hx hl))
    generalize runR a b c e 1 cs l (st.map fixB) = mD at HRD HTG HTO
    generalize runR a b c e 2 cs l (st.map fixB) = mU at HRU HTG HTO
    generalize runE a b c e ns k = er at HRU HRD
    have her : (er != er) = false := by simp
    clear hT hC hx hL hl hS hst hnl hmay hn hk hns hok hsl hqs
    go_enter Tryz.func8, Tryz.ntmps8
    go_upto_region 7 with (first
      | (go_at_call 16; refine (HAL.out _ _ _ _ HSL.out C1.out).mono ?_; rintro r u2 ⟨rfl, q1, q2⟩; have q4 := B1.out.trans (q2.mono B1.out.size); have RW := Lib.hid q1; have D2 := Lib.hid (C1.out.on q2); have B2 := Lib.hid q4; have XC0 : Hid (u2.heap[W.heap.size]? = some (cfgO a b c e)) := (q4.block _ (by simp; omega)).trans ((heap_alloc_old _ _ (by simp)).trans (heap_alloc_new W _)); have XP0 : Hid (u2.heap[W.heap.size + 1]? = some (prgO t ao n cap)) := (q4.block _ (by simp)).trans (heap_new (by simp)); have fz := frozen_of_row u2 (W.heap.size + 1) 0 _ _ XP0.out; obtain ⟨y0, y1, y2⟩ := cells2_of XP0.out; clear q1 q2 q4)
      | (go_at_call 10; refine (HGI.out _ (newW_boxes B0.out).2.2).mono ?_; rintro r u1 ⟨b1, F, rfl, q1, q2, q3⟩; have q4 := B0.out.trans (q3.mono B0.out.size); obtain ⟨v0, v1, v2, v3, v4⟩ := newW_boxes4 q4; obtain ⟨_, ⟨y0, y1, y2⟩, _⟩ := newW_boxes q4; have C1 := Lib.hid q1; have A1 := Lib.hid q2; have B1 := Lib.hid q4; clear q1 q2 q3 q4)
      | (go_at_call 9; refine HLV.out.mono ?_; rintro r u0 ⟨rfl, q⟩; obtain ⟨v0, v1, v2, v3, v4⟩ := newW_boxes4 q; obtain ⟨_, ⟨y0, y1, y2⟩, _⟩ := newW_boxes q; have B0 := Lib.hid q; clear q))
    have hFw : ∀ x ∈ F, W.heap.size + 1 < x := fun x hx => by have := A1.out x hx; have := B0.out.size; simp at this; omega
    have tv := turn_set u2 (W.heap.size + 1) 0 (.int .i64 2)
    have C2 := Lib.hid (D2.out.turn tv (fun x hx y => by simp at y; have := hFw x hx; omega))
    have XC : Hid ((u2.setCell ⟨W.heap.size + 1, 0, none⟩ (.int .i64 2)).heap[W.heap.size]? = some (cfgO a b c e)) := (heap_setCell_other _ _ _ _ (by simp)).trans XC0.out
    have XP : Hid ((u2.setCell ⟨W.heap.size + 1, 0, none⟩ (.int .i64 2)).heap[W.heap.size + 1]? = some (prgO 2 ao n cap)) := (heap_setCell_same u2 (W.heap.size + 1) 0 _ _ (.int .i64 2) XP0.out).trans rfl
    have RW2 := Lib.hid (RW.out.turn tv (fun x hx y => by simp [fpR] at hx y; have := B1.out.size; simp at this; omega))
    have BW : Hid (Below W.heap.size W (u2.setCell ⟨W.heap.size + 1, 0, none⟩ (.int .i64 2))) := (newW_boxes B2.out).2.2.trans (tv.below (fun x hx => by simp at hx; omega) (newW_boxes B2.out).2.2.size)
    have HFW := Lib.hid hFw
    have HUL : Hid (W.heap.size + 1 < u1.heap.size) := by have h1 := B0.out.size; have h2 := B1.out.size; simp at h1 h2; show _ < _; omega
    have GF : Hid (∀ x ∈ F, x < u1.heap.size) := C1.out.blw
    have AFW : Hid (Abv W.heap.size F) := fun x hx => by have := hFw x hx; omega
    clear tv hFw y0 y1 y2 fz XC0 XP0 D2 RW B2 C1 A1 B1 B0
    generalize u2.setCell ⟨W.heap.size + 1, 0, none⟩ (.int .i64 2) = v2 at *
    obtain ⟨v0, v1, v2', v3, v4⟩ := Md.cells4 XC.out; obtain ⟨y0, y1, y2⟩ := cells2_of XP.out
    go_cut [13, 14] (fun w13 w14 wc => ∃ (g : Nat) (R : Rs), w13 = .pointer (some ⟨g, 0, none⟩) ∧ w14 = .int .i64 er ∧ Hid (TgK v2 wc g R mU))
    case first =>
      go_region_held (fun u => u.cell? ⟨W.heap.size, 0, none⟩ = some (.int .i64 a) ∧ u.cell? ⟨W.heap.size, 1, none⟩ = some (.int .i64 b) ∧ u.cell? ⟨W.heap.size, 2, none⟩ = some (.int .i64 c) ∧ u.cell? ⟨W.heap.size, 3, none⟩ = some (.int .i64 e) ∧ u.cell? ⟨W.heap.size + 1, 0, none⟩ = some (.int .i64 2) ∧ u.cell? ⟨W.heap.size + 1, 1, none⟩ = some (.slice ao n cap)) (go_keep) (first
        | (go_at_call 12; refine (HRU.out _ _ _ (BW.out.trans (B3.out.mono BW.out.size)) C3.out).mono ?_; rintro r u4 ⟨R, rfl, qr, qt⟩; have K4 := Lib.hid (And.intro (B3.out.trans (qt.below A3.out B3.out.size)) qr); have YB : Hid (u4.heap[v2.heap.size]? = some resZ ∧ v2.heap.size < u3.heap.size) := ⟨qt.keeps YA.out.1 YA.out.2, lt_of_block YA.out.1⟩; obtain ⟨⟨z0, z1, z2, z3, z4, z5, z6, z7⟩, w0, w1, w2, w3, w4, w5, w6⟩ := cells7_of YB.out.1; have XC4 := Lib.hid (qt.keeps XC3.out (fun hx => by have := A3.out _ hx; have := lt_of_block XC.out; omega)); have XP4 := Lib.hid (qt.keeps XP3.out (fun hx => by have := A3.out _ hx; have := lt_of_block XP.out; omega)); obtain ⟨v0, v1, v2', v3, v4⟩ := Md.cells4 XC4.out; obtain ⟨y0, y1, y2⟩ := cells2_of XP4.out; clear qr qt)
        | (go_at_call 12; refine (HRU.out _ _ _ (BW.out.trans (B3.out.mono BW.out.size)) C3.out).mono ?_; rintro r u4 ⟨R, rfl, qr, qt⟩; have K4 := Lib.hid (And.intro (B3.out.trans (qt.below A3.out B3.out.size)) qr); have XC4 := Lib.hid (qt.keeps XC3.out (fun hx => by have := A3.out _ hx; have := lt_of_block XC.out; omega)); have XP4 := Lib.hid (qt.keeps XP3.out (fun hx => by have := A3.out _ hx; have := lt_of_block XP.out; omega)); obtain ⟨v0, v1, v2', v3, v4⟩ := Md.cells4 XC4.out; obtain ⟨y0, y1, y2⟩ := cells2_of XP4.out; clear qr qt)
        | (go_at_call 12; refine (HRU.out (u3.alloc resZ) _ _ ((BW.out.trans (B3.out.mono BW.out.size)).trans ((below_alloc u3 resZ).mono (Nat.le_trans BW.out.size B3.out.size))) (C3.out.on (below_alloc _ _))).mono ?_; rintro r u4 ⟨R, rfl, qr, qt⟩; have q5 : Below v2.heap.size v2 (u3.alloc resZ) := B3.out.trans ((below_alloc u3 resZ).mono B3.out.size); have K4 := Lib.hid (And.intro (q5.trans (qt.below A3.out q5.size)) qr); have YA : Hid ((u3.alloc resZ).heap[u3.heap.size]? = some resZ) := heap_alloc_new u3 resZ; have YB : Hid (u4.heap[u3.heap.size]? = some resZ ∧ u3.heap.size < (u3.alloc resZ).heap.size) := ⟨qt.keeps YA.out (cel_new C3.out), lt_of_block YA.out⟩; obtain ⟨⟨z0, z1, z2, z3, z4, z5, z6, z7⟩, w0, w1, w2, w3, w4, w5, w6⟩ := cells7_of YB.out.1; have XC4 := Lib.hid (qt.keeps ((heap_alloc_old _ _ (lt_of_block XC3.out)).trans XC3.out) (fun hx => by have := A3.out _ hx; have := lt_of_block XC.out; omega)); have XP4 := Lib.hid (qt.keeps ((heap_alloc_old _ _ (lt_of_block XP3.out)).trans XP3.out) (fun hx => by have := A3.out _ hx; have := lt_of_block XP.out; omega)); obtain ⟨v0, v1, v2', v3, v4⟩ := Md.cells4 XC4.out; obtain ⟨y0, y1, y2⟩ := cells2_of XP4.out; have n1 := Nat.ne_of_lt (lt_of_block XC3.out); have n2 := n1.symm; have n3 := Nat.ne_of_lt (lt_of_block XP3.out); have n4 := n3.symm; clear qr qt q5 YA)
        | (go_at_call 21; refine (Sx.clone_any (((C2.out.same (Same.drew _)).on (below_alloc v2.drew resZ)))).mono ?_; rintro r u3 ⟨b3, F3, rfl, q1, q2, q3⟩; have q4 : Below v2.heap.size v2 u3 := ((Same.drew v2).below v2.heap.size).trans ((below_alloc v2.drew resZ).trans (q3.mono (Nat.le_of_lt (by simp)))); have C3 := Lib.hid q1; have A3 : Hid (Abv v2.heap.size F3) := q2.mono (Nat.le_of_lt (by simp)); have B3 := Lib.hid q4; have YA : Hid (u3.heap[v2.heap.size]? = some resZ ∧ v2.heap.size ∉ F3) := ⟨(q3.block _ (by simp)).trans (heap_alloc_new v2.drew resZ), fun hx => by have := q2 _ hx; simp at this; omega⟩; have XC3 : Hid (u3.heap[W.heap.size]? = some (cfgO a b c e)) := (q4.block _ (lt_of_block XC.out)).trans XC.out; have XP3 : Hid (u3.heap[W.heap.size + 1]? = some (prgO 2 ao n cap)) := (q4.block _ (lt_of_block XP.out)).trans XP.out; obtain ⟨v0, v1, v2', v3, v4⟩ := Md.cells4 XC3.out; obtain ⟨y0, y1, y2⟩ := cells2_of XP3.out; have n1 := Nat.ne_of_lt (lt_of_block XC.out); have n2 := n1.symm; have n3 := Nat.ne_of_lt (lt_of_block XP.out); have n4 := n3.symm; clear q1 q2 q3 q4)
        | (go_at_call 21; refine (Sx.clone_any (C2.out.same (Same.drew _))).mono ?_; rintro r u3 ⟨b3, F3, rfl, q1, q2, q3⟩; have q4 : Below v2.heap.size v2 u3 := ((Same.drew v2).below v2.heap.size).trans q3; have C3 := Lib.hid q1; have A3 : Hid (Abv v2.heap.size F3) := q2; have B3 := Lib.hid q4; have XC3 : Hid (u3.heap[W.heap.size]? = some (cfgO a b c e)) := (q4.block _ (lt_of_block XC.out)).trans XC.out; have XP3 : Hid (u3.heap[W.heap.size + 1]? = some (prgO 2 ao n cap)) := (q4.block _ (lt_of_block XP.out)).trans XP.out; obtain ⟨v0, v1, v2', v3, v4⟩ := Md.cells4 XC3.out; obtain ⟨y0, y1, y2⟩ := cells2_of XP3.out; clear q1 q2 q3 q4))
      all_goals go_wp2_with fail
      all_goals go_meet
      all_goals first
        | exact ⟨_, R, rfl, rfl, tg_put K4.out.1 K4.out.2 YB.out.1 (Nat.le_refl _) YB.out.2 (Same.refl _)⟩
        | exact ⟨_, R, rfl, rfl, tg_put K4.out.1 K4.out.2 YB.out.1 B3.out.size YB.out.2 (Same.refl _)⟩
        | exact ⟨_, R, rfl, rfl, tg_new K4.out.1 K4.out.2 B3.out.size (Same.refl _)⟩
    case rest =>
      obtain ⟨g, R, rfl, rfl, HK⟩ := hcut
      obtain ⟨wo, rfl⟩ : ∃ wo : World, wo = wc := ⟨_, rfl⟩
      have XC5 : Hid (wo.heap[W.heap.size]? = some (cfgO a b c e)) := (HK.out.bel.block _ (lt_of_block XC.out)).trans XC.out
      have XP5 : Hid (wo.heap[W.heap.size + 1]? = some (prgO 2 ao n cap)) := (HK.out.bel.block _ (lt_of_block XP.out)).trans XP.out
      have hpl : W.heap.size + 1 < v2.heap.size := lt_of_block XP.out
      have tv := turn_set wo (W.heap.size + 1) 0 (.int .i64 1)
      have C5 := Lib.hid ((C2.out.on HK.out.bel).turn tv (fun x hx y => by simp at y; have := HFW.out x hx; omega))
      have W5 := Lib.hid ((RW2.out.on HK.out.bel).turn tv (fun x hx y => by simp [fpR] at hx y; have := HUL.out; omega))
      have E5 := Lib.hid (HK.out.res.turn tv (fun x hx => by simp at hx; omega))
      have Z5 : Hid ((wo.setCell ⟨W.heap.size + 1, 0, none⟩ (.int .i64 1)).heap[g]? = some (.cells (resC R mU) 38)) := (heap_setCell_other _ _ _ _ (by simp; have := HK.out.hg; omega)).trans HK.out.box
      have XC6 : Hid ((wo.setCell ⟨W.heap.size + 1, 0, none⟩ (.int .i64 1)).heap[W.heap.size]? = some (cfgO a b c e)) := (heap_setCell_other _ _ _ _ (by simp)).trans XC5.out
      have B5 : Hid (Below W.heap.size W (wo.setCell ⟨W.heap.size + 1, 0, none⟩ (.int .i64 1))) := (BW.out.trans (HK.out.bel.mono BW.out.size)).setCell (p := ⟨W.heap.size + 1, 0, none⟩) (by simp) _
      have HLT : Hid (v2.heap.size ≤ (wo.setCell ⟨W.heap.size + 1, 0, none⟩ (.int .i64 1)).heap.size ∧ v2.heap.size ≤ g ∧ (∀ x ∈ F, x < v2.heap.size)) := ⟨by simpa using HK.out.bel.size, HK.out.hg, C2.out.blw⟩
      have fz := frozen_of_row wo (W.heap.size + 1) 0 _ _ XP5.out
      obtain ⟨y0, y1, y2⟩ := cells2_of XP5.out
      obtain ⟨v0, v1, v2', v3, v4⟩ := Md.cells4 XC5.out
      clear tv hpl HRU XC5 XP5 XC XP C2 RW2 HGI HLV
      by_cases h81 : mD.err = 81
      · have he81 : (mD.err == 81) = true := by simp [h81]
        have HMR := Lib.hid HTG.out.1
        have hlr : (mD.reads.length : Int) ≤ (mU.reads.length : Int) := by have := HMR.out.reads.length_le; omega
        have hlo : (mD.out.length : Int) ≤ (mU.out.length : Int) := by have := HMR.out.out.length_le; omega
        have hlu : mD.used ≤ mU.used := HMR.out.used
        have h1024 : mU.reads.length ≤ 1024 ∧ mU.out.length ≤ 1024 := ⟨HTO.out.2.reads, HTO.out.2.out⟩
        have HTC : Hid (∀ u (Q1 R1 : Rs) c1 c2, WantAt u Q1 mD → WantAt u R1 mU → Calls Tryz.prog 23 #[.slice Q1.pr mD.reads.length c1, .slice R1.pr mD.reads.length c2] u fun e w' => e = .returned (.bool true) ∧ Same u w') := fun u Q1 R1 c1 c2 h1 h2 => touches_at rfl (by omega) h1.reads (h2.reads.pre HMR.out.reads)
        have HXC : Hid (∀ u (Q1 R1 : Rs) c1 c2, WantAt u Q1 mD → WantAt u R1 mU → Calls Tryz.prog 15 #[.slice Q1.po mD.out.length c1, .slice R1.po mD.out.length c2] u fun e w' => e = .returned (.bool true) ∧ Same u w') := fun u Q1 R1 c1 c2 h1 h2 => exact_at rfl (by omega) h1.out (h2.out.pre HMR.out.out)
        have HCAP : Hid (∀ u (R1 : Rs) B1, ResAt u B1 R1 mU → (mU.reads.length : Int) ≤ (R1.cr : Int) ∧ (mU.out.length : Int) ≤ (R1.co : Int) ∧ ((R1.pr = none ∧ mU.reads.length = 0 ∧ R1.cr = 0) ∨ ∃ x, R1.pr = some ⟨x, 0, none⟩) ∧ ((R1.po = none ∧ mU.out.length = 0 ∧ R1.co = 0) ∨ ∃ x, R1.po = some ⟨x, 0, none⟩)) := fun u R1 B1 h => res_caps h
        clear HTG HTO h81 h1024
        go_upto_region 13 with (first
          | (go_at_call 15; refine (HEX.out _ _ _ _ _ R7.out.1.fl R7.out.2.fl).mono ?_; rintro r u8 ⟨rfl, q⟩; have E8 := Lib.hid (E7.out.on (q.below _)); have Q8 := Lib.hid (Q7.out.on (q.below _)); have Z8 : Hid (u8.heap[g]? = some (.cells (resC R mU) 38) ∧ u8.heap[u6.heap.size]? = some (.cells (resC R2 mD) 38)) := ⟨by rw [q.heap]; exact Z7.out.1, by rw [q.heap]; exact Z7.out.2⟩; have B8 := Lib.hid (B7.out.trans (q.below _)); obtain ⟨⟨x0, x1, x2, x3, x4, x5, x6, x7⟩, _⟩ := cells7_of Z8.out.1; obtain ⟨⟨k0, k1, k2, k3, k4, k5, k6, k7⟩, _⟩ := cells7_of Z8.out.2; clear q)
          | (go_at_call 16; refine (HAL.out _ _ _ _ HSL.out C6.out).mono ?_; rintro r u7 ⟨rfl, q1, q2⟩; have hsz : (u6.alloc (.cells (resC R2 mD) 38)).heap.size = u6.heap.size + 1 := Array.size_push _; rw [hsz] at q1; clear hsz; have R7 := Lib.hid (And.intro (W6.out.on q2) q1); have E7 := Lib.hid (E6.out.on q2); have Q7 := Lib.hid (Q6.out.on q2); have Z7 := Lib.hid (And.intro ((q2.block _ (lt_of_block Z6.out)).trans Z6.out) ((q2.block _ (by simp)).trans (heap_alloc_new u6 (.cells (resC R2 mD) 38)))); have B7 := Lib.hid (B6.out.trans (q2.mono B6.out.size)); clear q1 q2)
          | (go_at_call 12; refine (HRD.out _ _ _ B5.out C5.out).mono ?_; rintro r u6 ⟨R2, rfl, q1, q2, q3⟩; have E6 := Lib.hid (((E5.out.turn q3 HLT.out.2.2)).on (below_alloc _ (.cells (resC R2 mD) 38))); have Q6 := Lib.hid (q1.on (below_alloc _ (.cells (resC R2 mD) 38))); have C6 := Lib.hid (q2.on (below_alloc _ (.cells (resC R2 mD) 38))); have W6 := Lib.hid ((W5.out.turn q3 (fun x hx y => by simp [fpR] at hx; subst hx; exact absurd (GF.out _ y) (Nat.lt_irrefl _))).on (below_alloc _ (.cells (resC R2 mD) 38))); have h6 := q3.keeps Z5.out (fun hx => by have := HLT.out.2.2 _ hx; have := HLT.out.2.1; omega); have Z6 := Lib.hid ((heap_alloc_old _ (.cells (resC R2 mD) 38) (lt_of_block h6)).trans h6); have b6 := q3.shaped B5.out AFW.out; have B6 := Lib.hid (b6.alloc b6.size (.cells (resC R2 mD) 38)); clear q1 q2 q3 h6 b6))
        obtain ⟨cp1, cp2, cp3, cp4⟩ := HCAP.out _ _ _ E8.out
        obtain ⟨Rpo, Rco, Rpr, Rcr, Rpw, Rcw⟩ := R
        obtain ⟨Qpo, Qco, Qpr, Qcr, Qpw, Qcw⟩ := R2
        dsimp only at cp1 cp2 cp3 cp4 x0 x1 x2 x3 x4 x5 x6 k0 k1 k2 k3 k4 k5 k6
        generalize mD.reads.length = nr at *
        generalize mD.out.length = no at *
        generalize mU.reads.length = mr at *
        generalize mU.out.length = mo at *
        have hc1 : (nr : Int) ≤ (Rcr : Int) := by omega
        have hc2 : (no : Int) ≤ (Rco : Int) := by omega
        rcases cp3 with ⟨rfl, rfl, rfl⟩ | ⟨xr, rfl⟩
        · obtain rfl : nr = 0 := by omega
          rcases cp4 with ⟨rfl, rfl, rfl⟩ | ⟨xo, rfl⟩
          · obtain rfl : no = 0 := by omega
            have HS : Hid (∀ u, Same u8 u → (fun u => (u.cell? ⟨u6.heap.size, 3, none⟩ = some (.slice Qpo 0 Qco) ∧ u.cell? ⟨u6.heap.size, 4, none⟩ = some (.slice Qpr 0 Qcr) ∧ u.cell? ⟨u6.heap.size, 6, none⟩ = some (.int .i64 mD.used)) ∧ u.cell? ⟨g, 3, none⟩ = some (.slice none 0 0) ∧ u.cell? ⟨g, 4, none⟩ = some (.slice none 0 0) ∧ u.cell? ⟨g, 6, none⟩ = some (.int .i64 mU.used)) u) := fun u hs => by
              have hc : ∀ y j, u.cell? ⟨y, j, none⟩ = u8.cell? ⟨y, j, none⟩ := fun y j => World.cell?_of_block (a := ⟨y, j, none⟩) (by rw [hs.heap])
              refine ⟨⟨?_, ?_, ?_⟩, ?_, ?_, ?_⟩ <;> rw [hc] <;> assumption
            refine wp_region_seq (fun u => (u.cell? ⟨u6.heap.size, 3, none⟩ = some (.slice Qpo 0 Qco) ∧ u.cell? ⟨u6.heap.size, 4, none⟩ = some (.slice Qpr 0 Qcr) ∧ u.cell? ⟨u6.heap.size, 6, none⟩ = some (.int .i64 mD.used)) ∧ u.cell? ⟨g, 3, none⟩ = some (.slice none 0 0) ∧ u.cell? ⟨g, 4, none⟩ = some (.slice none 0 0) ∧ u.cell? ⟨g, 6, none⟩ = some (.int .i64 mU.used)) ((0, true) :: (1, true) :: (2, true) :: (3, true) :: (4, true) :: (5, true) :: (6, true) :: (7, true) :: (8, true) :: (9, true) :: (10, true) :: (11, true) :: (12, true) :: (13, true) :: (14, true) :: (15, true) :: (16, true) :: (17, true) :: (18, true) :: (19, false) :: (20, true) :: (21, true) :: (22, true) :: (23, true) :: (24, true) :: (25, true) :: (26, true) :: (27, true) :: (28, true) :: (29, true) :: (30, true) :: (31, true) :: (32, true) :: (33, true) :: (34, true) :: (35, true) :: (36, true) :: (37, true) :: (38, true) :: (39, false) :: (40, true) :: (41, true) :: (42, true) :: (43, true) :: (44, true) :: (45, true) :: (46, true) :: (47, true) :: (48, true) :: []) (by kernel_rfl) (by kernel_rfl) (fun _ _ _ _ _ h => h) (HS.out _ (Same.drew _)) ?_
            repeat (first
              | (refine wpSeq_take (v := ?_) rfl (by rfl) (fun wq hSq => ?_) ?_; rotate_left; (focus ((try dsimp only at hSq); go_simp; try with_reducible rfl)); simp only [Act.put, List.setIfInBounds_toArray, List.set_cons_zero, List.set_cons_succ]))
            refine wpSeq_do rfl (by rfl) (fun K hK => ?_)
            go_simp
            refine (HTC.out _ ⟨Qpo, Qco, Qpr, Qcr, Qpw, Qcw⟩ ⟨none, 0, none, 0, Rpw, Rcw⟩ _ _ (Q8.out.on ((Same.drew _).below _)).want (E8.out.on ((Same.drew _).below _)).want).mono ?_
            rintro r w1 ⟨rfl, hu⟩
            have S1 := Lib.hid ((Same.drew u8).trans hu)
            clear hu
            refine hK.out _ _ (HS.out _ S1.out) ?_
            clear hK K
            try simp only [Act.put, List.setIfInBounds_toArray, List.set_cons_zero, List.set_cons_succ]
            repeat (first
              | (refine wpSeq_take (v := ?_) rfl (by rfl) (fun wq hSq => ?_) ?_; rotate_left; (focus ((try dsimp only at hSq); go_simp; try with_reducible rfl)); simp only [Act.put, List.setIfInBounds_toArray, List.set_cons_zero, List.set_cons_succ]))
            refine wpSeq_do rfl (by rfl) (fun K hK => ?_)
            go_simp
            refine (HXC.out _ ⟨Qpo, Qco, Qpr, Qcr, Qpw, Qcw⟩ ⟨none, 0, none, 0, Rpw, Rcw⟩ _ _ (Q8.out.on (S1.out.below _)).want (E8.out.on (S1.out.below _)).want).mono ?_
            rintro r w2 ⟨rfl, hu⟩
            have S2 := Lib.hid (S1.out.trans hu)
            clear hu
            refine hK.out _ _ (HS.out _ S2.out) ?_
            clear hK K
            try simp only [Act.put, List.setIfInBounds_toArray, List.set_cons_zero, List.set_cons_succ]
            repeat (first
              | (refine wpSeq_take (v := ?_) rfl (by rfl) (fun wq hSq => ?_) ?_; rotate_left; (focus ((try dsimp only at hSq); go_simp; try with_reducible rfl)); simp only [Act.put, List.setIfInBounds_toArray, List.set_cons_zero, List.set_cons_succ]))
            refine wpSeq_nil ?_
            have BF := Lib.hid (B8.out.trans (S2.out.below _))
            clear HS HTC HXC
            go_wp2_with fail
            go_ret
            exact ⟨by first | rfl | simp [hlu], BF.out⟩
          · skip
            have HS : Hid (∀ u, Same u8 u → (fun u => (u.cell? ⟨u6.heap.size, 3, none⟩ = some (.slice Qpo no Qco) ∧ u.cell? ⟨u6.heap.size, 4, none⟩ = some (.slice Qpr 0 Qcr) ∧ u.cell? ⟨u6.heap.size, 6, none⟩ = some (.int .i64 mD.used)) ∧ u.cell? ⟨g, 3, none⟩ = some (.slice (some ⟨xo, 0, none⟩) mo Rco) ∧ u.cell? ⟨g, 4, none⟩ = some (.slice none 0 0) ∧ u.cell? ⟨g, 6, none⟩ = some (.int .i64 mU.used)) u) := fun u hs => by
              have hc : ∀ y j, u.cell? ⟨y, j, none⟩ = u8.cell? ⟨y, j, none⟩ := fun y j => World.cell?_of_block (a := ⟨y, j, none⟩) (by rw [hs.heap])
              refine ⟨⟨?_, ?_, ?_⟩, ?_, ?_, ?_⟩ <;> rw [hc] <;> assumption
            refine wp_region_seq (fun u => (u.cell? ⟨u6.heap.size, 3, none⟩ = some (.slice Qpo no Qco) ∧ u.cell? ⟨u6.heap.size, 4, none⟩ = some (.slice Qpr 0 Qcr) ∧ u.cell? ⟨u6.heap.size, 6, none⟩ = some (.int .i64 mD.used)) ∧ u.cell? ⟨g, 3, none⟩ = some (.slice (some ⟨xo, 0, none⟩) mo Rco) ∧ u.cell? ⟨g, 4, none⟩ = some (.slice none 0 0) ∧ u.cell? ⟨g, 6, none⟩ = some (.int .i64 mU.used)) ((0, true) :: (1, true) :: (2, true) :: (3, true) :: (4, true) :: (5, true) :: (6, true) :: (7, true) :: (8, true) :: (9, true) :: (10, true) :: (11, true) :: (12, true) :: (13, true) :: (14, true) :: (15, true) :: (16, true) :: (17, true) :: (18, true) :: (19, false) :: (20, true) :: (21, true) :: (22, true) :: (23, true) :: (24, true) :: (25, true) :: (26, true) :: (27, true) :: (28, true) :: (29, true) :: (30, true) :: (31, true) :: (32, true) :: (33, true) :: (34, true) :: (35, true) :: (36, true) :: (37, true) :: (38, true) :: (39, false) :: (40, true) :: (41, true) :: (42, true) :: (43, true) :: (44, true) :: (45, true) :: (46, true) :: (47, true) :: (48, true) :: []) (by kernel_rfl) (by kernel_rfl) (fun _ _ _ _ _ h => h) (HS.out _ (Same.drew _)) ?_
            repeat (first
              | (refine wpSeq_take (v := ?_) rfl (by rfl) (fun wq hSq => ?_) ?_; rotate_left; (focus ((try dsimp only at hSq); go_simp; try with_reducible rfl)); simp only [Act.put, List.setIfInBounds_toArray, List.set_cons_zero, List.set_cons_succ]))
            refine wpSeq_do rfl (by rfl) (fun K hK => ?_)
            go_simp
            refine (HTC.out _ ⟨Qpo, Qco, Qpr, Qcr, Qpw, Qcw⟩ ⟨some ⟨xo, 0, none⟩, Rco, none, 0, Rpw, Rcw⟩ _ _ (Q8.out.on ((Same.drew _).below _)).want (E8.out.on ((Same.drew _).below _)).want).mono ?_
            rintro r w1 ⟨rfl, hu⟩
            have S1 := Lib.hid ((Same.drew u8).trans hu)
            clear hu
            refine hK.out _ _ (HS.out _ S1.out) ?_
            clear hK K
            try simp only [Act.put, List.setIfInBounds_toArray, List.set_cons_zero, List.set_cons_succ]
            repeat (first
              | (refine wpSeq_take (v := ?_) rfl (by rfl) (fun wq hSq => ?_) ?_; rotate_left; (focus ((try dsimp only at hSq); go_simp; try with_reducible rfl)); simp only [Act.put, List.setIfInBounds_toArray, List.set_cons_zero, List.set_cons_succ]))
            refine wpSeq_do rfl (by rfl) (fun K hK => ?_)
            go_simp
            refine (HXC.out _ ⟨Qpo, Qco, Qpr, Qcr, Qpw, Qcw⟩ ⟨some ⟨xo, 0, none⟩, Rco, none, 0, Rpw, Rcw⟩ _ _ (Q8.out.on (S1.out.below _)).want (E8.out.on (S1.out.below _)).want).mono ?_
            rintro r w2 ⟨rfl, hu⟩
            have S2 := Lib.hid (S1.out.trans hu)
            clear hu
            refine hK.out _ _ (HS.out _ S2.out) ?_
            clear hK K
            try simp only [Act.put, List.setIfInBounds_toArray, List.set_cons_zero, List.set_cons_succ]
            repeat (first
              | (refine wpSeq_take (v := ?_) rfl (by rfl) (fun wq hSq => ?_) ?_; rotate_left; (focus ((try dsimp only at hSq); go_simp; try with_reducible rfl)); simp only [Act.put, List.setIfInBounds_toArray, List.set_cons_zero, List.set_cons_succ]))
            refine wpSeq_nil ?_
            have BF := Lib.hid (B8.out.trans (S2.out.below _))
            clear HS HTC HXC
            go_wp2_with fail
            go_ret
            exact ⟨by first | rfl | simp [hlu], BF.out⟩
        · rcases cp4 with ⟨rfl, rfl, rfl⟩ | ⟨xo, rfl⟩
          · obtain rfl : no = 0 := by omega
            have HS : Hid (∀ u, Same u8 u → (fun u => (u.cell? ⟨u6.heap.size, 3, none⟩ = some (.slice Qpo 0 Qco) ∧ u.cell? ⟨u6.heap.size, 4, none⟩ = some (.slice Qpr nr Qcr) ∧ u.cell? ⟨u6.heap.size, 6, none⟩ = some (.int .i64 mD.used)) ∧ u.cell? ⟨g, 3, none⟩ = some (.slice none 0 0) ∧ u.cell? ⟨g, 4, none⟩ = some (.slice (some ⟨xr, 0, none⟩) mr Rcr) ∧ u.cell? ⟨g, 6, none⟩ = some (.int .i64 mU.used)) u) := fun u hs => by
              have hc : ∀ y j, u.cell? ⟨y, j, none⟩ = u8.cell? ⟨y, j, none⟩ := fun y j => World.cell?_of_block (a := ⟨y, j, none⟩) (by rw [hs.heap])
              refine ⟨⟨?_, ?_, ?_⟩, ?_, ?_, ?_⟩ <;> rw [hc] <;> assumption
            refine wp_region_seq (fun u => (u.cell? ⟨u6.heap.size, 3, none⟩ = some (.slice Qpo 0 Qco) ∧ u.cell? ⟨u6.heap.size, 4, none⟩ = some (.slice Qpr nr Qcr) ∧ u.cell? ⟨u6.heap.size, 6, none⟩ = some (.int .i64 mD.used)) ∧ u.cell? ⟨g, 3, none⟩ = some (.slice none 0 0) ∧ u.cell? ⟨g, 4, none⟩ = some (.slice (some ⟨xr, 0, none⟩) mr Rcr) ∧ u.cell? ⟨g, 6, none⟩ = some (.int .i64 mU.used)) ((0, true) :: (1, true) :: (2, true) :: (3, true) :: (4, true) :: (5, true) :: (6, true) :: (7, true) :: (8, true) :: (9, true) :: (10, true) :: (11, true) :: (12, true) :: (13, true) :: (14, true) :: (15, true) :: (16, true) :: (17, true) :: (18, true) :: (19, false) :: (20, true) :: (21, true) :: (22, true) :: (23, true) :: (24, true) :: (25, true) :: (26, true) :: (27, true) :: (28, true) :: (29, true) :: (30, true) :: (31, true) :: (32, true) :: (33, true) :: (34, true) :: (35, true) :: (36, true) :: (37, true) :: (38, true) :: (39, false) :: (40, true) :: (41, true) :: (42, true) :: (43, true) :: (44, true) :: (45, true) :: (46, true) :: (47, true) :: (48, true) :: []) (by kernel_rfl) (by kernel_rfl) (fun _ _ _ _ _ h => h) (HS.out _ (Same.drew _)) ?_
            repeat (first
              | (refine wpSeq_take (v := ?_) rfl (by rfl) (fun wq hSq => ?_) ?_; rotate_left; (focus ((try dsimp only at hSq); go_simp; try with_reducible rfl)); simp only [Act.put, List.setIfInBounds_toArray, List.set_cons_zero, List.set_cons_succ]))
            refine wpSeq_do rfl (by rfl) (fun K hK => ?_)
            go_simp
            refine (HTC.out _ ⟨Qpo, Qco, Qpr, Qcr, Qpw, Qcw⟩ ⟨none, 0, some ⟨xr, 0, none⟩, Rcr, Rpw, Rcw⟩ _ _ (Q8.out.on ((Same.drew _).below _)).want (E8.out.on ((Same.drew _).below _)).want).mono ?_
            rintro r w1 ⟨rfl, hu⟩
            have S1 := Lib.hid ((Same.drew u8).trans hu)
            clear hu
            refine hK.out _ _ (HS.out _ S1.out) ?_
            clear hK K
            try simp only [Act.put, List.setIfInBounds_toArray, List.set_cons_zero, List.set_cons_succ]
            repeat (first
              | (refine wpSeq_take (v := ?_) rfl (by rfl) (fun wq hSq => ?_) ?_; rotate_left; (focus ((try dsimp only at hSq); go_simp; try with_reducible rfl)); simp only [Act.put, List.setIfInBounds_toArray, List.set_cons_zero, List.set_cons_succ]))
            refine wpSeq_do rfl (by rfl) (fun K hK => ?_)
            go_simp
            refine (HXC.out _ ⟨Qpo, Qco, Qpr, Qcr, Qpw, Qcw⟩ ⟨none, 0, some ⟨xr, 0, none⟩, Rcr, Rpw, Rcw⟩ _ _ (Q8.out.on (S1.out.below _)).want (E8.out.on (S1.out.below _)).want).mono ?_
            rintro r w2 ⟨rfl, hu⟩
            have S2 := Lib.hid (S1.out.trans hu)
            clear hu
            refine hK.out _ _ (HS.out _ S2.out) ?_
            clear hK K
            try simp only [Act.put, List.setIfInBounds_toArray, List.set_cons_zero, List.set_cons_succ]
            repeat (first
              | (refine wpSeq_take (v := ?_) rfl (by rfl) (fun wq hSq => ?_) ?_; rotate_left; (focus ((try dsimp only at hSq); go_simp; try with_reducible rfl)); simp only [Act.put, List.setIfInBounds_toArray, List.set_cons_zero, List.set_cons_succ]))
            refine wpSeq_nil ?_
            have BF := Lib.hid (B8.out.trans (S2.out.below _))
            clear HS HTC HXC
            go_wp2_with fail
            go_ret
            exact ⟨by first | rfl | simp [hlu], BF.out⟩
          · skip
            have HS : Hid (∀ u, Same u8 u → (fun u => (u.cell? ⟨u6.heap.size, 3, none⟩ = some (.slice Qpo no Qco) ∧ u.cell? ⟨u6.heap.size, 4, none⟩ = some (.slice Qpr nr Qcr) ∧ u.cell? ⟨u6.heap.size, 6, none⟩ = some (.int .i64 mD.used)) ∧ u.cell? ⟨g, 3, none⟩ = some (.slice (some ⟨xo, 0, none⟩) mo Rco) ∧ u.cell? ⟨g, 4, none⟩ = some (.slice (some ⟨xr, 0, none⟩) mr Rcr) ∧ u.cell? ⟨g, 6, none⟩ = some (.int .i64 mU.used)) u) := fun u hs => by
              have hc : ∀ y j, u.cell? ⟨y, j, none⟩ = u8.cell? ⟨y, j, none⟩ := fun y j => World.cell?_of_block (a := ⟨y, j, none⟩) (by rw [hs.heap])
              refine ⟨⟨?_, ?_, ?_⟩, ?_, ?_, ?_⟩ <;> rw [hc] <;> assumption
            refine wp_region_seq (fun u => (u.cell? ⟨u6.heap.size, 3, none⟩ = some (.slice Qpo no Qco) ∧ u.cell? ⟨u6.heap.size, 4, none⟩ = some (.slice Qpr nr Qcr) ∧ u.cell? ⟨u6.heap.size, 6, none⟩ = some (.int .i64 mD.used)) ∧ u.cell? ⟨g, 3, none⟩ = some (.slice (some ⟨xo, 0, none⟩) mo Rco) ∧ u.cell? ⟨g, 4, none⟩ = some (.slice (some ⟨xr, 0, none⟩) mr Rcr) ∧ u.cell? ⟨g, 6, none⟩ = some (.int .i64 mU.used)) ((0, true) :: (1, true) :: (2, true) :: (3, true) :: (4, true) :: (5, true) :: (6, true) :: (7, true) :: (8, true) :: (9, true) :: (10, true) :: (11, true) :: (12, true) :: (13, true) :: (14, true) :: (15, true) :: (16, true) :: (17, true) :: (18, true) :: (19, false) :: (20, true) :: (21, true) :: (22, true) :: (23, true) :: (24, true) :: (25, true) :: (26, true) :: (27, true) :: (28, true) :: (29, true) :: (30, true) :: (31, true) :: (32, true) :: (33, true) :: (34, true) :: (35, true) :: (36, true) :: (37, true) :: (38, true) :: (39, false) :: (40, true) :: (41, true) :: (42, true) :: (43, true) :: (44, true) :: (45, true) :: (46, true) :: (47, true) :: (48, true) :: []) (by kernel_rfl) (by kernel_rfl) (fun _ _ _ _ _ h => h) (HS.out _ (Same.drew _)) ?_
            repeat (first
              | (refine wpSeq_take (v := ?_) rfl (by rfl) (fun wq hSq => ?_) ?_; rotate_left; (focus ((try dsimp only at hSq); go_simp; try with_reducible rfl)); simp only [Act.put, List.setIfInBounds_toArray, List.set_cons_zero, List.set_cons_succ]))
            refine wpSeq_do rfl (by rfl) (fun K hK => ?_)
            go_simp
            refine (HTC.out _ ⟨Qpo, Qco, Qpr, Qcr, Qpw, Qcw⟩ ⟨some ⟨xo, 0, none⟩, Rco, some ⟨xr, 0, none⟩, Rcr, Rpw, Rcw⟩ _ _ (Q8.out.on ((Same.drew _).below _)).want (E8.out.on ((Same.drew _).below _)).want).mono ?_
            rintro r w1 ⟨rfl, hu⟩
            have S1 := Lib.hid ((Same.drew u8).trans hu)
            clear hu
            refine hK.out _ _ (HS.out _ S1.out) ?_
            clear hK K
            try simp only [Act.put, List.setIfInBounds_toArray, List.set_cons_zero, List.set_cons_succ]
            repeat (first
              | (refine wpSeq_take (v := ?_) rfl (by rfl) (fun wq hSq => ?_) ?_; rotate_left; (focus ((try dsimp only at hSq); go_simp; try with_reducible rfl)); simp only [Act.put, List.setIfInBounds_toArray, List.set_cons_zero, List.set_cons_succ]))
            refine wpSeq_do rfl (by rfl) (fun K hK => ?_)
            go_simp
            refine (HXC.out _ ⟨Qpo, Qco, Qpr, Qcr, Qpw, Qcw⟩ ⟨some ⟨xo, 0, none⟩, Rco, some ⟨xr, 0, none⟩, Rcr, Rpw, Rcw⟩ _ _ (Q8.out.on (S1.out.below _)).want (E8.out.on (S1.out.below _)).want).mono ?_
            rintro r w2 ⟨rfl, hu⟩
            have S2 := Lib.hid (S1.out.trans hu)
            clear hu
            refine hK.out _ _ (HS.out _ S2.out) ?_
            clear hK K
            try simp only [Act.put, List.setIfInBounds_toArray, List.set_cons_zero, List.set_cons_succ]
            repeat (first
              | (refine wpSeq_take (v := ?_) rfl (by rfl) (fun wq hSq => ?_) ?_; rotate_left; (focus ((try dsimp only at hSq); go_simp; try with_reducible rfl)); simp only [Act.put, List.setIfInBounds_toArray, List.set_cons_zero, List.set_cons_succ]))
            refine wpSeq_nil ?_
            have BF := Lib.hid (B8.out.trans (S2.out.below _))
            clear HS HTC HXC
            go_wp2_with fail
            go_ret
            exact ⟨by first | rfl | simp [hlu], BF.out⟩
      · obtain ⟨rfl, hb⟩ := HTG.out.2 h81
        have h81b : ¬ mU.err = 81 := h81
        have he81 : (mU.err == 81) = false := by simpa using h81b
        have hbl : ((mU.buf.length : Int) == 0) = true := by rw [hb]; rfl
        have HRS : Hid (∀ u R Q, WantAt u R mU → WantAt u Q mU → Calls Tryz.prog 14 #[resV R mU, resV Q mU] u fun e w' => e = .returned (.bool true) ∧ Below u.heap.size u w') := fun u R Q h1 h2 => result_any HTO.out.2 h1 h2
        have HRD2 : Hid (∀ u b1 F, Below W.heap.size W u → Sx.Cel 91 u b1 F (st.map fixB) → Calls Tryz.prog 12 #[cfgV a b c e, .agg #[.int .i64 1, .slice ao n cap], .slice po k co, .pointer (some ⟨b1, 0, none⟩)] u fun r w' => ∃ R, r = .returned (.tuple #[resV R mU, .int .i64 er]) ∧ ResAt w' u.heap.size R mU ∧ Sx.Cel 91 w' b1 F (st.map fixB) ∧ Turn F F u w') := fun u b1 F hb hc => (HRD.out u b1 F hb hc).mono fun r w' ⟨R, q1, q2, q3, q4⟩ => ⟨R, q1, ⟨q2.out, q2.reads, q2.writes, q2.ao, q2.ar, q2.aw⟩, q3, q4⟩
        clear HRD HTG HTO h81 h81b hb
        go_wp2_with (first
          | (go_at_call 14; refine (HRS.out _ _ _ E8.out.want Q8.out.want).mono ?_; rintro r u9 ⟨rfl, q⟩; have B9 := Lib.hid (B8.out.trans (q.mono B8.out.size)); have Z9 := Lib.hid ((q.block _ (lt_of_block Z8.out.1)).trans Z8.out.1); obtain ⟨⟨x0, x1, x2, x3, x4, x5, x6, x7⟩, _⟩ := cells7_of Z9.out; clear q)
          | (go_at_call 15; refine (HEX.out _ _ _ _ _ R7.out.1.fl R7.out.2.fl).mono ?_; rintro r u8 ⟨rfl, q⟩; have E8 := Lib.hid (E7.out.on (q.below _)); have Q8 := Lib.hid (Q7.out.on (q.below _)); have Z8 : Hid (u8.heap[g]? = some (.cells (resC R mU) 38) ∧ u8.heap[u6.heap.size]? = some (.cells (resC R2 mU) 38)) := ⟨by rw [q.heap]; exact Z7.out.1, by rw [q.heap]; exact Z7.out.2⟩; have B8 := Lib.hid (B7.out.trans (q.below _)); obtain ⟨⟨x0, x1, x2, x3, x4, x5, x6, x7⟩, _⟩ := cells7_of Z8.out.1; obtain ⟨⟨k0, k1, k2, k3, k4, k5, k6, k7⟩, _⟩ := cells7_of Z8.out.2; clear q)
          | (go_at_call 16; refine (HAL.out _ _ _ _ HSL.out C6.out).mono ?_; rintro r u7 ⟨rfl, q1, q2⟩; have hsz : (u6.alloc (.cells (resC R2 mU) 38)).heap.size = u6.heap.size + 1 := Array.size_push _; rw [hsz] at q1; clear hsz; have R7 := Lib.hid (And.intro (W6.out.on q2) q1); have E7 := Lib.hid (E6.out.on q2); have Q7 := Lib.hid (Q6.out.on q2); have Z7 := Lib.hid (And.intro ((q2.block _ (lt_of_block Z6.out)).trans Z6.out) ((q2.block _ (by simp)).trans (heap_alloc_new u6 (.cells (resC R2 mU) 38)))); have B7 := Lib.hid (B6.out.trans (q2.mono B6.out.size)); clear q1 q2)
          | (go_at_call 12; refine (HRD2.out _ _ _ B5.out C5.out).mono ?_; rintro r u6 ⟨R2, rfl, q1, q2, q3⟩; have E6 := Lib.hid (((E5.out.turn q3 HLT.out.2.2)).on (below_alloc _ (.cells (resC R2 mU) 38))); have Q6 := Lib.hid (q1.on (below_alloc _ (.cells (resC R2 mU) 38))); have C6 := Lib.hid (q2.on (below_alloc _ (.cells (resC R2 mU) 38))); have W6 := Lib.hid ((W5.out.turn q3 (fun x hx y => by simp [fpR] at hx; subst hx; exact absurd (GF.out _ y) (Nat.lt_irrefl _))).on (below_alloc _ (.cells (resC R2 mU) 38))); have h6 := q3.keeps Z5.out (fun hx => by have := HLT.out.2.2 _ hx; have := HLT.out.2.1; omega); have Z6 := Lib.hid ((heap_alloc_old _ (.cells (resC R2 mU) 38) (lt_of_block h6)).trans h6); have b6 := q3.shaped B5.out AFW.out; have B6 := Lib.hid (b6.alloc b6.size (.cells (resC R2 mU) 38)); clear q1 q2 q3 h6 b6))
        go_ret
        exact ⟨rfl, B9.out⟩
end Go.Proofs.YthnpcnmidbacjaaGreatDoor
