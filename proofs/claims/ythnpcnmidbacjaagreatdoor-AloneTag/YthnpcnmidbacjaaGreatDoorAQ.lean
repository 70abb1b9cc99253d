import Derived.Test.YthnpcnmidbacjaaGreatDoorA3
import Derived.Test.YthnpcnmidbacjaaGreatDoorAN
import Derived.BigQuiet
import Derived.Deep.QuietTactic
namespace Go.Proofs.YthnpcnmidbacjaaGreatDoor
open Go.ChangeShapes Go.WideShapes Go.ChangeAt Go.RowKit Num

/-! what was written is what is changed -/
theorem setL_at (s : List Nat) (c : Int) (x : Nat) {i : Nat} (hi : i < s.length) : (Sx.setL s c x).getD i 0 = if c = (i : Int) then fixB x else s.getD i 0 := by
  unfold Sx.setL
  by_cases hc : c = (i : Int)
  · subst hc
    rw [if_pos (by rw [Sx.hasN_nat]; exact decide_eq_true hi), if_pos rfl, Int.toNat_natCast]
    simp [List.getD_eq_getElem?_getD, hi]
  · rw [if_neg hc]
    split
    · rename_i hh
      obtain ⟨k, rfl, _⟩ := Sx.hasN_pos hh
      have hk : ¬ k = i := fun e => hc (by rw [e])
      simp [List.getD_eq_getElem?_getD, hk]
    · rfl
theorem foldL_at : ∀ (ts : Wr) (s : List Nat) {i : Nat}, i < s.length → (cellsOfL ts).Nodup → (Sx.foldL s ts).getD i 0 = if hasC ts (i : Int) then fixB (getC ts (i : Int)) else s.getD i 0
  | [], s, i, _, _ => by
    rw [if_neg (by simp [hasC, idx])]
    rfl
  | t :: ts, s, i, hi, hn => by
    show (Sx.foldL (Sx.setL s t.1 t.2) ts).getD i 0 = _
    have hn2 : t.1 ∉ cellsOfL ts ∧ (cellsOfL ts).Nodup := by
      have : cellsOfL (t :: ts) = t.1 :: cellsOfL ts := rfl
      rw [this, List.nodup_cons] at hn
      exact hn
    rw [foldL_at ts _ (by rw [Sx.setL_len]; exact hi) hn2.2, setL_at s t.1 t.2 hi, hasC_cons, getC_cons]
    by_cases hc : t.1 = (i : Int)
    · have hh : hasC ts (i : Int) = false := by
        cases hq : hasC ts (i : Int) with
        | false => rfl
        | true => exact absurd (hasC_mem.1 hq) (by rw [← hc]; exact hn2.1)
      rw [hh, if_pos hc, if_neg Bool.false_ne_true, decide_eq_true hc, Bool.true_or, if_pos rfl, if_pos hc]
    · rw [if_neg hc, decide_eq_false hc, Bool.false_or, if_neg hc]
end Go.Proofs.YthnpcnmidbacjaaGreatDoor
namespace Go.Proofs.YthnpcnmidbacjaaGreatDoor
open Go.ChangeShapes Go.WideShapes Go.ChangeAt Go.RowKit Num
attribute [local go_sem] run_store_float

/-! AloneQuiet -/
theorem quiet_same {a b c e t : Int} {cs : List Ins} {l s : List Nat} (hs : okS s) (hx : ∀ i ∈ cs, i.x < 18446744073709551616) (hl : ∀ x ∈ l, x < 18446744073709551616) (h : ¬ (goodB a b c e s.length l.length = true ∧ (runR a b c e t cs l s).how = 1 ∧ t = 2)) : aftS s (runR a b c e t cs l s) = s := by
  by_cases h1 : (runR a b c e t cs l s).how = 1
  · cases hg : goodB a b c e s.length l.length with
    | false =>
      rw [runR_bad hg] at h1
      exact absurd h1 (by decide)
    | true =>
      have h2 : ¬ t = 2 := fun ht => h ⟨hg, h1, ht⟩
      have hc : Md.cfgB a b c e = true := by unfold goodB at hg; simp only [Bool.and_eq_true] at hg; exact hg.1.1
      have hr := new_rest (t := t) hc (fun j hj => hx _ (List.mem_of_getElem? (ci_lt hj))) hl
      have hb : (runR a b c e t cs l s).buf = [] := by
        rw [runR_good hg]
        refine (endM_rest hs hr).inv.none ?_
        rw [(endM_like hs hr).upd]
        show (t == 2) = false
        simpa using h2
      unfold aftS
      rw [if_pos h1, hb]
      rfl
  · exact if_neg h1
/-- what stands where it was written, and where not -/
theorem aft_at {s : List Nat} {m : Mac} (hm : Rest m) (h1 : m.how = 1) {i : Nat} (hi : i < s.length) : (aftS s m).getD i 0 = if (i : Int) ∈ cellsOfL m.buf then getC m.buf (i : Int) else s.getD i 0 := by
  unfold aftS
  rw [if_pos h1, foldL_at m.buf s hi hm.nod]
  cases hh : hasC m.buf (i : Int) with
  | true =>
    rw [if_pos rfl, if_pos (hasC_mem.1 hh)]
    exact (getC_ok hm.inv.buf).1
  | false =>
    rw [if_neg Bool.false_ne_true, if_neg (fun hc => by rw [hasC_mem.2 hc] at hh; cases hh)]
theorem cells_take {l : Wr} {j : Nat} (hj : j < l.length) : cellsOfL (l.take (j + 1)) = cellsOfL (l.take j) ++ [(l.getD j (0, 0)).1] := by
  unfold cellsOfL
  rw [List.take_add_one, List.map_append]
  congr 1
  simp [hj]
theorem take_not {l : Wr} (hn : (cellsOfL l).Nodup) {j : Nat} (hj : j < l.length) : (l.getD j (0, 0)).1 ∉ cellsOfL (l.take j) := fun hc => by
  have h1 := cells_take hj
  have h2 : (cellsOfL (l.take (j + 1))).Nodup := by
    unfold cellsOfL at hn ⊢
    rw [List.map_take]
    exact hn.sublist (List.take_sublist _ _)
  rw [h1, List.nodup_append] at h2
  exact h2.2.2 _ hc _ (by simp) rfl
/-- the flags of what was written so far -/
def Flags (hs : List Bool) (ns : Nat) (l : Wr) : Prop := hs.length = ns ∧ ∀ i, i < ns → hs.getD i false = decide ((i : Int) ∈ cellsOfL l)
theorem flags_nil (ns : Nat) : Flags (List.replicate ns false) ns [] := ⟨by simp, fun i hi => by simp [hi, cellsOfL]⟩
theorem Flags.more {hs : List Bool} {ns : Nat} {l : Wr} {j i : Nat} (h : Flags hs ns (l.take j)) (hj : j < l.length) (hc : (l.getD j (0, 0)).1 = (i : Int)) (hi : i < ns) : Flags (hs.set i true) ns (l.take (j + 1)) := by
  refine ⟨by rw [List.length_set]; exact h.1, fun k hk => ?_⟩
  rw [cells_take hj, hc]
  by_cases hki : i = k
  · subst hki
    simp [h.1, hi]
  · have := h.2 k hk
    rw [List.getD_eq_getElem?_getD] at this ⊢
    rw [List.getElem?_set_ne hki, this]
    have hne : ¬ ((k : Int) = (i : Int)) := by omega
    simp [List.mem_append, hne]
structure Qt (W wr : World) (gh gw gx ns : Nat) (pw : Option Addr) (cw : Nat) (hs : List Bool) (s sa : List Nat) (l : Wr) : Prop where
  fl : RowAt 4 wr (some ⟨gh, 0, none⟩) ns (bls hs)
  was : RowAt 55 wr (some ⟨gw, 0, none⟩) ns (fls s)
  now : RowAt 55 wr (some ⟨gx, 0, none⟩) ns (fls sa)
  wri : TRow wr pw cw l
  bel : Below W.heap.size W wr
theorem Qt.on {W wr u : World} {gh gw gx ns : Nat} {pw : Option Addr} {cw : Nat} {hs : List Bool} {s sa : List Nat} {l : Wr} (h : Qt W wr gh gw gx ns pw cw hs s sa l) (k : Below wr.heap.size wr u) : Qt W u gh gw gx ns pw cw hs s sa l := ⟨h.fl.on k, h.was.on k, h.now.on k, h.wri.on k, h.bel.trans (k.mono h.bel.size)⟩
theorem Qt.put {W wr : World} {gh gw gx ns : Nat} {pw : Option Addr} {cw : Nat} {hs : List Bool} {s sa : List Nat} {l : Wr} (h : Qt W wr gh gw gx ns pw cw hs s sa l) (hW : W.heap.size ≤ gh) (n1 : gw ≠ gh) (n2 : gx ≠ gh) (n3 : gh ∉ fpR pw) (i : Nat) : Qt W (wr.setCell ⟨gh, i, none⟩ (.bool true)) gh gw gx ns pw cw (hs.set i true) s sa l := by
  have hp := row_put h.fl i (.bool true)
  have e : (bls hs).set i (.bool true) = bls (hs.set i true) := by unfold bls; rw [List.map_set]
  rw [e] at hp
  exact ⟨hp.1, h.was.turn hp.2 (fun x hx y => by simp [fpR] at hx y; omega), h.now.turn hp.2 (fun x hx y => by simp [fpR] at hx y; omega), h.wri.turn hp.2 (fun x hx y => by simp at y; subst y; exact n3 hx), h.bel.setCell (p := ⟨gh, i, none⟩) hW _⟩
theorem bls_get {hs : List Bool} {i : Nat} (hi : i < hs.length) : (bls hs)[i]? = some (.bool (hs.getD i false)) := by simp [bls, hi]
end Go.Proofs.YthnpcnmidbacjaaGreatDoor
namespace Go.Proofs.YthnpcnmidbacjaaGreatDoor
open Go.ChangeShapes Go.WideShapes Go.ChangeAt Go.RowKit Num
attribute [local go_sem] run_store_float

set_option maxHeartbeats 16000000 in
set_option maxRecDepth 100000 in
theorem lawQuiet_any {W : World} {a b c e t : Int} {ao : Option Addr} {cs : List Ins} {n cap : Nat} {po : Option Addr} {l : List Nat} {k co : Nat} {ps : Option Addr} {st : List Nat} {ns cst : Nat} (hT : Shaped5 W) (hn : cs.length = n) (hk : l.length = k) (hC : CodeAt W ao cs) (hx : ∀ i ∈ cs, i.x < 18446744073709551616) (hL : FlAt W po l) (hl : ∀ x ∈ l, x < 18446744073709551616) (hnl : n ≤ 9223372036854775807) (hns : st.length = ns) (hS : FlAt W ps st) (hst : ∀ x ∈ st, x < 18446744073709551616) : Calls Tryz.prog 5 #[cfgV a b c e, .agg #[.int .i64 t, .slice ao n cap], .slice po k co, .slice ps ns cst] W fun r w' => r = .returned (.bool true) ∧ Below W.heap.size W w' := by
  have HLV := Lib.hid (live_any (hT.on (newW_below W a b c e t ao n cap)))
  cases hmay : Sx.mayN (ns : Int)
  · have HGN : Hid (∀ u, Calls Tryz.prog 10 #[.slice ps ns cst] u fun e w' => e = .returned (.tuple #[.pointer none, .bool true]) ∧ w' = u) := fun u => given_none hns hmay
    clear hT hC hx hL hl hS hst hnl hmay hn hk hns
    go_enter Tryz.func5, Tryz.ntmps5
    go_wp2_with (first
      | (go_at_call 10; refine (HGN.out _).mono ?_; rintro r w' ⟨rfl, hw⟩; subst w')
      | (go_at_call 9; refine HLV.out.mono ?_; rintro r u0 ⟨rfl, q⟩; obtain ⟨v0, v1, v2, v3, v4⟩ := newW_boxes4 q; obtain ⟨_, ⟨y0, y1, y2⟩, _⟩ := newW_boxes q; have B0 := Lib.hid q; clear q))
    go_ret
    exact ⟨rfl, (newW_boxes B0.out).2.2⟩
  · have HGI : Hid (∀ u, Below W.heap.size W u → Calls Tryz.prog 10 #[.slice ps ns cst] u fun e w' => ∃ b F, e = .returned (.tuple #[.pointer (some ⟨b, 0, none⟩), .bool true]) ∧ Sx.Cel 91 w' b F (st.map fixB) ∧ Abv u.heap.size F ∧ Below u.heap.size u w') := fun u hb => given_some hns (hS.on hb) hmay
    have hok : okS (st.map fixB) := okS_map hst
    have hsl : (st.map fixB).length = ns := by rw [List.length_map]; exact hns
    have HRN : Hid (∀ u b1 F, Below W.heap.size W u → Sx.Cel 91 u b1 F (st.map fixB) → Calls Tryz.prog 12 #[cfgV a b c e, .agg #[.int .i64 t, .slice ao n cap], .slice po k co, .pointer (some ⟨b1, 0, none⟩)] u fun r w' => ∃ R, r = .returned (.tuple #[resV R (runR a b c e t cs l (st.map fixB)), .int .i64 (runE a b c e (st.map fixB).length k)]) ∧ ResAt w' u.heap.size R (runR a b c e t cs l (st.map fixB)) ∧ Sx.Cel 91 w' b1 F (aftS (st.map fixB) (runR a b c e t cs l (st.map fixB))) ∧ Turn F F u w') := fun u b1 F hb hc => run_any (hT.on hb) hn hk (hC.on hb) hx (hL.on hb) hl hnl hc hok
    have hmn : 1 ≤ ns ∧ ns ≤ 256 := by unfold Sx.mayN at hmay; simp at hmay; omega
    have HSL : Hid ((st.map fixB).length = ns) := hsl
    have HAL : Hid (∀ u b1 F s, s.length = ns → Sx.Cel 91 u b1 F s → Calls Tryz.prog 16 #[.pointer (some ⟨b1, 0, none⟩)] u fun e w' => e = .returned (.slice (some ⟨u.heap.size, 0, none⟩) ns ns) ∧ RowAt 55 w' (some ⟨u.heap.size, 0, none⟩) ns (fls s) ∧ Below u.heap.size u w') := fun u b1 F s h0 h => by subst h0; exact Sx.all_any h
    have HAS : Hid ((aftS (st.map fixB) (runR a b c e t cs l (st.map fixB))).length = ns) := by rw [aftS_len]; exact hsl
    have HEX : Hid (∀ u p q c1 c2, FlAt u p (st.map fixB) → FlAt u q (st.map fixB) → Calls Tryz.prog 15 #[.slice p ns c1, .slice q ns c2] u fun e w' => e = .returned (.bool true) ∧ Same u w') := fun u p q c1 c2 h1 h2 => exact_at hsl (by omega) h1 h2
    have HSL0 := hsl
    by_cases hall : goodB a b c e (st.map fixB).length k = true ∧ (runR a b c e t cs l (st.map fixB)).how = 1 ∧ t = 2
    · obtain ⟨hg, hh, ht⟩ := hall
      have he : runE a b c e (st.map fixB).length k = 0 := by unfold runE; rw [hg]; rfl
      rw [he] at HRN
      have hgl : goodB a b c e (st.map fixB).length l.length = true := by rw [hk]; exact hg
      have hcf : Md.cfgB a b c e = true ∧ (((st.map fixB).length : Nat) : Int) = a := by unfold goodB at hgl; simp only [Bool.and_eq_true, decide_eq_true_eq] at hgl; exact ⟨hgl.1.1, hgl.1.2⟩
      have hnr := new_rest (t := t) hcf.1 (fun j hj => hx _ (List.mem_of_getElem? (ci_lt hj))) hl
      have HRE : Hid (Rest (runR a b c e t cs l (st.map fixB)) ∧ (runR a b c e t cs l (st.map fixB)).cells = (ns : Int)) := by
        rw [runR_good hgl]
        refine ⟨endM_rest hok hnr, ?_⟩
        rw [(endM_like hok hnr).cells, ← hsl]
        exact hcf.2.symm
      have HAT : Hid (∀ i, i < ns → (aftS (st.map fixB) (runR a b c e t cs l (st.map fixB))).getD i 0 = if (i : Int) ∈ cellsOfL (runR a b c e t cs l (st.map fixB)).buf then getC (runR a b c e t cs l (st.map fixB)).buf (i : Int) else (st.map fixB).getD i 0) := fun i hi => aft_at HRE.out.1 hh (by rw [hsl]; exact hi)
      have hnb : (runR a b c e t cs l (st.map fixB)).buf.length ≤ 1024 := HRE.out.1.tolds.buf
      have hhb : ((runR a b c e t cs l (st.map fixB)).how != 1) = false := by simp [hh]
      have htb : (t != 2) = false := by simp [ht]
      generalize runR a b c e t cs l (st.map fixB) = m at HRN HRE HAT hnb hhb HAS
      generalize aftS (st.map fixB) m = sa at HRN HAT HAS
      have hmk := bMake ns (by omega)
      clear hT hC hx hL hl hS hst hnl hmay hn hk hns hok hsl hg he HSL0 hh ht hgl hcf hnr
      go_enter Tryz.func5, Tryz.ntmps5
      go_wp2_with (first
        | (go_at_call 16; refine (HAL.out _ _ _ _ HAS.out C3.out).mono ?_; rintro r u4 ⟨rfl, q1, q2⟩; have hsz : (u3.alloc (.cells (resC R m) 38)).heap.size = u3.heap.size + 1 := Array.size_push _; rw [hsz] at q1; clear hsz; have q4 := B3.out.trans (q2.mono B3.out.size); obtain ⟨v0, v1, v2, v3, v4⟩ := newW_boxes4 q4; obtain ⟨_, ⟨y0, y1, y2⟩, _⟩ := newW_boxes q4; have RX := Lib.hid q1; have W4 := Lib.hid (W3.out.on q2); have E4 := Lib.hid (E3.out.on q2); have Z4 : Hid (u4.heap[u3.heap.size]? = some (.cells (resC R m) 38)) := (q2.block _ (by simp)).trans (heap_alloc_new _ _); obtain ⟨⟨x0, x1, x2, x3, x4, x5, x6, x7⟩, _⟩ := cells7_of Z4.out; have B4 := Lib.hid q4; have S4 : Hid (u2.heap.size ≤ u4.heap.size ∧ u3.heap.size + 1 < u4.heap.size) := ⟨Nat.le_trans T3.out.size (Nat.le_trans (below_alloc u3 (.cells (resC R m) 38)).size q2.size), q1.blw _ (by simp [fpR])⟩; clear q1 q2 q4)
        | (go_at_call 12; refine (HRN.out _ _ _ (newW_boxes B2.out).2.2 D2.out).mono ?_; rintro r u3 ⟨R, rfl, q1, q2, q3⟩; have q4 := q3.shaped B2.out (A1.out.mono B0.out.size); have q5 := q4.alloc q4.size (.cells (resC R m) 38); obtain ⟨v0, v1, v2, v3, v4⟩ := newW_boxes4 q5; obtain ⟨_, ⟨y0, y1, y2⟩, _⟩ := newW_boxes q5; have E3 := Lib.hid (q1.on (below_alloc _ (.cells (resC R m) 38))); have W3 := Lib.hid ((RW.out.turn q3 (fun x hx y => by simp [fpR] at hx; subst hx; exact absurd (C1.out.blw _ y) (Nat.lt_irrefl _))).on (below_alloc _ (.cells (resC R m) 38))); have C3 := Lib.hid (q2.on (below_alloc _ (.cells (resC R m) 38))); have T3 := Lib.hid q3; have B3 := Lib.hid q5; clear q1 q2 q3 q4 q5)
        | (go_at_call 16; refine (HAL.out _ _ _ _ HSL.out C1.out).mono ?_; rintro r u2 ⟨rfl, q1, q2⟩; have q4 := B1.out.trans (q2.mono B1.out.size); obtain ⟨v0, v1, v2, v3, v4⟩ := newW_boxes4 q4; obtain ⟨_, ⟨y0, y1, y2⟩, _⟩ := newW_boxes q4; have RW := Lib.hid q1; have D2 := Lib.hid (C1.out.on q2); have B2 := Lib.hid q4; have P2 := Lib.hid q2; clear q1 q2 q4)
        | (go_at_call 10; refine (HGI.out _ (newW_boxes B0.out).2.2).mono ?_; rintro r u1 ⟨b1, F, rfl, q1, q2, q3⟩; have q4 := B0.out.trans (q3.mono B0.out.size); obtain ⟨v0, v1, v2, v3, v4⟩ := newW_boxes4 q4; obtain ⟨_, ⟨y0, y1, y2⟩, _⟩ := newW_boxes q4; have C1 := Lib.hid q1; have A1 := Lib.hid q2; have B1 := Lib.hid q4; clear q1 q2 q3 q4)
        | (go_at_call 9; refine HLV.out.mono ?_; rintro r u0 ⟨rfl, q⟩; obtain ⟨v0, v1, v2, v3, v4⟩ := newW_boxes4 q; obtain ⟨_, ⟨y0, y1, y2⟩, _⟩ := newW_boxes q; have B0 := Lib.hid q; clear q))
      have HNE : Hid (W.heap.size ≤ u4.heap.size ∧ u1.heap.size ≠ u4.heap.size ∧ u3.heap.size + 1 ≠ u4.heap.size) := ⟨(newW_boxes B4.out).2.2.size, by have := S4.out.1; have := P2.out.size; have := RW.out.blw u1.heap.size (by simp [fpR]); omega, Nat.ne_of_lt S4.out.2⟩
      have HQ0 : Hid (Qt W (u4.alloc (.cells (bls (List.replicate ns false)).toArray 4)) u4.heap.size u1.heap.size (u3.heap.size + 1) ns R.pw R.cw (List.replicate ns false) (st.map fixB) sa m.buf ∧ u4.heap.size ∉ fpR R.pw) := by
        have kk := below_alloc u4 (.cells (bls (List.replicate ns false)).toArray 4)
        refine ⟨⟨?_, W4.out.on kk, RX.out.on kk, E4.out.writes.on kk, (newW_boxes B4.out).2.2.trans (kk.mono (newW_boxes B4.out).2.2.size)⟩, fun hx => absurd (E4.out.writes.blw _ hx) (Nat.lt_irrefl _)⟩
        refine ⟨(Nat.mul_one _).symm, .inr ⟨u4.heap.size, ns, (bls (List.replicate ns false)).toArray, by rw [bls_len, List.length_replicate], Nat.zero_le _, heap_alloc_new _ _, by rw [bls_len, List.length_replicate]; exact Nat.le_refl _, by unfold maxLen; omega, by simp [bls], by simp [bls]⟩⟩
      obtain ⟨po, co, pr, cr, pw, cw⟩ := R
      dsimp only at HQ0 x5
      generalize hnbe : m.buf.length = nb at x5 hnb
      have HNB : Hid (m.buf.length = nb) := hnbe
      clear hnbe
      go_loopw [74] (fun vi wr => ∃ j : Nat, vi = .int .i64 j ∧ j ≤ nb ∧ ∃ hs, Hid (Flags hs ns (m.buf.take j) ∧ Qt W wr u4.heap.size u1.heap.size (u3.heap.size + 1) ns pw cw hs (st.map fixB) sa m.buf)) (fun vi _ => nb - (intOf vi).toNat)
      case atStart => exact ⟨0, rfl, Nat.zero_le _, _, flags_nil ns, HQ0.out.1⟩
      case round =>
        obtain ⟨j, rfl, hj, hs, HQ⟩ := hrel
        by_cases hlt : j < nb
        · have hlt' : (j : Int) < (nb : Int) := by omega
          have hjl : j < m.buf.length := by rw [HNB.out]; exact hlt
          obtain ⟨g, e1, e2, e3, e4, _⟩ := HQ.out.2.wri.at j hjl
          have hgd : m.buf.getD j (0, 0) = m.buf[j] := by simp [hjl]
          have hce := HRE.out.1.cel m.buf[j] (List.getElem_mem hjl)
          rw [HRE.out.2] at hce
          obtain ⟨i, hi⟩ : ∃ i : Nat, m.buf[j].1 = (i : Int) := ⟨m.buf[j].1.toNat, by omega⟩
          have hin : i < ns := by omega
          have hfl : hs.getD i false = false := by
            rw [HQ.out.1.2 i hin]
            refine decide_eq_false fun hc => take_not HRE.out.1.nod hjl ?_
            rw [hgd, hi]
            exact hc
          obtain ⟨f1, f2, f3⟩ := row_get HQ.out.2.fl (bls_get (i := i) (by rw [HQ.out.1.1]; exact hin))
          rw [hfl] at f1
          have hnow : sa.getD i 0 = m.buf[j].2 := by
            rw [HAT.out i hin, if_pos (by unfold cellsOfL; exact List.mem_map.2 ⟨m.buf[j], List.getElem_mem hjl, hi⟩), ← hi]
            exact getC_of HRE.out.1.nod hjl
          obtain ⟨n1, _, n3⟩ := row_get HQ.out.2.now (j := i) (fls_get (by rw [HAS.out]; exact hin))
          rw [hnow] at n1
          rw [hi] at e3
          have HNX : Hid (∀ ob v, Same (wr.alloc ob) v → Flags (hs.set i true) ns (m.buf.take (j + 1)) ∧ Qt W (v.setCell ⟨u4.heap.size, i, none⟩ (.bool true)) u4.heap.size u1.heap.size (u3.heap.size + 1) ns pw cw (hs.set i true) (st.map fixB) sa m.buf) := fun ob v hv => ⟨HQ.out.1.more hjl (by rw [hgd]; exact hi) hin, ((HQ.out.2.on (below_alloc _ ob)).on (hv.below _)).put HNE.out.1 HNE.out.2.1 HNE.out.2.2 HQ0.out.2 i⟩
          generalize m.buf[j].2 = x at e4 n1
          have hi2 : (i : Int) < (ns : Int) := by omega
          have hd0 : decide ((i : Int) < 0) = false := decide_eq_false (by omega)
          have hd1 : decide ((ns : Int) ≤ (i : Int)) = false := decide_eq_false (by omega)
          clear hgd hce hi hfl hnow HQ
          subst e1
          go_wp2
          go_quiet ((go_at_call 20; refine Calls.quiet_of_same (bits_same _ _)))
          go_wp2
          exact ⟨⟨j + 1, by first | rfl | (congr 1), by omega, _, HNX.out _ _ (by first | exact Same.refl _ | exact Same.drewN _ _)⟩, by simp [intOf]; omega⟩
        · have hlt' : ¬ (j : Int) < (nb : Int) := by omega
          have HFG : Hid (Flags hs ns m.buf) := by
            have := HQ.out.1
            rwa [show j = m.buf.length by rw [HNB.out]; omega, List.take_length] at this
          have HQ2 := Lib.hid HQ.out.2
          clear HQ
          obtain ⟨wo, rfl⟩ : ∃ wo : World, wo = wr := ⟨_, rfl⟩
          go_wp2
          go_loopw [113] (fun vi wr => ∃ i : Nat, vi = .int .i64 i ∧ i ≤ ns ∧ Hid (Qt W wr u4.heap.size u1.heap.size (u3.heap.size + 1) ns pw cw hs (st.map fixB) sa m.buf)) (fun vi _ => ns - (intOf vi).toNat)
          case atStart => exact ⟨0, rfl, Nat.zero_le _, HQ2.out⟩
          case round =>
            obtain ⟨i, rfl, hile, HQ⟩ := hrel
            by_cases hin : i < ns
            · have hi2 : (i : Int) < (ns : Int) := by omega
              obtain ⟨f1, _, f3⟩ := row_get HQ.out.fl (bls_get (i := i) (by rw [HFG.out.1]; exact hin))
              obtain ⟨n1, _, n3⟩ := row_get HQ.out.now (j := i) (fls_get (by rw [HAS.out]; exact hin))
              obtain ⟨o1, _, o3⟩ := row_get HQ.out.was (j := i) (fls_get (by rw [HSL.out]; exact hin))
              have HNX : Hid (∀ v, Same wr v → Qt W v u4.heap.size u1.heap.size (u3.heap.size + 1) ns pw cw hs (st.map fixB) sa m.buf) := fun v hv => HQ.out.on (hv.below _)
              cases hfb : hs.getD i false
              · have hsame : sa.getD i 0 = (st.map fixB).getD i 0 := by
                  have h2 := HFG.out.2 i hin
                  rw [hfb] at h2
                  rw [HAT.out i hin, if_neg (of_decide_eq_false h2.symm)]
                rw [hsame] at n1
                rw [hfb] at f1
                generalize (st.map fixB).getD i 0 = x at n1 o1
                clear hsame hfb HQ
                go_wp2
                go_quiet ((go_at_call 20; refine Calls.quiet_of_same (bits_same _ _)))
                go_wp2
                exact ⟨⟨i + 1, by first | rfl | (congr 1), by omega, HNX.out _ (by first | exact Same.refl _ | exact Same.drewN _ _)⟩, by simp [intOf]; omega⟩
              · rw [hfb] at f1
                clear hfb HQ
                go_wp2
                go_quiet (fail)
                go_wp2
                exact ⟨⟨i + 1, by first | rfl | (congr 1), by omega, HNX.out _ (by first | exact Same.refl _ | exact Same.drewN _ _)⟩, by simp [intOf]; omega⟩
            · have hin' : ¬ (i : Int) < (ns : Int) := by omega
              have HFI := Lib.hid HQ.out.bel
              clear HQ
              go_wp2
              go_ret
              exact ⟨rfl, HFI.out⟩
    · have hsa : aftS (st.map fixB) (runR a b c e t cs l (st.map fixB)) = st.map fixB := quiet_same hok hx hl (by rw [hk]; exact hall)
      rw [hsa] at HRN HAS
      cases hg : goodB a b c e (st.map fixB).length k
      · have he : runE a b c e (st.map fixB).length k = 1 := by unfold runE; rw [hg]; rfl
        rw [he] at HRN
        generalize runR a b c e t cs l (st.map fixB) = m at HRN
        clear hall hsa
        clear hT hC hx hL hl hS hst hnl hmay hn hk hns hok hsl hg he HSL0
        go_enter Tryz.func5, Tryz.ntmps5
        go_wp2_with (first
          | (go_at_call 15; refine (HEX.out _ _ _ _ _ W4.out.fl RX.out.fl).mono ?_; rintro r u5 ⟨rfl, q⟩; have B5 := Lib.hid (B4.out.trans (q.below _)); clear q)
          | (go_at_call 16; refine (HAL.out _ _ _ _ HAS.out C3.out).mono ?_; rintro r u4 ⟨rfl, q1, q2⟩; have hsz : (u3.alloc (.cells (resC R m) 38)).heap.size = u3.heap.size + 1 := Array.size_push _; rw [hsz] at q1; clear hsz; have q4 := B3.out.trans (q2.mono B3.out.size); obtain ⟨v0, v1, v2, v3, v4⟩ := newW_boxes4 q4; obtain ⟨_, ⟨y0, y1, y2⟩, _⟩ := newW_boxes q4; have RX := Lib.hid q1; have W4 := Lib.hid (W3.out.on q2); have E4 := Lib.hid (E3.out.on q2); have Z4 : Hid (u4.heap[u3.heap.size]? = some (.cells (resC R m) 38)) := (q2.block _ (by simp)).trans (heap_alloc_new _ _); obtain ⟨⟨x0, x1, x2, x3, x4, x5, x6, x7⟩, _⟩ := cells7_of Z4.out; have B4 := Lib.hid q4; have S4 : Hid (u2.heap.size ≤ u4.heap.size ∧ u3.heap.size + 1 < u4.heap.size) := ⟨Nat.le_trans T3.out.size (Nat.le_trans (below_alloc u3 (.cells (resC R m) 38)).size q2.size), q1.blw _ (by simp [fpR])⟩; clear q1 q2 q4)
          | (go_at_call 12; refine (HRN.out _ _ _ (newW_boxes B2.out).2.2 D2.out).mono ?_; rintro r u3 ⟨R, rfl, q1, q2, q3⟩; have q4 := q3.shaped B2.out (A1.out.mono B0.out.size); have q5 := q4.alloc q4.size (.cells (resC R m) 38); obtain ⟨v0, v1, v2, v3, v4⟩ := newW_boxes4 q5; obtain ⟨_, ⟨y0, y1, y2⟩, _⟩ := newW_boxes q5; have E3 := Lib.hid (q1.on (below_alloc _ (.cells (resC R m) 38))); have W3 := Lib.hid ((RW.out.turn q3 (fun x hx y => by simp [fpR] at hx; subst hx; exact absurd (C1.out.blw _ y) (Nat.lt_irrefl _))).on (below_alloc _ (.cells (resC R m) 38))); have C3 := Lib.hid (q2.on (below_alloc _ (.cells (resC R m) 38))); have T3 := Lib.hid q3; have B3 := Lib.hid q5; clear q1 q2 q3 q4 q5)
          | (go_at_call 16; refine (HAL.out _ _ _ _ HSL.out C1.out).mono ?_; rintro r u2 ⟨rfl, q1, q2⟩; have q4 := B1.out.trans (q2.mono B1.out.size); obtain ⟨v0, v1, v2, v3, v4⟩ := newW_boxes4 q4; obtain ⟨_, ⟨y0, y1, y2⟩, _⟩ := newW_boxes q4; have RW := Lib.hid q1; have D2 := Lib.hid (C1.out.on q2); have B2 := Lib.hid q4; have P2 := Lib.hid q2; clear q1 q2 q4)
          | (go_at_call 10; refine (HGI.out _ (newW_boxes B0.out).2.2).mono ?_; rintro r u1 ⟨b1, F, rfl, q1, q2, q3⟩; have q4 := B0.out.trans (q3.mono B0.out.size); obtain ⟨v0, v1, v2, v3, v4⟩ := newW_boxes4 q4; obtain ⟨_, ⟨y0, y1, y2⟩, _⟩ := newW_boxes q4; have C1 := Lib.hid q1; have A1 := Lib.hid q2; have B1 := Lib.hid q4; clear q1 q2 q3 q4)
          | (go_at_call 9; refine HLV.out.mono ?_; rintro r u0 ⟨rfl, q⟩; obtain ⟨v0, v1, v2, v3, v4⟩ := newW_boxes4 q; obtain ⟨_, ⟨y0, y1, y2⟩, _⟩ := newW_boxes q; have B0 := Lib.hid q; clear q))
        go_ret
        exact ⟨rfl, (newW_boxes B5.out).2.2⟩
      · have he : runE a b c e (st.map fixB).length k = 0 := by unfold runE; rw [hg]; rfl
        rw [he] at HRN
        by_cases hh : (runR a b c e t cs l (st.map fixB)).how = 1
        · have ht : ¬ t = 2 := fun h => hall ⟨hg, hh, h⟩
          have hhb : ((runR a b c e t cs l (st.map fixB)).how != 1) = false := by simp [hh]
          have htb : (t != 2) = true := by simpa using ht
          generalize runR a b c e t cs l (st.map fixB) = m at HRN hhb
          clear hall hsa hh ht
          clear hT hC hx hL hl hS hst hnl hmay hn hk hns hok hsl hg he HSL0
          go_enter Tryz.func5, Tryz.ntmps5
          go_wp2_with (first
            | (go_at_call 15; refine (HEX.out _ _ _ _ _ W4.out.fl RX.out.fl).mono ?_; rintro r u5 ⟨rfl, q⟩; have B5 := Lib.hid (B4.out.trans (q.below _)); clear q)
            | (go_at_call 16; refine (HAL.out _ _ _ _ HAS.out C3.out).mono ?_; rintro r u4 ⟨rfl, q1, q2⟩; have hsz : (u3.alloc (.cells (resC R m) 38)).heap.size = u3.heap.size + 1 := Array.size_push _; rw [hsz] at q1; clear hsz; have q4 := B3.out.trans (q2.mono B3.out.size); obtain ⟨v0, v1, v2, v3, v4⟩ := newW_boxes4 q4; obtain ⟨_, ⟨y0, y1, y2⟩, _⟩ := newW_boxes q4; have RX := Lib.hid q1; have W4 := Lib.hid (W3.out.on q2); have E4 := Lib.hid (E3.out.on q2); have Z4 : Hid (u4.heap[u3.heap.size]? = some (.cells (resC R m) 38)) := (q2.block _ (by simp)).trans (heap_alloc_new _ _); obtain ⟨⟨x0, x1, x2, x3, x4, x5, x6, x7⟩, _⟩ := cells7_of Z4.out; have B4 := Lib.hid q4; have S4 : Hid (u2.heap.size ≤ u4.heap.size ∧ u3.heap.size + 1 < u4.heap.size) := ⟨Nat.le_trans T3.out.size (Nat.le_trans (below_alloc u3 (.cells (resC R m) 38)).size q2.size), q1.blw _ (by simp [fpR])⟩; clear q1 q2 q4)
            | (go_at_call 12; refine (HRN.out _ _ _ (newW_boxes B2.out).2.2 D2.out).mono ?_; rintro r u3 ⟨R, rfl, q1, q2, q3⟩; have q4 := q3.shaped B2.out (A1.out.mono B0.out.size); have q5 := q4.alloc q4.size (.cells (resC R m) 38); obtain ⟨v0, v1, v2, v3, v4⟩ := newW_boxes4 q5; obtain ⟨_, ⟨y0, y1, y2⟩, _⟩ := newW_boxes q5; have E3 := Lib.hid (q1.on (below_alloc _ (.cells (resC R m) 38))); have W3 := Lib.hid ((RW.out.turn q3 (fun x hx y => by simp [fpR] at hx; subst hx; exact absurd (C1.out.blw _ y) (Nat.lt_irrefl _))).on (below_alloc _ (.cells (resC R m) 38))); have C3 := Lib.hid (q2.on (below_alloc _ (.cells (resC R m) 38))); have T3 := Lib.hid q3; have B3 := Lib.hid q5; clear q1 q2 q3 q4 q5)
            | (go_at_call 16; refine (HAL.out _ _ _ _ HSL.out C1.out).mono ?_; rintro r u2 ⟨rfl, q1, q2⟩; have q4 := B1.out.trans (q2.mono B1.out.size); obtain ⟨v0, v1, v2, v3, v4⟩ := newW_boxes4 q4; obtain ⟨_, ⟨y0, y1, y2⟩, _⟩ := newW_boxes q4; have RW := Lib.hid q1; have D2 := Lib.hid (C1.out.on q2); have B2 := Lib.hid q4; have P2 := Lib.hid q2; clear q1 q2 q4)
            | (go_at_call 10; refine (HGI.out _ (newW_boxes B0.out).2.2).mono ?_; rintro r u1 ⟨b1, F, rfl, q1, q2, q3⟩; have q4 := B0.out.trans (q3.mono B0.out.size); obtain ⟨v0, v1, v2, v3, v4⟩ := newW_boxes4 q4; obtain ⟨_, ⟨y0, y1, y2⟩, _⟩ := newW_boxes q4; have C1 := Lib.hid q1; have A1 := Lib.hid q2; have B1 := Lib.hid q4; clear q1 q2 q3 q4)
            | (go_at_call 9; refine HLV.out.mono ?_; rintro r u0 ⟨rfl, q⟩; obtain ⟨v0, v1, v2, v3, v4⟩ := newW_boxes4 q; obtain ⟨_, ⟨y0, y1, y2⟩, _⟩ := newW_boxes q; have B0 := Lib.hid q; clear q))
          go_ret
          exact ⟨rfl, (newW_boxes B5.out).2.2⟩
        · have hhb : ((runR a b c e t cs l (st.map fixB)).how != 1) = true := by simpa using hh
          generalize runR a b c e t cs l (st.map fixB) = m at HRN hhb
          clear hall hsa hh
          clear hT hC hx hL hl hS hst hnl hmay hn hk hns hok hsl hg he HSL0
          go_enter Tryz.func5, Tryz.ntmps5
          go_wp2_with (first
            | (go_at_call 15; refine (HEX.out _ _ _ _ _ W4.out.fl RX.out.fl).mono ?_; rintro r u5 ⟨rfl, q⟩; have B5 := Lib.hid (B4.out.trans (q.below _)); clear q)
            | (go_at_call 16; refine (HAL.out _ _ _ _ HAS.out C3.out).mono ?_; rintro r u4 ⟨rfl, q1, q2⟩; have hsz : (u3.alloc (.cells (resC R m) 38)).heap.size = u3.heap.size + 1 := Array.size_push _; rw [hsz] at q1; clear hsz; have q4 := B3.out.trans (q2.mono B3.out.size); obtain ⟨v0, v1, v2, v3, v4⟩ := newW_boxes4 q4; obtain ⟨_, ⟨y0, y1, y2⟩, _⟩ := newW_boxes q4; have RX := Lib.hid q1; have W4 := Lib.hid (W3.out.on q2); have E4 := Lib.hid (E3.out.on q2); have Z4 : Hid (u4.heap[u3.heap.size]? = some (.cells (resC R m) 38)) := (q2.block _ (by simp)).trans (heap_alloc_new _ _); obtain ⟨⟨x0, x1, x2, x3, x4, x5, x6, x7⟩, _⟩ := cells7_of Z4.out; have B4 := Lib.hid q4; have S4 : Hid (u2.heap.size ≤ u4.heap.size ∧ u3.heap.size + 1 < u4.heap.size) := ⟨Nat.le_trans T3.out.size (Nat.le_trans (below_alloc u3 (.cells (resC R m) 38)).size q2.size), q1.blw _ (by simp [fpR])⟩; clear q1 q2 q4)
            | (go_at_call 12; refine (HRN.out _ _ _ (newW_boxes B2.out).2.2 D2.out).mono ?_; rintro r u3 ⟨R, rfl, q1, q2, q3⟩; have q4 := q3.shaped B2.out (A1.out.mono B0.out.size); have q5 := q4.alloc q4.size (.cells (resC R m) 38); obtain ⟨v0, v1, v2, v3, v4⟩ := newW_boxes4 q5; obtain ⟨_, ⟨y0, y1, y2⟩, _⟩ := newW_boxes q5; have E3 := Lib.hid (q1.on (below_alloc _ (.cells (resC R m) 38))); have W3 := Lib.hid ((RW.out.turn q3 (fun x hx y => by simp [fpR] at hx; subst hx; exact absurd (C1.out.blw _ y) (Nat.lt_irrefl _))).on (below_alloc _ (.cells (resC R m) 38))); have C3 := Lib.hid (q2.on (below_alloc _ (.cells (resC R m) 38))); have T3 := Lib.hid q3; have B3 := Lib.hid q5; clear q1 q2 q3 q4 q5)
            | (go_at_call 16; refine (HAL.out _ _ _ _ HSL.out C1.out).mono ?_; rintro r u2 ⟨rfl, q1, q2⟩; have q4 := B1.out.trans (q2.mono B1.out.size); obtain ⟨v0, v1, v2, v3, v4⟩ := newW_boxes4 q4; obtain ⟨_, ⟨y0, y1, y2⟩, _⟩ := newW_boxes q4; have RW := Lib.hid q1; have D2 := Lib.hid (C1.out.on q2); have B2 := Lib.hid q4; have P2 := Lib.hid q2; clear q1 q2 q4)
            | (go_at_call 10; refine (HGI.out _ (newW_boxes B0.out).2.2).mono ?_; rintro r u1 ⟨b1, F, rfl, q1, q2, q3⟩; have q4 := B0.out.trans (q3.mono B0.out.size); obtain ⟨v0, v1, v2, v3, v4⟩ := newW_boxes4 q4; obtain ⟨_, ⟨y0, y1, y2⟩, _⟩ := newW_boxes q4; have C1 := Lib.hid q1; have A1 := Lib.hid q2; have B1 := Lib.hid q4; clear q1 q2 q3 q4)
            | (go_at_call 9; refine HLV.out.mono ?_; rintro r u0 ⟨rfl, q⟩; obtain ⟨v0, v1, v2, v3, v4⟩ := newW_boxes4 q; obtain ⟨_, ⟨y0, y1, y2⟩, _⟩ := newW_boxes q; have B0 := Lib.hid q; clear q))
          go_ret
          exact ⟨rfl, (newW_boxes B5.out).2.2⟩
end Go.Proofs.YthnpcnmidbacjaaGreatDoor
