import Derived.Test.YtmlklnimkgnbkaaGreatDoorA3
import Derived.Test.YtmlklnimkgnbkaaGreatDoorRP
import Derived.BigRegion
import Derived.Maps.AppendAt
import Derived.Deep.DeepCutAuto
namespace Go.Proofs.YtmlklnimkgnbkaaGreatDoor
open Go.ChangeShapes Go.WideShapes Go.ChangeAt Go.RowKit Num
attribute [local go_sem] run_store_float

/-! the document's Run -/
/-- what a result tells, wherever its lists lie -/
structure WantAt (w : World) (R : Rs) (m : Mac) : Prop where
  out : FlAt w R.po m.out
  reads : TlAt w R.pr m.reads
  writes : TlAt w R.pw m.buf
/-- .. and all its lists new since B -/
structure WantB (w : World) (B : Nat) (R : Rs) (m : Mac) : Prop where
  want : WantAt w R m
  ao : Abv B (fpR R.po)
  ar : Abv B (fpR R.pr)
  aw : Abv B (fpR R.pw)
  lo : Blw w (fpR R.po)
  lr : Blw w (fpR R.pr)
  lw : Blw w (fpR R.pw)
theorem WantB.mono {w : World} {B B' : Nat} {R : Rs} {m : Mac} (h : WantB w B R m) (k : B' ≤ B) : WantB w B' R m := ⟨h.want, h.ao.mono k, h.ar.mono k, h.aw.mono k, h.lo, h.lr, h.lw⟩
theorem WantAt.on {w w' : World} {R : Rs} {m : Mac} (h : WantAt w R m) (k : Below w.heap.size w w') : WantAt w' R m := ⟨h.out.on k, h.reads.on k, h.writes.on k⟩
theorem ResAt.want {w : World} {B : Nat} {R : Rs} {m : Mac} (h : ResAt w B R m) : WantAt w R m := ⟨h.out.fl, h.reads.tl, h.writes.tl⟩
theorem want_noneB (w : World) (B : Nat) : WantB w B ⟨none, 0, none, 0, none, 0⟩ zeroM := ⟨⟨fun k hk => absurd hk (Nat.not_lt_zero k), fun k hk => absurd hk (Nat.not_lt_zero k), fun k hk => absurd hk (Nat.not_lt_zero k)⟩, fun k hk => by simp [fpR] at hk, fun k hk => by simp [fpR] at hk, fun k hk => by simp [fpR] at hk, fun k hk => by simp [fpR] at hk, fun k hk => by simp [fpR] at hk, fun k hk => by simp [fpR] at hk⟩
theorem want_none (w : World) : WantAt w ⟨none, 0, none, 0, none, 0⟩ zeroM := ⟨fun k hk => absurd hk (Nat.not_lt_zero k), fun k hk => absurd hk (Nat.not_lt_zero k), fun k hk => absurd hk (Nat.not_lt_zero k)⟩
set_option maxHeartbeats 2000000 in
set_option maxRecDepth 100000 in
theorem rrun_bad {w : World} {a b c e t : Int} {ao : Option Addr} {n cap : Nat} {po : Option Addr} {k co : Nat} {pn : Option Addr} {ns cn : Nat} (hg : goodB a b c e ns k = false) : Calls Tryz.prog 24 #[cfgV a b c e, .agg #[.int .i64 t, .slice ao n cap], .slice po k co, .slice pn ns cn] w fun r w' => r = .returned (.tuple #[resV ⟨none, 0, none, 0, none, 0⟩ zeroM, .int .i64 1]) ∧ Below w.heap.size w w' := by
  have HP := Lib.hid (Md.refPlace_any a b c e (runW w a b c e t ao n cap))
  unfold goodB at hg
  have HX : Hid (∀ u, Below (runW w a b c e t ao n cap).heap.size (runW w a b c e t ao n cap) u → u.heap[w.heap.size + 1 + 1]? = some resZ ∧ Below w.heap.size w u) := fun u hb => (runW_boxes hb).2.2
  have HB4 : Hid (∀ u, Below (runW w a b c e t ao n cap).heap.size (runW w a b c e t ao n cap) u → u.cell? ⟨w.heap.size, 0, none⟩ = some (.int .i64 a) ∧ w.heap.size < u.heap.size) := fun u hb => ⟨(runW_boxes hb).1.1, (runW_boxes hb).1.2.2.2.2⟩
  have HT : Hid (∀ u, Below w.heap.size w u → w.heap.size + 1 + 1 < u.heap.size → Below w.heap.size w (((((((u.setCell ⟨w.heap.size + 1 + 1, 0, none⟩ (.int .i64 0)).setCell ⟨w.heap.size + 1 + 1, 1, none⟩ (.int .i64 0)).setCell ⟨w.heap.size + 1 + 1, 2, none⟩ (.int .i64 0)).setCell ⟨w.heap.size + 1 + 1, 3, none⟩ (.slice none 0 0)).setCell ⟨w.heap.size + 1 + 1, 4, none⟩ (.slice none 0 0)).setCell ⟨w.heap.size + 1 + 1, 5, none⟩ (.slice none 0 0)).setCell ⟨w.heap.size + 1 + 1, 6, none⟩ (.int .i64 0))) := fun u hb hl => hb.trans ((turn_set7 u (w.heap.size + 1 + 1) _ _ _ _ _ _ _).below (fun x hx => by simp at hx; omega) (by omega))
  cases hf : Md.cfgB a b c e
  · rw [hf, if_neg Bool.false_ne_true] at HP
    clear hg hf
    go_enter Tryz.func24, Tryz.ntmps24
    go_wp2_with (go_at_call 23; refine HP.out.mono ?_; rintro r u ⟨rfl, q⟩; have q := q.alloc q.size (.cells #[.int .i64 0, .int .i64 0, .int .i64 0, .int .i64 0, .int .i64 0, .int .i64 0] 71); obtain ⟨⟨x0, x1, x2, x3, x4, x5, x6, x7⟩, y0, y1, y2, y3, y4, y5, y6⟩ := cells7_of (HX.out _ q).1; have HQ := Lib.hid (HX.out _ q); clear q HP)
    exact res_back2 rfl (w.heap.size + 1 + 1) ⟨none, 0, none, 0, none, 0⟩ zeroM 1 rfl rfl (box_set7 HQ.out.1) rfl ⟨rfl, HT.out _ HQ.out.2 x7⟩
  · rw [hf, if_pos rfl] at HP
    by_cases hk : (8 : Int) < (k : Int)
    · clear hg hf
      go_enter Tryz.func24, Tryz.ntmps24
      go_wp2_with (go_at_call 23; refine HP.out.mono ?_; rintro r u ⟨rfl, q⟩; have q := q.alloc q.size (.cells #[.int .i64 0, .int .i64 1, .int .i64 2, .int .i64 3, .int .i64 (3 + b), .int .i64 (3 + b + 3 * a)] 71); obtain ⟨⟨x0, x1, x2, x3, x4, x5, x6, x7⟩, y0, y1, y2, y3, y4, y5, y6⟩ := cells7_of (HX.out _ q).1; obtain ⟨z0, z1⟩ := HB4.out _ q; have HQ := Lib.hid (HX.out _ q); clear q HP)
      exact res_back2 rfl (w.heap.size + 1 + 1) ⟨none, 0, none, 0, none, 0⟩ zeroM 1 rfl rfl (box_set7 HQ.out.1) rfl ⟨rfl, HT.out _ HQ.out.2 x7⟩
    · have hne : ¬ (ns : Int) = a := by rw [hf] at hg; simp at hg; intro h; have := hg h; omega
      have hbe : ((ns : Int) != a) = true := by simpa using hne
      clear hg hf
      go_enter Tryz.func24, Tryz.ntmps24
      go_wp2_with (go_at_call 23; refine HP.out.mono ?_; rintro r u ⟨rfl, q⟩; have q := q.alloc q.size (.cells #[.int .i64 0, .int .i64 1, .int .i64 2, .int .i64 3, .int .i64 (3 + b), .int .i64 (3 + b + 3 * a)] 71); obtain ⟨⟨x0, x1, x2, x3, x4, x5, x6, x7⟩, y0, y1, y2, y3, y4, y5, y6⟩ := cells7_of (HX.out _ q).1; obtain ⟨z0, z1⟩ := HB4.out _ q; have HQ := Lib.hid (HX.out _ q); clear q HP)
      exact res_back2 rfl (w.heap.size + 1 + 1) ⟨none, 0, none, 0, none, 0⟩ zeroM 1 rfl rfl (box_set7 HQ.out.1) rfl ⟨rfl, HT.out _ HQ.out.2 x7⟩
/-- the document's machine, new -/
theorem rnew_rg {w u : World} {a b c e t : Int} {ao : Option Addr} {cs : List Ins} {n cap : Nat} {po : Option Addr} {l : List Nat} {k co : Nat} (hb : Below w.heap.size w u) (hn : cs.length = n) (hk : l.length = k) (hC : CodeAt w ao cs) (hL : FlAt w po l) (hnl : n ≤ 9223372036854775807) (hc : Md.cfgB a b c e = true) (hk8 : k ≤ 8) : Calls Tryz.prog 39 #[cfgV a b c e, .agg #[.int .i64 t, .slice ao n cap], .slice po k co] u fun r w' => ∃ br bl F0 K, r = .returned (.pointer (some ⟨br, 0, none⟩)) ∧ Rg w' F0 br bl K w' (newM a c e t cs l) cs ∧ Abv u.heap.size F0 ∧ Abv u.heap.size [br, bl] ∧ Below u.heap.size u w' := by
  refine (rnew_some hc hn hk hk8 (hC.on hb) (hL.on hb) hnl).mono fun r w' ⟨br, bl, pa, ca, q1, q2⟩ => ?_
  refine ⟨br, bl, _, _, q1, ⟨_, q2.ref hb hC hn, ⟨rfl, rfl⟩, Turn.refl _ _, fun x hx => .inl hx⟩, q2.abv, fun x hx => ?_, q2.bl⟩
  simp at hx
  rcases hx with rfl | rfl
  · exact q2.a1
  · exact q2.a2
/-- when it has ended: its box, and where its lists lie -/
structure RDone (w wr : World) (br : Nat) (q : Rp) (m : Mac) : Prop where
  box : wr.heap[br]? = some (rbO m q)
  out : Ro wr q.pt (fls m.out)
  rds : Ro wr q.pr (m.reads.flatMap tchC)
  buf : Ro wr q.pb (m.buf.flatMap tchC)
  hb : w.heap.size ≤ br
  ho : Abv w.heap.size (fpR q.pt)
  hr : Abv w.heap.size (fpR q.pr)
  hw : Abv w.heap.size (fpR q.pb)
  lo : Blw wr (fpR q.pt)
  lr : Blw wr (fpR q.pr)
  lw : Blw wr (fpR q.pb)
theorem Rg.done {w W wr : World} {F0 : List Nat} {br bl : Nat} {K : List Nat} {m : Mac} {cs : List Ins} (h : Rg W F0 br bl K wr m cs) (hA : Abv w.heap.size F0) (hW : w.heap.size ≤ W.heap.size) : ∃ q, RDone w wr br q m := by
  obtain ⟨q, hr, _, _, hF⟩ := h
  have hall : Abv w.heap.size (Fr br q) := fun x hx => (hF x hx).elim (hA x) (Nat.le_trans hW)
  have hin : ∀ p ∈ q.rows, ∀ x ∈ fpR p, x ∈ Fr br q := fun p hp x hx => List.mem_cons_of_mem _ (List.mem_cons_of_mem _ (List.mem_flatMap.2 ⟨p, hp, hx⟩))
  have m1 : q.pt ∈ q.rows := by simp [Rp.rows]
  have m2 : q.pr ∈ q.rows := by simp [Rp.rows]
  have m3 : q.pb ∈ q.rows := by simp [Rp.rows]
  exact ⟨q, hr.box, hr.out, hr.rds, hr.buf, hall br (List.mem_cons_self ..), fun x hx => hall x (hin _ m1 x hx), fun x hx => hall x (hin _ m2 x hx), fun x hx => hall x (hin _ m3 x hx), fun x hx => hr.lt x (hin _ m1 x hx), fun x hx => hr.lt x (hin _ m2 x hx), fun x hx => hr.lt x (hin _ m3 x hx)⟩
theorem RDone.turn {w wr u : World} {br g : Nat} {q : Rp} {m : Mac} (h : RDone w wr br q m) (t : Turn [g] [g] wr u) (hg : g < w.heap.size) : RDone w u br q m := by
  have sp : ∀ {F : List Nat}, Abv w.heap.size F → Sep F [g] := fun hA x hx y => by simp at y; have := hA x hx; omega
  have hz := t.size
  exact ⟨(t.block br (lt_of_block h.box) (by simp; have := h.hb; omega)).trans h.box, h.out.keep (t.kept (sp h.ho) h.lo), h.rds.keep (t.kept (sp h.hr) h.lr), h.buf.keep (t.kept (sp h.hw) h.lw), h.hb, h.ho, h.hr, h.hw, fun x hx => Nat.lt_of_lt_of_le (h.lo x hx) hz, fun x hx => Nat.lt_of_lt_of_le (h.lr x hx) hz, fun x hx => Nat.lt_of_lt_of_le (h.lw x hx) hz⟩
theorem RDone.cells {w wr : World} {br : Nat} {q : Rp} {m : Mac} (h : RDone w wr br q m) : (wr.cell? ⟨br, 12, none⟩ = some (.int .i64 m.used) ∧ wr.cell? ⟨br, 14, none⟩ = some (.int .i64 m.how) ∧ wr.cell? ⟨br, 15, none⟩ = some (.int .i64 m.cod) ∧ wr.cell? ⟨br, 16, none⟩ = some (.int .i64 m.err)) ∧ wr.cell? ⟨br, 17, none⟩ = some (.slice q.pt m.out.length q.ct) ∧ wr.cell? ⟨br, 18, none⟩ = some (.slice q.pr m.reads.length q.cr) ∧ wr.cell? ⟨br, 19, none⟩ = some (.slice q.pb m.buf.length q.cb) ∧ br < wr.heap.size := by
  refine ⟨⟨?_, ?_, ?_, ?_⟩, ?_, ?_, ?_, lt_of_block h.box⟩
  all_goals (rw [cell_of_row wr br _ _ _ _ h.box]; rfl)
theorem rrun_close {w w1 u : World} {br g gn cn : Nat} {s : List Nat} {q : Rp} {m : Mac} (hB : Turn [gn] [gn] w u) (hN : RowAt 50 u (some ⟨gn, 0, none⟩) cn (fls s)) (hd : RDone w1 u br q m) (hbox : u.heap[g]? = some resZ) (hg : w.heap.size ≤ g) (hg1 : g < w1.heap.size) (hgn : gn ≠ g) {v : World} (hv : Same (((((((u.setCell ⟨g, 0, none⟩ (.int .i64 m.how)).setCell ⟨g, 1, none⟩ (.int .i64 m.cod)).setCell ⟨g, 2, none⟩ (.int .i64 m.err)).setCell ⟨g, 3, none⟩ (.slice q.pt m.out.length q.ct)).setCell ⟨g, 4, none⟩ (.slice q.pr m.reads.length q.cr)).setCell ⟨g, 5, none⟩ (.slice q.pb m.buf.length q.cb)).setCell ⟨g, 6, none⟩ (.int .i64 m.used)) v) :
    v.heap[g]? = some (.cells (resC ⟨q.pt, q.ct, q.pr, q.cr, q.pb, q.cb⟩ m) 44 (0, 0)) ∧ WantB v w1.heap.size ⟨q.pt, q.ct, q.pr, q.cr, q.pb, q.cb⟩ m ∧ RowAt 50 v (some ⟨gn, 0, none⟩) cn (fls s) ∧ Turn [gn] [gn] w v := by
  have t := (turn_set7 u g (.int .i64 m.how) (.int .i64 m.cod) (.int .i64 m.err) (.slice q.pt m.out.length q.ct) (.slice q.pr m.reads.length q.cr) (.slice q.pb m.buf.length q.cb) (.int .i64 m.used)).trans (hv.turn [g])
  have hd2 := hd.turn t hg1
  exact ⟨by rw [hv.heap]; exact box_set7 hbox, ⟨⟨hd2.out.fl, hd2.rds.tl, hd2.buf.tl⟩, hd2.ho, hd2.hr, hd2.hw, hd2.lo, hd2.lr, hd2.lw⟩, hN.turn t (fun x hx y => by simp [fpR] at hx y; omega), hB.past2 t hg⟩
theorem foldL_take {m : Mac} (hm : Rest m) (s : List Nat) {j : Nat} (hj : j < m.buf.length) {i : Nat} (hi : i < s.length) (hc : (m.buf.getD j (0, 0)).1 = (i : Int)) : (Sx.foldL s (m.buf.take j)).set i (m.buf.getD j (0, 0)).2 = Sx.foldL s (m.buf.take (j + 1)) := by
  have e := Sx.foldL_snoc s m.buf j hj
  have hg : m.buf.getD j (0, 0) = m.buf[j] := by simp [hj]
  rw [hg] at hc ⊢
  rw [← e]
  unfold Sx.setL
  have ho := (hm.inv.buf _ (List.getElem_mem hj)).1
  rw [ho, hc, if_pos (by rw [Sx.foldL_len, Sx.hasN_nat]; exact decide_eq_true hi), Int.toNat_natCast]
end Go.Proofs.YtmlklnimkgnbkaaGreatDoor
namespace Go.Proofs.YtmlklnimkgnbkaaGreatDoor
open Go.ChangeShapes Go.WideShapes Go.ChangeAt Go.RowKit Num
attribute [local go_sem] run_store_float

/-! the laws' own functions -/
theorem app_nums {w : World} {p : Option Addr} {l : List Nat} {n c : Nat} (hn : l.length = n) (hL : FlAt w p l) (hz : n * 8 ≤ 140737488355328) (ty : TypeId) : ∃ v w', (Builtin.append_ #[26, 26] ty #[.slice none 0 0, .slice p n c]).run Tryz.prog w = .ok v w' ∧ (∃ p' c', v = .slice p' n c' ∧ RowAt 50 w' p' c' (fls l) ∧ Abv w.heap.size (fpR p') ∧ Below w.heap.size w w') := by
  obtain ⟨i, hi, hz0, hz1, hz2⟩ := info_parts fInfo
  cases p with
  | none =>
    cases l with
    | nil =>
      obtain rfl : n = 0 := hn.symm
      refine ⟨.slice none 0 0, w, ?_, none, 0, rfl, ⟨World.ownsRow_nil _ _ _ _⟩, fun x hx => by simp [fpR] at hx, Below.refl _ _⟩
      simp [Builtin.append_, run_underlying Tryz.underlying26, Builtin.lenOf, Builtin.firstCells, sizeOf, typeInfo, hi]
    | cons x l =>
      obtain ⟨g, o, e, _⟩ := hL 0 (by simp)
      cases e
  | some ad =>
    obtain ⟨v, w', h1, h2, h3, _, h5⟩ := run_append_own_at (P := Tryz.prog) (w := w) w.heap.size 26 ty 50 i (.float .f64 0) 1 8 Tryz.underlying26 hi hz0 hz1 hz2 rfl (by decide) (.slice none 0 0) 0 [] (World.ownsRow_nil _ _ _ _) ad n c (fls l) (by rw [fls_len, hn, Nat.mul_one]) (fun j u hu => by
      obtain ⟨hj, rfl⟩ := fls_getD hu
      obtain ⟨g, o, e, _, hc⟩ := hL j hj
      cases e
      rw [Go.WideShapes.add_plain]
      exact hc) (fls_one l) (by unfold maxLen; omega) (by omega) (Nat.le_refl _)
    rw [List.nil_append, Nat.zero_add] at h2
    obtain ⟨p', c', rfl, hr, ha⟩ := ownsRow_based h2
    refine ⟨_, w', h1, p', c', by rw [fls_len, hn], hr, ha, ?_⟩
    exact (Below.refl w.heap.size w).grown h3 (Nat.le_refl _) (fun j hj => by simp [Value.ownBlock] at hj)
set_option maxHeartbeats 2000000 in
set_option maxRecDepth 100000 in
theorem numbers_any {w : World} {p : Option Addr} {l : List Nat} {n c : Nat} (hn : l.length = n) (hL : FlAt w p l) (hz : n * 8 ≤ 140737488355328) : Calls Tryz.prog 8 #[.slice p n c] w fun e w' => ∃ p' c', e = .returned (.slice p' n c') ∧ RowAt 50 w' p' c' (fls (l.map fixB)) ∧ Abv w.heap.size (fpR p') ∧ Below w.heap.size w w' := by
  have HA := Lib.hid (app_nums (c := c) hn hL hz)
  have HN := Lib.hid hn
  have hz2 : n ≤ 9223372036854775807 := by omega
  clear hL hz hn
  go_enter Tryz.func8, Tryz.ntmps8
  go_wp2_with (at_builtin; refine wpList_append_ex (R := fun v u => ∃ p' c', v = .slice p' n c' ∧ RowAt 50 u p' c' (fls l) ∧ Abv w.heap.size (fpR p') ∧ Below w.heap.size w u) rfl _ _ _ _ rfl (.slice none 0 0) (.slice p n c) rfl rfl (by exact HA.out _) ?_; rintro v u ⟨p', c', rfl, q1, q2, q3⟩; have R1 := Lib.hid (And.intro q1 (And.intro q2 q3)); clear q1 q2 q3)
  go_loopw [9] (fun vi wr => ∃ j : Nat, vi = .int .i64 j ∧ j ≤ n ∧ Hid (RowAt 50 wr p' c' (fls (Sx.upF j l)) ∧ Below w.heap.size w wr)) (fun vi _ => n - (intOf vi).toNat)
  case atStart => exact ⟨0, rfl, Nat.zero_le _, by rw [Sx.upF_zero]; exact R1.out.1, R1.out.2.2⟩
  case round =>
    obtain ⟨j, rfl, hj, HQ⟩ := hrel
    by_cases hlt : j < n
    · have hlt' : (j : Int) < (n : Int) := by omega
      have hjl : j < l.length := by rw [HN.out]; exact hlt
      obtain ⟨g, e1, e2, e3, e4⟩ := Sx.row_num HQ.out.1 j (by rw [Sx.upF_len]; exact hjl)
      subst e1
      rw [Sx.upF_at hjl] at e3
      have HB : Hid (w.heap.size ≤ g) := R1.out.2.1 g (by simp [fpR])
      have HSM : Hid (nan l[j] = false → Sx.upF (j + 1) l = Sx.upF j l) := fun h => by
        have hl2 : j < (Sx.upF j l).length := by rw [Sx.upF_len]; exact hjl
        rw [← Sx.upF_set hjl, fixB_num h, ← Sx.upF_at hjl hl2]
        exact List.set_getElem_self _
      have HUP := Lib.hid (Sx.upF_set hjl)
      generalize l[j] = y at e3 HUP HSM
      cases hnan : nan y
      · have hs := self_num hnan
        have HNX : Hid (RowAt 50 wr (some ⟨g, 0, none⟩) c' (fls (Sx.upF (j + 1) l))) := by
          rw [HSM.out hnan]
          exact HQ.out.1
        clear hnan
        go_wp2
        go_region
        all_goals (try go_wp2)
        all_goals exact ⟨⟨j + 1, by first | rfl | (congr 1), by omega, HNX.out.on ((Same.drewN _ _).below _), HQ.out.2.trans ((Same.drewN _ _).below _)⟩, by simp [intOf]; omega⟩
      · have hs := self_nan hnan
        have HNX : Hid (∀ k, RowAt 50 ((wr.drewN k).setCell ⟨g, j, none⟩ (.float .f64 9221120237041090560)) (some ⟨g, 0, none⟩) c' (fls (Sx.upF (j + 1) l)) ∧ Below w.heap.size w ((wr.drewN k).setCell ⟨g, j, none⟩ (.float .f64 9221120237041090560))) := fun k => by
          have hp := row_put (HQ.out.1.on ((Same.drewN wr k).below _)) j (.float .f64 9221120237041090560)
          have hu := HUP.out
          rw [fixB_nan hnan] at hu
          rw [fls_set, hu] at hp
          exact ⟨hp.1, (HQ.out.2.trans ((Same.drewN wr k).below _)).setCell HB.out _⟩
        clear hnan
        go_wp2
        go_region
        have hfb := fun w => frombits_run 9221120237041090560 w
        all_goals (try go_wp2)
        all_goals exact ⟨⟨j + 1, by first | rfl | (congr 1), by omega, HNX.out _⟩, by simp [intOf]; omega⟩
    · have hlt' : ¬ (j : Int) < (n : Int) := by omega
      have e : j = l.length := by rw [HN.out]; omega
      have HF : Hid (RowAt 50 wr p' c' (fls (l.map fixB))) := by
        have := HQ.out.1
        rwa [e, Sx.upF_all] at this
      clear e
      go_wp2
      go_ret
      exact ⟨_, _, rfl, HF.out, R1.out.2.1, HQ.out.2⟩
set_option maxRecDepth 100000 in
theorem given_none {w : World} {p : Option Addr} {l : List Nat} {n c : Nat} (hn : l.length = n) (hl : Sx.mayN (n : Int) = false) : Calls Tryz.prog 7 #[.slice p n c] w fun e w' => e = .returned (.tuple #[.pointer none, .bool true]) ∧ w' = w := by
  subst hn
  have HO := Lib.hid (Sx.of_none (p := p) (c := c) hl w)
  have h1 : ¬ (1 : Int) ≤ (l.length : Int) ∨ ((1 : Int) ≤ (l.length : Int) ∧ ¬ (l.length : Int) ≤ 256) := by unfold Sx.mayN at hl; simp at hl; omega
  clear hl
  generalize l.length = n at *
  rcases h1 with h1 | ⟨h1, h2⟩
  all_goals
    go_enter Tryz.func7, Tryz.ntmps7
    go_wp2_with (go_at_call 17; refine HO.out.mono ?_; rintro e w' ⟨rfl, hw⟩; subst w'; clear HO)
    go_ret2
    first | exact ⟨rfl, rfl⟩ | exact ⟨by simp [h2], rfl⟩
set_option maxRecDepth 100000 in
theorem given_some {w : World} {p : Option Addr} {l : List Nat} {n c : Nat} (hn : l.length = n) (hL : FlAt w p l) (hl : Sx.mayN (n : Int) = true) : Calls Tryz.prog 7 #[.slice p n c] w fun e w' => ∃ b F, e = .returned (.tuple #[.pointer (some ⟨b, 0, none⟩), .bool true]) ∧ Sx.Cel 77 w' b F (l.map fixB) ∧ Abv w.heap.size F ∧ Below w.heap.size w w' := by
  have HO := Lib.hid (ofF_any (c := c) hn hL hl)
  have h1 : (1 : Int) ≤ (n : Int) ∧ (n : Int) ≤ 256 := by unfold Sx.mayN at hl; simp at hl; omega
  obtain ⟨h1, h2⟩ := h1
  clear hl hL hn
  go_enter Tryz.func7, Tryz.ntmps7
  go_wp2_with (go_at_call 17; refine HO.out.mono ?_; rintro e w' ⟨b, F, rfl, q1, q2, q3⟩; have HQ := Lib.hid (And.intro q1 (And.intro q2 q3)); clear HO q1 q2 q3)
  go_ret2
  exact ⟨_, _, rfl, HQ.out⟩
end Go.Proofs.YtmlklnimkgnbkaaGreatDoor
namespace Go.Proofs.YtmlklnimkgnbkaaGreatDoor
open Go.ChangeShapes Go.WideShapes Go.ChangeAt Go.RowKit Num
attribute [local go_sem] run_store_float

/-! two results alike; a result written over; the example's program -/
structure Told (m : Mac) : Prop where
  out : m.out.length ≤ 1024
  reads : m.reads.length ≤ 1024
  buf : m.buf.length ≤ 1024
theorem Rest.tolds {m : Mac} (h : Rest m) : Told m := ⟨h.told.1, h.told.2, by have := h.inv.few; have := h.inv.wmax; omega⟩
theorem told_zero : Told zeroM := ⟨Nat.zero_le _, Nat.zero_le _, Nat.zero_le _⟩
set_option maxHeartbeats 2000000 in
set_option maxRecDepth 100000 in
theorem result_any {w : World} {R Q : Rs} {m : Mac} (hm : Told m) (hR : WantAt w R m) (hQ : WantAt w Q m) : Calls Tryz.prog 13 #[resV R m, resV Q m] w fun e w' => e = .returned (.bool true) ∧ Below w.heap.size w w' := by
  have h1 := hm.out
  have h2 := hm.reads
  have h3 := hm.buf
  have HE : Hid (∀ u, Below w.heap.size w u → Calls Tryz.prog 11 #[.slice R.po m.out.length R.co, .slice Q.po m.out.length Q.co] u fun e w' => e = .returned (.bool true) ∧ Same u w') := fun u hb => exact_at rfl (by omega) (hR.out.on hb) (hQ.out.on hb)
  have HR : Hid (∀ u, Below w.heap.size w u → Calls Tryz.prog 19 #[.slice R.pr m.reads.length R.cr, .slice Q.pr m.reads.length Q.cr] u fun e w' => e = .returned (.bool true) ∧ Same u w') := fun u hb => touches_at rfl (by omega) (hR.reads.on hb) (hQ.reads.on hb)
  have HW : Hid (∀ u, Below w.heap.size w u → Calls Tryz.prog 19 #[.slice R.pw m.buf.length R.cw, .slice Q.pw m.buf.length Q.cw] u fun e w' => e = .returned (.bool true) ∧ Same u w') := fun u hb => touches_at rfl (by omega) (hR.writes.on hb) (hQ.writes.on hb)
  have heq := fun w => end_eq m.how m.cod m.err w
  have HB : Hid (Below w.heap.size w ((w.alloc (.cells (resC R m) 44)).alloc (.cells (resC Q m) 44))) := (below_alloc w _).trans ((below_alloc _ _).mono (by simp))
  have HX : Hid (∀ u, Same ((w.alloc (.cells (resC R m) 44)).alloc (.cells (resC Q m) 44)) u → (u.heap[w.heap.size]? = some (.cells (resC R m) 44) ∧ u.heap[w.heap.size + 1]? = some (.cells (resC Q m) 44)) ∧ Below w.heap.size w u) := fun u hs => by
    rw [hs.heap]
    exact ⟨⟨(heap_alloc_old _ _ (by simp)).trans (heap_alloc_new w _), heap_new (by simp)⟩, HB.out.trans (hs.below _)⟩
  clear hR hQ hm h1 h2 h3
  go_enter Tryz.func13, Tryz.ntmps13
  go_wp2_with (first
    | (go_at_call 19; refine (HW.out _ (HX.out _ S2.out).2).mono ?_; rintro e u3 ⟨rfl, q⟩; have S3 := Lib.hid (S2.out.trans q); clear q)
    | (go_at_call 19; refine (HR.out _ (HX.out _ S1.out).2).mono ?_; rintro e u2 ⟨rfl, q⟩; have S2 := Lib.hid (S1.out.trans q); obtain ⟨⟨x0, x1, x2, x3, x4, x5, x6, x7⟩, _⟩ := cells7_of (HX.out _ S2.out).1.1; obtain ⟨⟨y0, y1, y2, y3, y4, y5, y6, y7⟩, _⟩ := cells7_of (HX.out _ S2.out).1.2; clear q)
    | (go_at_call 11; refine (HE.out _ HB.out).mono ?_; rintro e u1 ⟨rfl, q⟩; have S1 := Lib.hid q; obtain ⟨⟨x0, x1, x2, x3, x4, x5, x6, x7⟩, _⟩ := cells7_of (HX.out _ S1.out).1.1; obtain ⟨⟨y0, y1, y2, y3, y4, y5, y6, y7⟩, _⟩ := cells7_of (HX.out _ S1.out).1.2; clear q))
  go_ret
  exact ⟨rfl, (HX.out _ S3.out).2⟩
def addsC (o n : Int) (x : Nat) : List Ins := [⟨1, 0, 0⟩, ⟨16, 0, 0⟩, ⟨1, 0, 4607182418800017408⟩, ⟨16, 0, 0⟩, ⟨10, 1, 0⟩, ⟨1, 0, 0⟩, ⟨17, 0, 0⟩, ⟨o, n, x⟩]
abbrev addsO (o n : Int) (x : Nat) : Obj := .cells #[.int .i64 1, .int .i64 0, .float .f64 0, .int .i64 16, .int .i64 0, .float .f64 0, .int .i64 1, .int .i64 0, .float .f64 4607182418800017408, .int .i64 16, .int .i64 0, .float .f64 0, .int .i64 10, .int .i64 1, .float .f64 0, .int .i64 1, .int .i64 0, .float .f64 0, .int .i64 17, .int .i64 0, .float .f64 0, .int .i64 o, .int .i64 n, .float .f64 x] 62
theorem adds_code {w : World} {g : Nat} {o n : Int} {x : Nat} (hb : w.heap[g]? = some (addsO o n x)) : CodeAt w (some ⟨g, 0, none⟩) (addsC o n x) := by
  have hl := lt_of_block hb
  intro k hk
  refine ⟨g, 0, rfl, hl, ?_⟩
  rw [cell_of_row _ _ _ _ _ _ hb, cell_of_row _ _ _ _ _ _ hb, cell_of_row _ _ _ _ _ _ hb]
  match k, hk with
  | 0, _ => exact ⟨rfl, rfl, rfl⟩
  | 1, _ => exact ⟨rfl, rfl, rfl⟩
  | 2, _ => exact ⟨rfl, rfl, rfl⟩
  | 3, _ => exact ⟨rfl, rfl, rfl⟩
  | 4, _ => exact ⟨rfl, rfl, rfl⟩
  | 5, _ => exact ⟨rfl, rfl, rfl⟩
  | 6, _ => exact ⟨rfl, rfl, rfl⟩
  | 7, _ => exact ⟨rfl, rfl, rfl⟩
  | q + 8, h => exact absurd h (by simp [addsC])
set_option maxHeartbeats 2000000 in
set_option maxRecDepth 100000 in
theorem adds_any (o n : Int) (x : Nat) (w : World) : Calls Tryz.prog 18 #[.agg #[.int .i64 o, .int .i64 n, .float .f64 x]] w fun e w' => ∃ g, e = .returned (.agg #[.int .i64 2, .slice (some ⟨g, 0, none⟩) 8 8]) ∧ CodeAt w' (some ⟨g, 0, none⟩) (addsC o n x) ∧ Below w.heap.size w w' := by
  go_enter Tryz.func18, Tryz.ntmps18
  go_wp2
  have hb : Below w.heap.size w (((w.alloc (.cells #[.int .i64 o, .int .i64 n, .float .f64 x] 62)).alloc (.cells #[.int .i64 2, .slice (some ⟨w.heap.size + 1 + 1, 0, none⟩) 8 8] 49)).alloc (addsO o n x)) := ((below_alloc w _).trans ((below_alloc _ _).mono (by simp))).trans ((below_alloc _ _).mono (by simp; omega))
  exact bodyPost_ret (results_cell_row rfl _ _ (w.heap.size + 1) _ _ _ _ rfl ((heap_alloc_old _ _ (by simp)).trans (heap_new (by simp))) Tryz.underlying49 rfl (by kernel_rfl)) rfl ⟨w.heap.size + 1 + 1, rfl, adds_code (heap_new (by simp)), hb⟩
/-! the chapter's example, as numbers -/
def lvS : List Nat := [4613937818241073152, 4616189618054758400]
def lvT : List Nat := [4619567317775286272, 4616189618054758400]
def lvA : Mac := newM 2 20 2 2 (addsC 19 5 0) []
def lvB : Mac := newM 2 20 2 2 (addsC 20 0 0) []
theorem lvS_ok : okS lvS := fun x hx => by
  simp only [lvS, List.mem_cons, List.not_mem_nil, or_false] at hx
  rcases hx with rfl | rfl <;> exact ⟨by decide +kernel, by decide⟩
theorem lvS_fix : lvS.map fixB = lvS := by decide +kernel
theorem lvA_rest : Rest lvA := new_rest (b := 1) (by decide) (by decide +kernel) (fun x hx => by simp at hx)
theorem lvB_rest : Rest lvB := new_rest (b := 1) (by decide) (by decide +kernel) (fun x hx => by simp at hx)
theorem lv_good : goodB 2 1 20 2 lvS.length 0 = true := by decide
theorem lvA_end : endM lvS lvA = runN lvS 8 lvA := endM_of lvS_ok lvA_rest (by decide) (by decide +kernel)
theorem lvB_end : endM lvS lvB = runN lvS 8 lvB := endM_of lvS_ok lvB_rest (by decide) (by decide +kernel)
theorem lvA_run : runR 2 1 20 2 2 (addsC 19 5 0) [] lvS = runN lvS 8 lvA := by unfold runR; rw [show goodB 2 1 20 2 lvS.length ([] : List Nat).length = true from lv_good, if_pos rfl]; exact lvA_end
theorem lvB_run : runR 2 1 20 2 2 (addsC 20 0 0) [] lvS = runN lvS 8 lvB := by unfold runR; rw [show goodB 2 1 20 2 lvS.length ([] : List Nat).length = true from lv_good, if_pos rfl]; exact lvB_end
theorem lvA_told : ((runN lvS 8 lvA).how = 2 ∧ (runN lvS 8 lvA).cod = 5 ∧ (runN lvS 8 lvA).err = 0) ∧ aftS lvS (runN lvS 8 lvA) = lvS := ⟨⟨by decide +kernel, by decide +kernel, by decide +kernel⟩, by decide +kernel⟩
theorem lvB_told : ((runN lvS 8 lvB).how = 1 ∧ (runN lvS 8 lvB).cod = 0 ∧ (runN lvS 8 lvB).err = 0 ∧ (runN lvS 8 lvB).used = 8) ∧ (runN lvS 8 lvB).reads = [(0, 4613937818241073152), (1, 4616189618054758400)] ∧ aftS lvS (runN lvS 8 lvB) = lvT := ⟨⟨by decide +kernel, by decide +kernel, by decide +kernel, by decide +kernel⟩, by decide +kernel, by decide +kernel⟩
end Go.Proofs.YtmlklnimkgnbkaaGreatDoor
namespace Go.Proofs.YtmlklnimkgnbkaaGreatDoor
open Go.ChangeShapes Go.WideShapes Go.ChangeAt Go.RowKit Num
attribute [local go_sem] run_store_float

/-! the chapter's example -/
theorem Turn.keeps {F F' : List Nat} {u v : World} {g : Nat} {o : Obj} (t : Turn F F' u v) (h : u.heap[g]? = some o) (hn : g ∉ F) : v.heap[g]? = some o := (t.block g (lt_of_block h) hn).trans h
theorem Turn.shaped {W u v : World} {F : List Nat} (t : Turn F F u v) (hb : Below W.heap.size W u) (hA : Abv W.heap.size F) : Below W.heap.size W v := hb.trans (t.below hA hb.size)
theorem nil_fl (w : World) : FlAt w none [] := fun k hk => absurd hk (Nat.not_lt_zero k)
theorem adds_lt (o n : Int) : ∀ i ∈ addsC o n 0, i.x < 18446744073709551616 := fun i hi => by
  simp only [addsC, List.mem_cons, List.not_mem_nil, or_false] at hi
  rcases hi with rfl | rfl | rfl | rfl | rfl | rfl | rfl | rfl <;> first | decide | (show (0 : Nat) < _; decide)
abbrev lvP (g : Nat) : Value := .agg #[.int .i64 2, .slice (some ⟨g, 0, none⟩) 8 8]
theorem live_a {u : World} {b g : Nat} {F : List Nat} (hT : Shaped5 u) (hC : CodeAt u (some ⟨g, 0, none⟩) (addsC 19 5 0)) (hS : Sx.Cel 77 u b F lvS) : Calls Tryz.prog 16 #[cfgV 2 1 20 2, lvP g, .slice none 0 0, .pointer (some ⟨b, 0, none⟩)] u fun r w' => ∃ (p3 : Option Addr) (n3 c3 : Nat) (p4 : Option Addr) (n4 c4 : Nat) (p5 : Option Addr) (n5 c5 : Nat) (us : Int), r = .returned (.tuple #[.agg #[.int .i64 2, .int .i64 5, .int .i64 0, .slice p3 n3 c3, .slice p4 n4 c4, .slice p5 n5 c5, .int .i64 us], .int .i64 0]) ∧ Sx.Cel 77 w' b F lvS ∧ Turn F F u w' := by
  refine (run_any (a := 2) (b := 1) (c := 20) (e := 2) (t := 2) (cap := 8) (l := []) (co := 0) hT (n := 8) rfl (k := 0) rfl hC (adds_lt 19 5) (nil_fl u) (fun x hx => by simp at hx) (by decide) hS lvS_ok).mono fun r w' ⟨R, q1, _, q3, q4⟩ => ?_
  rw [lvA_run] at q1 q3
  unfold runE resV resC at q1
  rw [lv_good, if_pos rfl, lvA_told.1.1, lvA_told.1.2.1, lvA_told.1.2.2] at q1
  rw [lvA_told.2] at q3
  exact ⟨_, _, _, _, _, _, _, _, _, _, q1, q3, q4⟩
theorem live_b {u : World} {b g : Nat} {F : List Nat} (hT : Shaped5 u) (hC : CodeAt u (some ⟨g, 0, none⟩) (addsC 20 0 0)) (hS : Sx.Cel 77 u b F lvS) : Calls Tryz.prog 16 #[cfgV 2 1 20 2, lvP g, .slice none 0 0, .pointer (some ⟨b, 0, none⟩)] u fun r w' => ∃ (pr : Option Addr) (cr : Nat) (p3 : Option Addr) (n3 c3 : Nat) (p5 : Option Addr) (n5 c5 : Nat), r = .returned (.tuple #[.agg #[.int .i64 1, .int .i64 0, .int .i64 0, .slice p3 n3 c3, .slice pr 2 cr, .slice p5 n5 c5, .int .i64 8], .int .i64 0]) ∧ (TRow w' pr cr [(0, 4613937818241073152), (1, 4616189618054758400)] ∧ Abv u.heap.size (fpR pr)) ∧ Sx.Cel 77 w' b F lvT ∧ Turn F F u w' := by
  refine (run_any (a := 2) (b := 1) (c := 20) (e := 2) (t := 2) (cap := 8) (l := []) (co := 0) hT (n := 8) rfl (k := 0) rfl hC (adds_lt 20 0) (nil_fl u) (fun x hx => by simp at hx) (by decide) hS lvS_ok).mono fun r w' ⟨R, q1, q2, q3, q4⟩ => ?_
  rw [lvB_run] at q1 q3 q2
  have hr := q2.reads
  unfold runE resV resC at q1
  rw [lv_good, if_pos rfl, lvB_told.1.1, lvB_told.1.2.1, lvB_told.1.2.2.1, lvB_told.1.2.2.2, lvB_told.2.1] at q1
  rw [lvB_told.2.2] at q3
  rw [lvB_told.2.1] at hr
  exact ⟨_, _, _, _, _, _, _, _, q1, ⟨hr, q2.ar⟩, q3, q4⟩
abbrev cfgL : Obj := cfgO 2 1 20 2
abbrev litO (x y : Nat) : Obj := .cells #[.float .f64 x, .float .f64 y] 50
theorem lit_fl {w : World} {g x y : Nat} (h : w.heap[g]? = some (litO x y)) : FlAt w (some ⟨g, 0, none⟩) [x, y] := fun k hk => by
  refine ⟨g, 0, rfl, lt_of_block h, ?_⟩
  rw [cell_of_row _ _ _ _ _ _ h]
  match k, hk with
  | 0, _ => rfl
  | 1, _ => rfl
  | q + 2, h => exact absurd h (by simp)
theorem lit_tl {w : World} {g x y : Nat} {c d : Int} (h : w.heap[g]? = some (.cells #[.int .i64 c, .float .f64 x, .int .i64 d, .float .f64 y] 56)) : TlAt w (some ⟨g, 0, none⟩) [(c, x), (d, y)] := fun k hk => by
  refine ⟨g, 0, rfl, lt_of_block h, ?_⟩
  rw [cell_of_row _ _ _ _ _ _ h, cell_of_row _ _ _ _ _ _ h]
  match k, hk with
  | 0, _ => exact ⟨rfl, rfl⟩
  | 1, _ => exact ⟨rfl, rfl⟩
  | q + 2, h => exact absurd h (by simp)
theorem cel_new {w : World} {b : Nat} {F l : List Nat} (h : Sx.Cel 77 w b F l) : w.heap.size ∉ F := fun hx => absurd (h.blw _ hx) (Nat.lt_irrefl _)
theorem trow_put7 {u v : World} {g cr n : Nat} {pr : Option Addr} {l : Wr} {v0 v1 v2 v3 v4 v5 v6 : Value} (h : TRow u pr cr l) (hA : Abv n (fpR pr)) (hg : g < n) (hv : Same (((((((u.setCell ⟨g, 0, none⟩ v0).setCell ⟨g, 1, none⟩ v1).setCell ⟨g, 2, none⟩ v2).setCell ⟨g, 3, none⟩ v3).setCell ⟨g, 4, none⟩ v4).setCell ⟨g, 5, none⟩ v5).setCell ⟨g, 6, none⟩ v6) v) : TRow v pr cr l :=
  h.turn ((turn_set7 u g v0 v1 v2 v3 v4 v5 v6).trans (hv.turn [g])) (fun x hx y => by simp at y; have := hA x hx; omega)
/-- a result's box beside a state that has turned -/
structure LvK (u1 : World) (b : Nat) (F l : List Nat) (wc : World) (g : Nat) (o : Obj) : Prop where
  box : wc.heap[g]? = some o
  nf : g ∉ F
  cel : Sx.Cel 77 wc b F l
  turn : Turn F F u1 wc
theorem lvk_new {u1 u3 : World} {b : Nat} {F l : List Nat} (hC : Sx.Cel 77 u3 b F l) (hT : Turn F F u1 u3) (o : Obj) {v : World} (hv : Same (u3.alloc o) v) : LvK u1 b F l v u3.heap.size o :=
  ⟨by rw [hv.heap]; exact heap_alloc_new _ _, fun hx => absurd (hC.blw _ hx) (Nat.lt_irrefl _), (hC.on (below_alloc _ o)).same hv, (hT.trans (Below.turn (below_alloc _ o) F)).trans (hv.turn F)⟩
theorem lvk_put {u1 u3 : World} {b g : Nat} {F l : List Nat} {v0 v1 v2 v3 v4 v5 v6 : Value} (hC : Sx.Cel 77 u3 b F l) (hT : Turn F F u1 u3) (hb : u3.heap[g]? = some resZ) (hn : g ∉ F) (hg : u1.heap.size ≤ g) {v : World} (hv : Same (((((((u3.setCell ⟨g, 0, none⟩ v0).setCell ⟨g, 1, none⟩ v1).setCell ⟨g, 2, none⟩ v2).setCell ⟨g, 3, none⟩ v3).setCell ⟨g, 4, none⟩ v4).setCell ⟨g, 5, none⟩ v5).setCell ⟨g, 6, none⟩ v6) v) : LvK u1 b F l v g (.cells #[v0, v1, v2, v3, v4, v5, v6] 44) := by
  have t := (turn_set7 u3 g v0 v1 v2 v3 v4 v5 v6).trans (hv.turn [g])
  exact ⟨by rw [hv.heap]; exact box_set7 hb, hn, hC.turn t (fun x hx y => by simp at y; subst y; exact hn hx), hT.past2 t hg⟩
set_option maxHeartbeats 8000000 in
set_option maxRecDepth 100000 in
theorem live_any {W : World} (hT : Shaped5 W) : Calls Tryz.prog 6 #[] W fun e w' => e = .returned (.bool true) ∧ Below W.heap.size W w' := by
  have HB0 : Hid (Below W.heap.size W ((W.alloc cfgL).alloc (litO 4613937818241073152 4616189618054758400))) := (below_alloc W _).trans ((below_alloc _ _).mono (by simp))
  have HO := Lib.hid (ofF_any (c := 2) (n := 2) (l := lvS) rfl (lit_fl (w := (W.alloc cfgL).alloc (litO 4613937818241073152 4616189618054758400)) (g := W.heap.size + 1) (heap_new (by simp))) (by decide))
  rw [lvS_fix] at HO
  have HSH : Hid (∀ u, Below W.heap.size W u → Shaped5 u) := fun u hb => hT.on hb
  have HAD : Hid (∀ o n w, Calls Tryz.prog 18 #[.agg #[.int .i64 o, .int .i64 n, .float .f64 0]] w fun e w' => ∃ g, e = .returned (lvP g) ∧ CodeAt w' (some ⟨g, 0, none⟩) (addsC o n 0) ∧ Below w.heap.size w w') := fun o n w => adds_any o n 0 w
  have HRA : Hid (∀ u b g F, Shaped5 u → CodeAt u (some ⟨g, 0, none⟩) (addsC 19 5 0) → Sx.Cel 77 u b F lvS → Calls Tryz.prog 16 #[cfgV 2 1 20 2, lvP g, .slice none 0 0, .pointer (some ⟨b, 0, none⟩)] u fun r w' => ∃ (p3 : Option Addr) (n3 c3 : Nat) (p4 : Option Addr) (n4 c4 : Nat) (p5 : Option Addr) (n5 c5 : Nat) (us : Int), r = .returned (.tuple #[.agg #[.int .i64 2, .int .i64 5, .int .i64 0, .slice p3 n3 c3, .slice p4 n4 c4, .slice p5 n5 c5, .int .i64 us], .int .i64 0]) ∧ Sx.Cel 77 w' b F lvS ∧ Turn F F u w') := fun u b g F h1 h2 h3 => live_a h1 h2 h3
  have HRB : Hid (∀ u b g F, Shaped5 u → CodeAt u (some ⟨g, 0, none⟩) (addsC 20 0 0) → Sx.Cel 77 u b F lvS → Calls Tryz.prog 16 #[cfgV 2 1 20 2, lvP g, .slice none 0 0, .pointer (some ⟨b, 0, none⟩)] u fun r w' => ∃ (pr : Option Addr) (cr : Nat) (p3 : Option Addr) (n3 c3 : Nat) (p5 : Option Addr) (n5 c5 : Nat), r = .returned (.tuple #[.agg #[.int .i64 1, .int .i64 0, .int .i64 0, .slice p3 n3 c3, .slice pr 2 cr, .slice p5 n5 c5, .int .i64 8], .int .i64 0]) ∧ (TRow w' pr cr [(0, 4613937818241073152), (1, 4616189618054758400)] ∧ Abv u.heap.size (fpR pr)) ∧ Sx.Cel 77 w' b F lvT ∧ Turn F F u w') := fun u b g F h1 h2 h3 => live_b h1 h2 h3
  have HAL : Hid (∀ u b F, Sx.Cel 77 u b F lvS → Calls Tryz.prog 12 #[.pointer (some ⟨b, 0, none⟩)] u fun e w' => e = .returned (.slice (some ⟨u.heap.size, 0, none⟩) 2 2) ∧ RowAt 50 w' (some ⟨u.heap.size, 0, none⟩) 2 (fls lvS) ∧ Below u.heap.size u w') := fun u b F h => Sx.all_any h
  have HAT : Hid (∀ u b F, Sx.Cel 77 u b F lvT → Calls Tryz.prog 12 #[.pointer (some ⟨b, 0, none⟩)] u fun e w' => e = .returned (.slice (some ⟨u.heap.size, 0, none⟩) 2 2) ∧ RowAt 50 w' (some ⟨u.heap.size, 0, none⟩) 2 (fls lvT) ∧ Below u.heap.size u w') := fun u b F h => Sx.all_any h
  have HEX : Hid (∀ u g h x y, FlAt u (some ⟨g, 0, none⟩) [x, y] → u.heap[h]? = some (litO x y) → Calls Tryz.prog 11 #[.slice (some ⟨g, 0, none⟩) 2 2, .slice (some ⟨h, 0, none⟩) 2 2] u fun e w' => e = .returned (.bool true) ∧ Same u w') := fun u g h x y h1 h2 => exact_at (l := [x, y]) rfl (by omega) h1 (lit_fl h2)
  have HTC : Hid (∀ u pr cr h, TRow u pr cr [(0, 4613937818241073152), (1, 4616189618054758400)] → u.heap[h]? = some (.cells #[.int .i64 0, .float .f64 4613937818241073152, .int .i64 1, .float .f64 4616189618054758400] 56) → Calls Tryz.prog 19 #[.slice pr 2 cr, .slice (some ⟨h, 0, none⟩) 2 2] u fun e w' => e = .returned (.bool true) ∧ Same u w') := fun u pr cr h h1 h2 => touches_at (l := [(0, 4613937818241073152), (1, 4616189618054758400)]) rfl (by omega) h1.tl (lit_tl h2)
  have he1 := fun w => end_eq 1 0 0 w
  have he2 := fun w => end_eq 2 5 0 w
  clear hT
  go_enter Tryz.func6, Tryz.ntmps6
  go_upto_region 5 with (go_at_call 17; refine HO.out.mono ?_; rintro e u1 ⟨b, F, rfl, q1, q2, q3⟩; have C1 := Lib.hid q1; have A1 := Lib.hid q2; have B1 := Lib.hid (HB0.out.trans (q3.mono HB0.out.size)); have X1 : Hid (u1.heap[W.heap.size]? = some cfgL) := (q3.block _ (by simp; omega)).trans ((heap_alloc_old _ _ (by simp)).trans (heap_alloc_new W _)); clear HO q1 q2 q3; obtain ⟨x0, x1, x2, x3, x4⟩ := Md.cells4 X1.out)
  have NF : Hid (W.heap.size ∉ F) := fun hx => by have := A1.out _ hx; simp at this; omega
  have AW : Hid (Abv W.heap.size F) := A1.out.mono (by simp; omega)
  go_cut [4, 5] (fun v4 v5 wc => ∃ (g4 : Nat) (p3 : Option Addr) (n3 c3 : Nat) (p4 : Option Addr) (n4 c4 : Nat) (p5 : Option Addr) (n5 c5 : Nat) (us : Int), v4 = .pointer (some ⟨g4, 0, none⟩) ∧ v5 = .int .i64 0 ∧ Hid (LvK u1 b F lvS wc g4 (.cells #[.int .i64 2, .int .i64 5, .int .i64 0, .slice p3 n3 c3, .slice p4 n4 c4, .slice p5 n5 c5, .int .i64 us] 44)))
  case first =>
    go_region_held (fun w' => w'.cell? ⟨W.heap.size, 0, none⟩ = some (.int .i64 2) ∧ w'.cell? ⟨W.heap.size, 1, none⟩ = some (.int .i64 1) ∧ w'.cell? ⟨W.heap.size, 2, none⟩ = some (.int .i64 20) ∧ w'.cell? ⟨W.heap.size, 3, none⟩ = some (.int .i64 2)) (go_keep) (first
      | (go_at_call 16; refine (HRA.out _ _ _ _ (HSH.out _ B2.out) C2.out.1 C2.out.2).mono ?_; rintro e u3 ⟨p3, n3, c3, p4, n4, c4, p5, n5, c5, us, rfl, qc, qt⟩; have K3 := Lib.hid (And.intro qc qt); have YB := Lib.hid (And.intro (qt.keeps YA.out.1 YA.out.2.1) YA.out.2); obtain ⟨⟨z0, z1, z2, z3, z4, z5, z6, z7⟩, w0, w1, w2, w3, w4, w5, w6⟩ := cells7_of YB.out.1; obtain ⟨x0, x1, x2, x3, x4⟩ := Md.cells4 (qt.keeps X2.out NF.out); clear qc qt)
      | (go_at_call 16; refine (HRA.out _ _ _ _ (HSH.out _ B2.out) C2.out.1 C2.out.2).mono ?_; rintro e u3 ⟨p3, n3, c3, p4, n4, c4, p5, n5, c5, us, rfl, qc, qt⟩; have K3 := Lib.hid (And.intro qc qt); obtain ⟨x0, x1, x2, x3, x4⟩ := Md.cells4 (qt.keeps X2.out NF.out); clear qc qt)
      | (go_at_call 16; refine (HRA.out _ _ _ _ (HSH.out _ (B2.out.alloc B2.out.size _)) (C2.out.1.on (below_alloc _ _)) (C2.out.2.on (below_alloc _ _))).mono ?_; rintro e u3 ⟨p3, n3, c3, p4, n4, c4, p5, n5, c5, us, rfl, qc, qt⟩; have K3 := Lib.hid (And.intro qc ((Below.turn (below_alloc u2 resZ) F).trans qt)); have YA := Lib.hid (And.intro (heap_alloc_new u2 resZ) (cel_new C2.out.2)); have YB := Lib.hid (And.intro (qt.keeps YA.out.1 YA.out.2) (And.intro YA.out.2 (T2.out.size))); obtain ⟨⟨z0, z1, z2, z3, z4, z5, z6, z7⟩, w0, w1, w2, w3, w4, w5, w6⟩ := cells7_of YB.out.1; have n1 := Nat.ne_of_lt (lt_of_block X2.out); have n2 := n1.symm; obtain ⟨x0, x1, x2, x3, x4⟩ := Md.cells4 (qt.keeps ((heap_alloc_old _ _ (lt_of_block X2.out)).trans X2.out) NF.out); clear qc qt YA)
      | (go_at_call 18; refine (HAD.out _ _ (u1.drew.alloc resZ)).mono ?_; rintro e u2 ⟨g2, rfl, q1, q2⟩; have q3 := ((Same.drew u1).below u1.heap.size).trans ((below_alloc u1.drew resZ).trans (q2.mono (Nat.le_of_lt (by simp)))); have C2 := Lib.hid (And.intro q1 (C1.out.on q3)); have T2 := Lib.hid (Below.turn q3 F); have B2 := Lib.hid (B1.out.trans (q3.mono B1.out.size)); have X2 : Hid (u2.heap[W.heap.size]? = some cfgL) := (q3.block _ (lt_of_block X1.out)).trans X1.out; obtain ⟨x0, x1, x2, x3, x4⟩ := Md.cells4 X2.out; have n1 := Nat.ne_of_lt (lt_of_block X1.out); have n2 := n1.symm; have YA : Hid (u2.heap[u1.heap.size]? = some resZ ∧ u1.heap.size ∉ F ∧ u1.heap.size ≤ u1.heap.size) := ⟨(q2.block _ (by simp)).trans (heap_alloc_new u1.drew resZ), cel_new C1.out, Nat.le_refl _⟩; clear q1 q2 q3)
      | (go_at_call 18; refine (HAD.out _ _ u1.drew).mono ?_; rintro e u2 ⟨g2, rfl, q1, q2⟩; have q3 := ((Same.drew u1).below u1.heap.size).trans q2; have C2 := Lib.hid (And.intro q1 (C1.out.on q3)); have T2 := Lib.hid (Below.turn q3 F); have B2 := Lib.hid (B1.out.trans (q3.mono B1.out.size)); have X2 : Hid (u2.heap[W.heap.size]? = some cfgL) := (q3.block _ (lt_of_block X1.out)).trans X1.out; obtain ⟨x0, x1, x2, x3, x4⟩ := Md.cells4 X2.out; clear q1 q2 q3))
    all_goals go_wp2_with fail
    all_goals go_meet
    all_goals first
      | exact ⟨_, p3, n3, c3, p4, n4, c4, p5, n5, c5, us, rfl, rfl, lvk_put K3.out.1 (T2.out.trans K3.out.2) YB.out.1 YB.out.2.1 YB.out.2.2 (Same.refl _)⟩
      | exact ⟨_, p3, n3, c3, p4, n4, c4, p5, n5, c5, us, rfl, rfl, lvk_new K3.out.1 (T2.out.trans K3.out.2) _ (Same.refl _)⟩
  case rest =>
    obtain ⟨g4, p3, n3, c3, p4, n4, c4, p5, n5, c5, us, rfl, rfl, HK⟩ := hcut
    obtain ⟨wo, rfl⟩ : ∃ wo : World, wo = wc := ⟨_, rfl⟩
    have B4 : Hid (Below W.heap.size W wo) := HK.out.turn.shaped B1.out AW.out
    have X4 : Hid (wo.heap[W.heap.size]? = some cfgL) := HK.out.turn.keeps X1.out NF.out
    clear HRA B1 X1 C1 A1
    go_upto_region 7 with (go_at_call 12; refine (HAL.out _ _ _ HK.out.cel).mono ?_; rintro e wd ⟨rfl, q1, q2⟩; have C5 := Lib.hid (HK.out.cel.on q2); have B5 := Lib.hid (B4.out.trans (q2.mono B4.out.size)); have X5 : Hid (wd.heap[W.heap.size]? = some cfgL) := (q2.block _ (lt_of_block X4.out)).trans X4.out; have R5 := Lib.hid (And.intro q1 q2); obtain ⟨x0, x1, x2, x3, x4⟩ := Md.cells4 X5.out; clear q1 q2)
    go_cut [7, 8] (fun v7 v8 wc => ∃ (g7 : Nat) (pr : Option Addr) (cr : Nat) (p3 : Option Addr) (n3 c3 : Nat) (p5 : Option Addr) (n5 c5 : Nat), v7 = .pointer (some ⟨g7, 0, none⟩) ∧ v8 = .int .i64 0 ∧ Hid (LvK wd b F lvT wc g7 (.cells #[.int .i64 1, .int .i64 0, .int .i64 0, .slice p3 n3 c3, .slice pr 2 cr, .slice p5 n5 c5, .int .i64 8] 44) ∧ TRow wc pr cr [(0, 4613937818241073152), (1, 4616189618054758400)] ∧ Abv wd.heap.size (fpR pr)))
    case first =>
      go_region_held (fun w' => w'.cell? ⟨W.heap.size, 0, none⟩ = some (.int .i64 2) ∧ w'.cell? ⟨W.heap.size, 1, none⟩ = some (.int .i64 1) ∧ w'.cell? ⟨W.heap.size, 2, none⟩ = some (.int .i64 20) ∧ w'.cell? ⟨W.heap.size, 3, none⟩ = some (.int .i64 2)) (go_keep) (first
      | (go_at_call 16; refine (HRB.out _ _ _ _ (HSH.out _ B2.out) C2.out.1 C2.out.2).mono ?_; rintro e u3 ⟨pr, cr, p3, n3, c3, p5, n5, c5, rfl, qr, qc, qt⟩; have K3 := Lib.hid (And.intro qc qt); have YB := Lib.hid (And.intro (qt.keeps YA.out.1 YA.out.2.1) YA.out.2); have R3 := Lib.hid (And.intro qr (lt_of_block YA.out.1)); clear qr; obtain ⟨⟨z0, z1, z2, z3, z4, z5, z6, z7⟩, w0, w1, w2, w3, w4, w5, w6⟩ := cells7_of YB.out.1; obtain ⟨x0, x1, x2, x3, x4⟩ := Md.cells4 (qt.keeps X2.out NF.out); clear qc qt)
      | (go_at_call 16; refine (HRB.out _ _ _ _ (HSH.out _ B2.out) C2.out.1 C2.out.2).mono ?_; rintro e u3 ⟨pr, cr, p3, n3, c3, p5, n5, c5, rfl, qr, qc, qt⟩; have K3 := Lib.hid (And.intro qc qt); have R3 := Lib.hid qr; clear qr; obtain ⟨x0, x1, x2, x3, x4⟩ := Md.cells4 (qt.keeps X2.out NF.out); clear qc qt)
      | (go_at_call 16; refine (HRB.out _ _ _ _ (HSH.out _ (B2.out.alloc B2.out.size _)) (C2.out.1.on (below_alloc _ _)) (C2.out.2.on (below_alloc _ _))).mono ?_; rintro e u3 ⟨pr, cr, p3, n3, c3, p5, n5, c5, rfl, qr, qc, qt⟩; have K3 := Lib.hid (And.intro qc ((Below.turn (below_alloc u2 resZ) F).trans qt)); have YA := Lib.hid (And.intro (heap_alloc_new u2 resZ) (cel_new C2.out.2)); have YB := Lib.hid (And.intro (qt.keeps YA.out.1 YA.out.2) (And.intro YA.out.2 (T2.out.size))); have R3 := Lib.hid (And.intro qr (lt_of_block YA.out.1)); clear qr; obtain ⟨⟨z0, z1, z2, z3, z4, z5, z6, z7⟩, w0, w1, w2, w3, w4, w5, w6⟩ := cells7_of YB.out.1; have n1 := Nat.ne_of_lt (lt_of_block X2.out); have n2 := n1.symm; obtain ⟨x0, x1, x2, x3, x4⟩ := Md.cells4 (qt.keeps ((heap_alloc_old _ _ (lt_of_block X2.out)).trans X2.out) NF.out); clear qc qt YA)
      | (go_at_call 18; refine (HAD.out _ _ (wd.drew.alloc resZ)).mono ?_; rintro e u2 ⟨g2, rfl, q1, q2⟩; have q3 := ((Same.drew wd).below wd.heap.size).trans ((below_alloc wd.drew resZ).trans (q2.mono (Nat.le_of_lt (by simp)))); have C2 := Lib.hid (And.intro q1 (C5.out.on q3)); have T2 := Lib.hid (Below.turn q3 F); have B2 := Lib.hid (B5.out.trans (q3.mono B5.out.size)); have X2 : Hid (u2.heap[W.heap.size]? = some cfgL) := (q3.block _ (lt_of_block X5.out)).trans X5.out; obtain ⟨x0, x1, x2, x3, x4⟩ := Md.cells4 X2.out; have n1 := Nat.ne_of_lt (lt_of_block X5.out); have n2 := n1.symm; have YA : Hid (u2.heap[wd.heap.size]? = some resZ ∧ wd.heap.size ∉ F ∧ wd.heap.size ≤ wd.heap.size) := ⟨(q2.block _ (by simp)).trans (heap_alloc_new wd.drew resZ), cel_new C5.out, Nat.le_refl _⟩; clear q1 q2 q3)
      | (go_at_call 18; refine (HAD.out _ _ wd.drew).mono ?_; rintro e u2 ⟨g2, rfl, q1, q2⟩; have q3 := ((Same.drew wd).below wd.heap.size).trans q2; have C2 := Lib.hid (And.intro q1 (C5.out.on q3)); have T2 := Lib.hid (Below.turn q3 F); have B2 := Lib.hid (B5.out.trans (q3.mono B5.out.size)); have X2 : Hid (u2.heap[W.heap.size]? = some cfgL) := (q3.block _ (lt_of_block X5.out)).trans X5.out; obtain ⟨x0, x1, x2, x3, x4⟩ := Md.cells4 X2.out; clear q1 q2 q3))
      all_goals go_wp2_with fail
      all_goals go_meet
      all_goals first
        | exact ⟨_, pr, cr, p3, n3, c3, p5, n5, c5, rfl, rfl, lvk_put K3.out.1 (T2.out.trans K3.out.2) YB.out.1 YB.out.2.1 YB.out.2.2 (Same.refl _), trow_put7 R3.out.1.1 R3.out.1.2 R3.out.2 (Same.refl _), R3.out.1.2.mono (by have := T2.out.size; simp; omega)⟩
        | exact ⟨_, pr, cr, p3, n3, c3, p5, n5, c5, rfl, rfl, lvk_put K3.out.1 (T2.out.trans K3.out.2) YB.out.1 YB.out.2.1 YB.out.2.2 (Same.refl _), trow_put7 R3.out.1.1 R3.out.1.2 R3.out.2 (Same.refl _), R3.out.1.2.mono T2.out.size⟩
        | exact ⟨_, pr, cr, p3, n3, c3, p5, n5, c5, rfl, rfl, lvk_new K3.out.1 (T2.out.trans K3.out.2) _ (Same.refl _), R3.out.1.on (below_alloc _ _), R3.out.2.mono T2.out.size⟩
    case rest =>
      obtain ⟨g7, pr, cr, q3, m3, d3, q5, m5, d5, rfl, rfl, HL⟩ := hcut
      have B6 : Hid (Below W.heap.size W wc) := HL.out.1.turn.shaped B5.out AW.out
      have Q4 : Hid (wc.heap[g4]? = some (.cells #[.int .i64 2, .int .i64 5, .int .i64 0, .slice p3 n3 c3, .slice p4 n4 c4, .slice p5 n5 c5, .int .i64 us] 44)) := HL.out.1.turn.keeps ((R5.out.2.block _ (lt_of_block HK.out.box)).trans HK.out.box) HK.out.nf
      have Q5 : Hid (RowAt 50 wc (some ⟨wo.heap.size, 0, none⟩) 2 (fls lvS)) := R5.out.1.turn HL.out.1.turn (fun x hx => by simp [fpR] at hx; subst hx; exact cel_new HK.out.cel)
      clear HRB HAD HSH B5 X5 C5 X4 B4 HAL
      go_wp2_with (first
        | (go_at_call 19; refine (HTC.out _ _ _ _ (R9.out.on (below_alloc _ _)) (heap_alloc_new _ _)).mono ?_; rintro e wj ⟨rfl, qs⟩; have BF := Lib.hid (((B9.out.alloc B9.out.size _)).trans (qs.below _)); clear qs)
        | (go_at_call 11; refine (HEX.out _ _ _ _ _ ((Q8.out.on (below_alloc _ _)).fl) (heap_alloc_new _ _)).mono ?_; rintro e wi ⟨rfl, qs⟩; have q9 := (below_alloc wh (litO 4619567317775286272 4616189618054758400)).trans (qs.below _); have B9 := Lib.hid (B8.out.trans (q9.mono B8.out.size)); have R9 := Lib.hid (R8.out.on q9); have Z9 := Lib.hid ((q9.block _ (lt_of_block Z8.out)).trans Z8.out); obtain ⟨⟨y0, y1, y2, y3, y4, y5, y6, y7⟩, _⟩ := cells7_of Z9.out; clear qs q9)
        | (go_at_call 11; refine (HEX.out _ _ _ _ _ ((Q7.out.on (below_alloc _ _)).fl) (heap_alloc_new _ _)).mono ?_; rintro e wh ⟨rfl, qs⟩; have q9 := (below_alloc wg (litO 4613937818241073152 4616189618054758400)).trans (qs.below _); have B8 := Lib.hid (B7.out.trans (q9.mono B7.out.size)); have Q8 := Lib.hid (R7.out.1.on q9); have R8 := Lib.hid (R7.out.2.on q9); have Z8 := Lib.hid ((q9.block _ (lt_of_block Z7.out)).trans Z7.out); obtain ⟨⟨y0, y1, y2, y3, y4, y5, y6, y7⟩, _⟩ := cells7_of Z8.out; clear qs q9)
        | (go_at_call 12; refine (HAT.out _ _ _ HL.out.1.cel).mono ?_; rintro e wg ⟨rfl, q1, q2⟩; have B7 := Lib.hid (B6.out.trans (q2.mono B6.out.size)); have Q7 := Lib.hid (Q5.out.on q2); have R7 := Lib.hid (And.intro q1 (HL.out.2.1.on q2)); have Z7 := Lib.hid ((q2.block _ (lt_of_block HL.out.1.box)).trans HL.out.1.box); have Y7 := Lib.hid ((q2.block _ (lt_of_block Q4.out)).trans Q4.out); obtain ⟨⟨x0, x1, x2, x3, x4, x5, x6, x7⟩, _⟩ := cells7_of Y7.out; obtain ⟨⟨y0, y1, y2, y3, y4, y5, y6, y7⟩, _⟩ := cells7_of Z7.out; clear q1 q2))
      go_ret
      exact ⟨rfl, BF.out⟩
end Go.Proofs.YtmlklnimkgnbkaaGreatDoor
