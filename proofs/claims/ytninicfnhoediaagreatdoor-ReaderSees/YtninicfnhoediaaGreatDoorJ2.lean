import Derived.Test.YtninicfnhoediaaGreatDoorJ1
import Derived.Maps.AppendAt
import Derived.Test.YtninicfnhoediaaGreatDoorTw
import Derived.Deep.CutBlock
import Derived.Deep.DeepCutAuto
import Derived.Test.YtninicfnhoediaaGreatDoorS2f
import Derived.Test.YtninicfnhoediaaGreatDoorY2
import Derived.Test.YtninicfnhoediaaGreatDoorS1
import Derived.Test.YtninicfnhoediaaGreatDoorWalkB
import Derived.Deep.RegionHeld
import Derived.Deep.AppendLies
import Derived.Test.YtninicfnhoediaaGreatDoorKS
import Derived.Test.YtninicfnhoediaaGreatDoorKJ
import Derived.Deep.LoopGhost
namespace Go.Proofs.YtninicfnhoediaaGreatDoor.Rr
open Go.ChangeShapes Go.WideShapes Go.ChangeAt Go.RowKit Num
/-- its arguments are being laid, in blocks from B on; all else of it lies below -/
structure DLoop (N : World) (B : Nat) (w : World) (bd : Nat) (x : Rx) (z : Dz) (q : Rp) : Prop where
  raw : DRaw w bd x z q
  row : RowAt 71 w z.pa z.ca (fls x.args)
  lo : ∀ k, k ∈ bd :: (Fr z.br q ++ z.KR) → k < B
  hi : Abv B (fpR z.pa)
  ab : Abv N.heap.size (bd :: Fr z.br q)
  bk : Blw N z.KR
  bl : Below N.heap.size N w
  sz : N.heap.size ≤ B
section
variable {N w w3 : World} {B bd : Nat} {x : Rx} {z : Dz} {q : Rp}
theorem DLoop.more {v : Value} {y : Nat} {o : Obj} (h : DLoop N B w bd x z q) (hB : B ≤ w.heap.size) (hown : w3.ownsRow 0 71 1 v (x.args.length + 1) (fls x.args ++ [.float .f64 y])) (hg : (w.alloc o).grownBy w3 (Value.slice z.pa x.args.length z.ca).ownBlock) (hat : v.ownBlock = (Value.slice z.pa x.args.length z.ca).ownBlock ∨ v.ownBlock = some (w.alloc o).heap.size) :
    ∃ p' c', v = .slice p' (x.args.length + 1) c' ∧ w3.heap[bd]? = some (.cells (dboxX x z) 55 (0, 0)) ∧ DLoop N B (w3.setCell ⟨bd, 9, none⟩ (.slice p' (x.args.length + 1) c')) bd { x with args := x.args ++ [y] } { z with pa := p', ca := c' } q ∧ B ≤ (w3.setCell ⟨bd, 9, none⟩ (.slice p' (x.args.length + 1) c')).heap.size := by
  obtain ⟨p', c', rfl, hr⟩ := ownsRow_slice hown
  have hl : (fls x.args ++ [Value.float .f64 y]).length = x.args.length + 1 := by simp [fls_len]
  rw [hl] at hat ⊢
  have g : w.grownBy w3 (Value.slice z.pa x.args.length z.ca).ownBlock := (World.grownBy_alloc w o _).trans hg
  have ho : ∀ k, k ∈ fpR p' → k ∈ fpR z.pa ∨ w.heap.size ≤ k := own_at hat (by simp)
  have hip : Abv B (fpR p') := fun k hk => (ho k hk).elim (h.hi k) (fun y => Nat.le_trans hB y)
  have kp : ∀ k, k < B → w3.heap[k]? = w.heap[k]? := fun k hk => g.block k (Nat.lt_of_lt_of_le hk hB) (fun e => by have := h.hi k (own_fpR.2 e.symm); omega)
  have lob : bd < B := h.lo bd (by simp)
  have kk : Kept (bd :: (Fr z.br q ++ z.KR)) w w3 := ⟨g.size, fun i hi => kp i (h.lo i hi)⟩
  have hbd : w3.heap[bd]? = _ := (kp bd lob).trans h.raw.box
  have nd : bd ∉ Fr z.br q ++ z.KR := fun y => h.raw.sb (by rw [← List.append_assoc]; exact List.mem_append.2 (.inl y))
  have k2 : Kept (Fr z.br q ++ z.KR) w (w3.setCell ⟨bd, 9, none⟩ (.slice p' (x.args.length + 1) c')) := ⟨by simpa using g.size, fun i hi => (heap_setCell_other _ _ _ _ (fun (e : i = bd) => nd (e ▸ hi))).trans (kp i (h.lo i (List.mem_cons_of_mem _ hi)))⟩
  have np : bd ∉ fpR p' := fun y => by have := hip bd y; omega
  have row' : RowAt 71 (w3.setCell ⟨bd, 9, none⟩ (.slice p' (x.args.length + 1) c')) p' c' (fls (x.args ++ [y])) := by
    rw [fls_snoc] at *
    exact hr.keep (keptB np)
  have inF : ∀ k, k = z.br ∨ k = z.bl → k < B := fun k hk => h.lo k (by
    have e := h.raw.at_.1
    rcases hk with rfl | rfl
    · simp [Fr]
    · simp [Fr, e])
  have hbs := h.bl.size
  have hgs := g.size
  refine ⟨p', c', rfl, hbd, ⟨⟨?_, h.raw.ref.keep ⟨k2.1, fun i hi => k2.2 i (List.mem_append.2 (.inl hi))⟩ ⟨k2.1, fun i hi => k2.2 i (List.mem_append.2 (.inr (by rw [← h.raw.at_.2]; exact hi)))⟩, h.raw.at_, row'.ro, row'.blw, fun y => ?_, ⟨fun y => by have h1 := hip z.br y; have h2 := inF z.br (.inl rfl); omega, fun y => by have h1 := hip z.bl y; have h2 := inF z.bl (.inr rfl); omega⟩⟩, row', h.lo, hip, h.ab, h.bk, ?_, h.sz⟩, by simp; omega⟩
  · refine (heap_setCell_same w3 bd 9 _ _ _ hbd).trans ?_
    unfold dboxX
    simp
  · rw [← List.append_assoc] at y
    rcases List.mem_append.1 y with y | y
    · exact nd y
    · exact np y
  · refine ⟨g.os.trans h.bl.os, g.tape.trans h.bl.tape, g.output.trans h.bl.output, by simp; omega, fun k hk => ?_⟩
    have e1 : k ≠ bd := by have := h.ab bd (by simp); omega
    have := h.sz
    exact (heap_setCell_other _ _ _ _ e1).trans ((kp k (by omega)).trans (h.bl.block k hk))
end
/-- where the instructions lie that are handed in, if there are any -/
def krA (ao : Option Addr) (cs : List Ins) : List Nat := if cs = [] then [] else fpR ao
theorem krA_blw {w : World} {ao : Option Addr} {cs : List Ins} (h : CodeAt w ao cs) : Blw w (krA ao cs) := fpK_blw (q := rq0 0 0 ao 0 0 false 0) h
/-- the document's reader that is made -/
structure DMade (w w' : World) (bd : Nat) (x : Rx) (ao : Option Addr) (cs : List Ins) : Prop where
  at_ : ∃ z q, z.cs = cs ∧ z.KR = krA ao cs ∧ DRaw w' bd x z q ∧ Abv w.heap.size (bd :: Fr z.br q) ∧ Abv w.heap.size (fpR z.pa)
  bl : Below w.heap.size w w'
section
variable {w : World} {a b c e t th : Int} {ao : Option Addr} {cs : List Ins} {n cap : Nat} {po : Option Addr} {l : List Nat} {k co : Nat}
set_option maxRecDepth 100000 in
set_option maxHeartbeats 1000000 in
theorem dnew_nil (h : (Md.cfgB a b c e && decide (k ≤ 8)) = false) : Calls Tryz.prog 37 #[cfgV a b c e, .int .i64 th, .agg #[.int .i64 t, .slice ao n cap], .slice po k co] w fun r w' => r = .returned (.pointer none) ∧ Below w.heap.size w w' := by
  have HN : Hid (∀ u, Calls Tryz.prog 77 #[cfgV a b c e, .agg #[.int .i64 t, .slice ao n cap], .slice po k co] u fun r w' => r = .returned (.pointer none) ∧ Below u.heap.size u w') := fun u => rnew_nil h
  have HP := Lib.hid (fun u => Md.refPlace_any a b c e u)
  have HX : Hid (∀ u, Below (newW w a b c e t ao n cap).heap.size (newW w a b c e t ao n cap) u → u.heap[w.heap.size]? = some (cfgO a b c e) ∧ u.heap[w.heap.size + 1]? = some (prgO t ao n cap) ∧ Below w.heap.size w u) := fun u q => ⟨(q.block _ (by simp; omega)).trans (heap_old (heap_alloc_new _ _)), (q.block _ (by simp)).trans (heap_new (by simp)), (newW_boxes q).2.2⟩
  cases hc : Md.cfgB a b c e
  · simp only [hc] at HP
    go_enter Tryz.func37, Tryz.ntmps37
    go_wp2_with (first
      | (go_at_call 77; refine (HN.out _).mono ?_; rintro e u2 ⟨rfl, q⟩; have H2 := Lib.hid (below_chain (H1.out.alloc H1.out.size _) q); clear q)
      | (go_at_call 38; refine (HP.out _).mono ?_; rintro e u1 ⟨rfl, q⟩; have H1 := Lib.hid q; obtain ⟨b0, b1, b3⟩ := HX.out _ q; obtain ⟨c0, c1, c2, c3, c4⟩ := cells4 b0; obtain ⟨d0, d1, d2⟩ := cells2 b1; clear b0 b1 b3 q))
    go_ret
    exact ⟨rfl, (HX.out _ H2.out).2.2⟩
  · simp only [hc] at HP
    go_enter Tryz.func37, Tryz.ntmps37
    go_wp2_with (first
      | (go_at_call 77; refine (HN.out _).mono ?_; rintro e u2 ⟨rfl, q⟩; have H2 := Lib.hid (below_chain (H1.out.alloc H1.out.size _) q); clear q)
      | (go_at_call 38; refine (HP.out _).mono ?_; rintro e u1 ⟨rfl, q⟩; have H1 := Lib.hid q; obtain ⟨b0, b1, b3⟩ := HX.out _ q; obtain ⟨c0, c1, c2, c3, c4⟩ := cells4 b0; obtain ⟨d0, d1, d2⟩ := cells2 b1; clear b0 b1 b3 q))
    go_ret
    exact ⟨rfl, (HX.out _ H2.out).2.2⟩
set_option maxRecDepth 100000 in
set_option maxHeartbeats 1000000 in
theorem dnew_out (hc : Md.cfgB a b c e = true) (hn : cs.length = n) (hk : l.length = k) (hk8 : k ≤ 8) (hC : CodeAt w ao cs) (hL : FlAt w po l) (hnl : n ≤ 9223372036854775807) (ht : ¬ (0 ≤ th ∧ th < b)) : Calls Tryz.prog 37 #[cfgV a b c e, .int .i64 th, .agg #[.int .i64 t, .slice ao n cap], .slice po k co] w fun r w' => r = .returned (.pointer none) ∧ Below w.heap.size w w' := by
  have HN : Hid (∀ u, Below w.heap.size w u → Calls Tryz.prog 77 #[cfgV a b c e, .agg #[.int .i64 t, .slice ao n cap], .slice po k co] u fun r w' => ∃ br : Nat, r = .returned (.pointer (some ⟨br, 0, none⟩)) ∧ Below u.heap.size u w') := fun u hb => rnew_any hn hk (hC.on hb) (hL.on hb) hnl hc hk8
  have HP := Lib.hid (fun u => Md.refPlace_any a b c e u)
  have HX : Hid (∀ u, Below (newW w a b c e t ao n cap).heap.size (newW w a b c e t ao n cap) u → u.heap[w.heap.size]? = some (cfgO a b c e) ∧ u.heap[w.heap.size + 1]? = some (prgO t ao n cap) ∧ Below w.heap.size w u) := fun u q => ⟨(q.block _ (by simp; omega)).trans (heap_old (heap_alloc_new _ _)), (q.block _ (by simp)).trans (heap_new (by simp)), (newW_boxes q).2.2⟩
  simp only [hc] at HP
  clear hc hn hk hk8 hC hL hnl
  by_cases h0 : th < 0
  · go_enter Tryz.func37, Tryz.ntmps37
    go_wp2_with (first
      | (go_at_call 77; refine (HN.out _ (HX.out _ (H1.out.alloc H1.out.size _)).2.2).mono ?_; rintro e u2 ⟨br, rfl, q⟩; have H2 := Lib.hid (below_chain (H1.out.alloc H1.out.size _) q); clear q)
      | (go_at_call 38; refine (HP.out _).mono ?_; rintro e u1 ⟨rfl, q⟩; have H1 := Lib.hid q; obtain ⟨b0, b1, b3⟩ := HX.out _ q; obtain ⟨c0, c1, c2, c3, c4⟩ := cells4 b0; obtain ⟨d0, d1, d2⟩ := cells2 b1; clear b0 b1 b3 q))
    go_ret
    exact ⟨rfl, (HX.out _ H2.out).2.2⟩
  · have h1 : b ≤ th := by omega
    go_enter Tryz.func37, Tryz.ntmps37
    go_wp2_with (first
      | (go_at_call 77; refine (HN.out _ (HX.out _ (H1.out.alloc H1.out.size _)).2.2).mono ?_; rintro e u2 ⟨br, rfl, q⟩; have H2 := Lib.hid (below_chain (H1.out.alloc H1.out.size _) q); obtain ⟨x0, x1, x2, x3, x4⟩ := cells4 (HX.out _ H2.out).1; clear q)
      | (go_at_call 38; refine (HP.out _).mono ?_; rintro e u1 ⟨rfl, q⟩; have H1 := Lib.hid q; obtain ⟨b0, b1, b3⟩ := HX.out _ q; obtain ⟨c0, c1, c2, c3, c4⟩ := cells4 b0; obtain ⟨d0, d1, d2⟩ := cells2 b1; clear b0 b1 b3 q))
    go_ret
    exact ⟨rfl, (HX.out _ H2.out).2.2⟩
theorem take_fix {l : List Nat} {j : Nat} (h : j < l.length) : (l.take j).map fixB ++ [fixB (l.getD j 0)] = (l.take (j + 1)).map fixB := by
  rw [List.take_add_one, List.map_append, List.getD_eq_getElem?_getD, List.getElem?_eq_getElem h]
  rfl
theorem dloop_new {u1 u2 : World} {br bl ca : Nat} {pa : Option Addr} (hC : CodeAt w ao cs) (hn : cs.length = n) (h1 : Below w.heap.size w u1) (h : RNew u1 u2 (newM a c e t cs l) { rq0 b t ao n cap (!checkB t cs) bl with pa := pa, na := 8, ca := ca } br (eight (argF l))) {v : World} (hv : Same (u2.alloc (.cells (dboxX { newX a b c e t cs l th with args := [] } ⟨br, bl, [], none, 0, cs⟩) 55)) v) : ∃ q, DLoop w v.heap.size v u2.heap.size { newX a b c e t cs l th with args := [] } ⟨br, bl, krA ao cs, none, 0, cs⟩ q := by
  have hR := h.ref h1 hC hn
  have hA := h.abv
  have hb2 := h.bl
  have ha : Below u2.heap.size u2 v := (below_alloc _ _).trans (hv.below _)
  have hbx : v.heap[u2.heap.size]? = some (.cells (dboxX { newX a b c e t cs l th with args := [] } ⟨br, bl, [], none, 0, cs⟩) 55 (0, 0)) := by rw [hv.heap]; exact heap_alloc_new _ _
  have l2 : u2.heap.size < v.heap.size := lt_of_block hbx
  have hk : Blw w (fpK { rq0 b t ao n cap (!checkB t cs) bl with pa := pa, na := 8, ca := ca } cs) := fpK_blw hC
  have s1 := h1.size
  have s2 := hb2.size
  have lF : ∀ i ∈ Fr br { rq0 b t ao n cap (!checkB t cs) bl with pa := pa, na := 8, ca := ca }, i < u2.heap.size := hR.lt
  refine ⟨{ rq0 b t ao n cap (!checkB t cs) bl with pa := pa, na := 8, ca := ca }, ⟨⟨hbx, hR.on ha, ⟨rfl, rfl⟩, Ro.nil _, (fun i hi => by simp [fpR] at hi), fun y => ?_, ⟨by simp [fpR], by simp [fpR]⟩⟩, ⟨⟨rfl, .inl ⟨rfl, rfl⟩⟩⟩, fun i hi => ?_, (fun i hi => by simp [fpR] at hi), fun i hi => ?_, hk, h1.trans ((hb2.trans (ha.mono hb2.size)).mono s1), by omega⟩⟩
  · rcases List.mem_append.1 y with y | y
    · exact absurd (lF _ y) (Nat.lt_irrefl _)
    · rcases List.mem_append.1 y with y | y
      · have := hk _ y; omega
      · simp [fpR] at y
  · simp only [List.mem_cons, List.mem_append] at hi
    rcases hi with rfl | hi | hi
    · exact l2
    · have := lF i hi; omega
    · have := hk i hi; omega
  · simp only [List.mem_cons] at hi
    rcases hi with rfl | hi
    · omega
    · have := hA i hi; omega
set_option maxRecDepth 100000 in
set_option maxHeartbeats 1000000 in
theorem dnew_yes (hc : Md.cfgB a b c e = true) (hn : cs.length = n) (hk : l.length = k) (hk8 : k ≤ 8) (hC : CodeAt w ao cs) (hL : FlAt w po l) (hnl : n ≤ 9223372036854775807) (h0 : 0 ≤ th) (h1 : th < b) : Calls Tryz.prog 37 #[cfgV a b c e, .int .i64 th, .agg #[.int .i64 t, .slice ao n cap], .slice po k co] w fun r w' => ∃ bd, r = .returned (.pointer (some ⟨bd, 0, none⟩)) ∧ DMade w w' bd (newX a b c e t cs l th) ao cs := by
  have HN : Hid (∀ u, Below w.heap.size w u → Calls Tryz.prog 77 #[cfgV a b c e, .agg #[.int .i64 t, .slice ao n cap], .slice po k co] u fun r w' => ∃ br bl pa ca, r = .returned (.pointer (some ⟨br, 0, none⟩)) ∧ RNew u w' (newM a c e t cs l) { rq0 b t ao n cap (!checkB t cs) bl with pa := pa, na := 8, ca := ca } br (eight (argF l))) := fun u hb => rnew_some hc hn hk hk8 (hC.on hb) (hL.on hb) hnl
  have HP := Lib.hid (fun u => Md.refPlace_any a b c e u)
  have HX : Hid (∀ u, Below (newW w a b c e t ao n cap).heap.size (newW w a b c e t ao n cap) u → u.heap[w.heap.size]? = some (cfgO a b c e) ∧ u.heap[w.heap.size + 1]? = some (prgO t ao n cap) ∧ Below w.heap.size w u) := fun u q => ⟨(q.block _ (by simp; omega)).trans (heap_old (heap_alloc_new _ _)), (q.block _ (by simp)).trans (heap_new (by simp)), (newW_boxes q).2.2⟩
  simp only [hc] at HP
  have HDL : Hid (∀ u1 u2 br bl ca pa v, Below w.heap.size w u1 → RNew u1 u2 (newM a c e t cs l) { rq0 b t ao n cap (!checkB t cs) bl with pa := pa, na := 8, ca := ca } br (eight (argF l)) → Same (u2.alloc (.cells #[.int .i64 0, .int .i64 1, .int .i64 2, .int .i64 3, .int .i64 (3 + b), .int .i64 (3 + b + 3 * a), .pointer (some ⟨br, 0, none⟩), .int .i64 th, .int .i64 t, .slice none 0 0, .int .i64 1, .int .i64 0, .int .u64 0, .int .u64 0, .int .i64 (-1), .int .u64 0, .int .u64 0, .int .i64 0] 55)) v → ∃ q, DLoop w v.heap.size v u2.heap.size { newX a b c e t cs l th with args := [] } ⟨br, bl, krA ao cs, none, 0, cs⟩ q) := fun u1 u2 br bl ca pa v q1 q2 q3 => dloop_new hC hn q1 q2 q3
  have HL : Hid (∀ u, Below w.heap.size w u → FlAt u po l) := fun u hb => hL.on hb
  have HK : Hid (l.length = k) := hk
  obtain ⟨i0, hi, hz0, hz1, hz2⟩ := info_parts fInfo
  have HZI := Lib.hid (And.intro hi (And.intro hz0 (And.intro hz1 hz2)))
  clear hc hn hk hC hL hnl hi hz0 hz1 hz2
  obtain ⟨p5, h5⟩ : ∃ p5, 3 + b + 3 * a = p5 := ⟨_, rfl⟩
  obtain ⟨p4, h4⟩ : ∃ p4, 3 + b = p4 := ⟨_, rfl⟩
  rw [h5, h4] at HDL HP
  clear h4 h5
  generalize newM a c e t cs l = m0 at *
  go_enter Tryz.func37, Tryz.ntmps37
  go_wp2_with (first
    | (go_at_call 77; refine (HN.out _ (HX.out _ (H1.out.alloc H1.out.size _)).2.2).mono ?_; rintro e u2 ⟨br, bl, pa, ca, rfl, q⟩; have H2 := Lib.hid (below_chain (H1.out.alloc H1.out.size _) q.bl); have HRN := Lib.hid q; obtain ⟨x0, x1, x2, x3, x4⟩ := cells4 (HX.out _ H2.out).1; obtain ⟨s0, s1, s2⟩ := cells2 (HX.out _ H2.out).2.1; obtain ⟨t0, t1, t2, t3, t4, t5, t6⟩ := cells6 ((q.bl.block _ (by simp)).trans (heap_alloc_new u1 (.cells #[.int .i64 0, .int .i64 1, .int .i64 2, .int .i64 3, .int .i64 p4, .int .i64 p5] 51))); clear q)
    | (go_at_call 38; refine (HP.out _).mono ?_; rintro e u1 ⟨rfl, q⟩; have H1 := Lib.hid q; obtain ⟨b0, b1, b3⟩ := HX.out _ q; obtain ⟨c0, c1, c2, c3, c4⟩ := cells4 b0; obtain ⟨d0, d1, d2⟩ := cells2 b1; clear b0 b1 b3 q))
  obtain ⟨v0, hv0⟩ : ∃ v0, v0 = u2.alloc (.cells #[.int .i64 0, .int .i64 1, .int .i64 2, .int .i64 3, .int .i64 p4, .int .i64 p5, .pointer (some ⟨br, 0, none⟩), .int .i64 th, .int .i64 t, .slice none 0 0, .int .i64 1, .int .i64 0, .int .u64 0, .int .u64 0, .int .i64 (-1), .int .u64 0, .int .u64 0, .int .i64 0] 55) := ⟨_, rfl⟩
  rw [← hv0]
  obtain ⟨q0, hq0⟩ := HDL.out (u1.alloc (.cells #[.int .i64 0, .int .i64 1, .int .i64 2, .int .i64 3, .int .i64 p4, .int .i64 p5] 51)) u2 br bl ca pa v0 (HX.out _ (H1.out.alloc H1.out.size _)).2.2 HRN.out (by rw [hv0]; exact Same.refl _)
  have HQ0 := Lib.hid hq0
  clear hv0 hq0 HDL HRN HN HP HX H1 H2 x0 x1 x2 x3 x4 s0 s1 s2 t0 t1 t2 t3 t4 t5 t6 c0 c1 c2 c3 c4 d0 d1 d2
  obtain ⟨X, hX⟩ : ∃ X, X = newX a b c e t cs l th := ⟨_, rfl⟩
  rw [← hX] at HQ0
  have HXE := Lib.hid hX
  clear hX
  go_loopw [49] (fun vi wr => ∃ j : Nat, vi = .int .i64 j ∧ j ≤ k ∧ Hid (∃ p' c', DLoop w v0.heap.size wr u2.heap.size { X with args := (l.take j).map fixB } ⟨br, bl, krA ao cs, p', c', cs⟩ q0 ∧ v0.heap.size ≤ wr.heap.size)) (fun vi _ => k - (intOf vi).toNat)
  case atStart => exact ⟨0, rfl, Nat.zero_le _, none, 0, HQ0.out, Nat.le_refl _⟩
  case round =>
    obtain ⟨j, rfl, hj, HR⟩ := hrel
    obtain ⟨p', c', hr, hsz⟩ := HR.out
    by_cases hlt : j < k
    · have hlt' : (j : Int) < (k : Int) := by omega
      obtain ⟨g, o, rfl, hg, hx⟩ := HL.out _ hr.bl j (by rw [HK.out]; exact hlt)
      have hl : ((l.take j).map fixB).length = j := by simp; have := HK.out; omega
      have HE := Lib.hid (take_fix (l := l) (j := j) (by rw [HK.out]; exact hlt))
      generalize l.getD j 0 = y at hx HE
      have h9 : wr.cell? ⟨u2.heap.size, 9, none⟩ = some (.slice p' j c') := (hr.raw.cell 9).trans (by show some (Value.slice p' ((l.take j).map fixB).length c') = _; rw [hl])
      have hbr := hr.raw.ltB
      have HO : Hid (wr.ownsRow 0 71 1 (.slice p' j c') j (fls ((l.take j).map fixB))) := by
        have := hr.row.own
        dsimp only at this
        rw [fls_len, hl] at this
        exact this
      have HM : Hid (∀ w3 v ob, w3.ownsRow 0 71 1 v (j + 1) (fls ((l.take j).map fixB) ++ [.float .f64 (fixB y)]) → (wr.drew.alloc ob).grownBy w3 (Value.slice p' j c').ownBlock → (v.ownBlock = (Value.slice p' j c').ownBlock ∨ v.ownBlock = some (wr.drew.alloc ob).heap.size) → ∃ p2 c2, v = .slice p2 (j + 1) c2 ∧ w3.heap[u2.heap.size]? = some (.cells (dboxX { X with args := (l.take j).map fixB } ⟨br, bl, krA ao cs, p', c', cs⟩) 55 (0, 0)) ∧ DLoop w v0.heap.size (w3.setCell ⟨u2.heap.size, 9, none⟩ (.slice p2 (j + 1) c2)) u2.heap.size { X with args := (l.take (j + 1)).map fixB } ⟨br, bl, krA ao cs, p2, c2, cs⟩ q0 ∧ v0.heap.size ≤ (w3.setCell ⟨u2.heap.size, 9, none⟩ (.slice p2 (j + 1) c2)).heap.size) := fun w3 v ob q1 q2 q3 => by
        have hs : DLoop w v0.heap.size wr.drew u2.heap.size { X with args := (l.take j).map fixB } ⟨br, bl, krA ao cs, p', c', cs⟩ q0 := ⟨hr.raw.on ((Same.drew wr).below _), hr.row.on ((Same.drew wr).below _), hr.lo, hr.hi, hr.ab, hr.bk, hr.bl.trans ((Same.drew wr).below _), hr.sz⟩
        have := hs.more (w3 := w3) (v := v) (y := fixB y) (o := ob) hsz (by dsimp only; rw [hl]; exact q1) (by dsimp only; rw [hl]; exact q2) (by dsimp only; rw [hl]; exact q3)
        dsimp only at this
        rw [hl, HE.out] at this
        exact this
      have OD : Hid (wr.drew.ownsRow 0 71 1 (.slice p' j c') j (fls ((l.take j).map fixB))) := HO.out
      have HLJ : Hid (((l.take j).map fixB).length = j) := hl
      clear HR hr hsz hl HL
      go_wp2_with fail
      refine wp_region_seqE (fun u => u.cell? ⟨u2.heap.size, 9, none⟩ = some (.slice p' j c') )  ((0, true) :: (1, true) :: (2, true) :: (3, true) :: (4, true) :: (5, true) :: (6, false) :: (7, false) :: (8, false) :: (9, true) :: (10, true) :: (11, false) :: [])  Md.Cv.follows13 (by kernel_rfl) (fun _ _ _ _ _ h => h)  h9 ?_
      (repeat (refine wpSeqE_take (v := ?_) rfl (by rfl) (fun wq hSq => ?_) ?_; rotate_left; (focus ((try dsimp only at hSq); go_simp; try with_reducible rfl)); simp only [Act.put, List.setIfInBounds_toArray, List.set_cons_zero, List.set_cons_succ]))
      (refine wpSeqE_do rfl (by rfl) (fun KK hK => ?_); go_simp)
      refine (refFix_any _ _).mono ?_
      rintro r u ⟨rfl, hu⟩
      subst u
      refine hK.out _ _ (fun _ => h9) ?_
      (clear hK KK; try simp only [Act.put, List.setIfInBounds_toArray, List.set_cons_zero, List.set_cons_succ])
      (refine wpSeqE_do rfl (by rfl) (fun KK hK => ?_); go_simp)
      have h9a : (wr.drew.alloc (.cells #[.float .f64 (fixB y)] 71)).cell? ⟨u2.heap.size, 9, none⟩ = some (.slice p' j c') := (World.cell?_alloc_old _ _ _ (Nat.ne_of_lt hbr)).trans h9
      refine hK.out _ _ (fun _ => h9a) ?_
      (clear hK KK; try simp only [Act.put, List.setIfInBounds_toArray, List.set_cons_zero, List.set_cons_succ])
      refine wpSeqE_do rfl (by rfl) (fun KK hK => ?_)
      refine wp_append_ex _ _ 27 27 rfl (.slice p' j c') (.slice (some ⟨wr.heap.size, 0, none⟩) 1 1) rfl rfl (run_append_own_at (P := Tryz.prog) (wr.drew.alloc (.cells #[.float .f64 (fixB y)] 71)) 0 27 27 71 i0 (.float .f64 0) 1 8 Tryz.underlying27 HZI.out.1 HZI.out.2.1 HZI.out.2.2.1 HZI.out.2.2.2 rfl (by decide) _ j (fls ((l.take j).map fixB)) (World.ownsRow.alloc (OD.out) _) ⟨wr.heap.size, 0, none⟩ 1 1 [.float .f64 (fixB y)] rfl (cell_one_new wr.drew _ _) (fun u hu => by simp at hu; subst hu; rfl) (by unfold maxLen; omega) (by omega) (Nat.zero_le _)) ?_
      rintro v3 w3 ⟨hown3, hgrow3, hnil3, hat3⟩
      obtain ⟨p2, c2, hv3, k1, k2, k3⟩ := HM.out _ _ _ hown3 hgrow3 hat3
      subst hv3
      have c9 : w3.cell? ⟨u2.heap.size, 9, none⟩ = some (.slice p' j c') := by
        rw [cell_of_row w3 _ 9 _ _ _ k1]
        show some (Value.slice p' ((l.take j).map fixB).length c') = _
        rw [HLJ.out]
      have f9 := frozen_of_row w3 _ 9 _ _ k1
      have l9 := lt_of_block k1
      have HKK := Lib.hid (And.intro k2 k3)
      clear hown3 hgrow3 hnil3 hat3 k1 k2 k3 HM
      refine hK.out _ _ (fun _ => c9) ?_
      (clear hK KK; try simp only [Act.put, List.setIfInBounds_toArray, List.set_cons_zero, List.set_cons_succ])
      (repeat (refine wpSeqE_take (v := ?_) rfl (by rfl) (fun wq hSq => ?_) ?_; rotate_left; (focus ((try dsimp only at hSq); go_simp; try with_reducible rfl)); simp only [Act.put, List.setIfInBounds_toArray, List.set_cons_zero, List.set_cons_succ]))
      (refine wpSeqE_do rfl (by rfl) (fun KK hK => ?_); go_simp)
      refine hK.out _ _ (fun hn => absurd rfl hn) ?_
      (clear hK KK; try simp only [Act.put])
      refine wpSeqE_nil ?_
      go_wp2_with fail
      exact ⟨⟨j + 1, by first | rfl | (congr 1), by omega, p2, c2, HKK.out⟩, by simp [intOf]; omega⟩
    · have hlt' : ¬ (j : Int) < (k : Int) := by omega
      obtain rfl : j = k := by omega
      have HZ : Hid (DMade w wr u2.heap.size X ao cs) := by
        have e : (l.take j).map fixB = X.args := by rw [HXE.out, List.take_of_length_le (by rw [HK.out]; exact Nat.le_refl _)]; rfl
        rw [e] at hr
        exact ⟨⟨_, q0, rfl, rfl, hr.raw, hr.ab, hr.hi.mono hr.sz⟩, hr.bl⟩
      clear HR hr hsz
      go_wp2
      go_ret
      exact ⟨_, rfl, by rw [← HXE.out]; exact HZ.out⟩
end
end Go.Proofs.YtninicfnhoediaaGreatDoor.Rr
namespace Go.Proofs.YtninicfnhoediaaGreatDoor.Rr
open Go.ChangeShapes Go.WideShapes Go.ChangeAt Go.RowKit Num
section
variable {W w w' : World} {G0 : List Nat} {b mb mg : Nat} {x : Rx} {z : Rz} {ws : List Int} {o : Bool} {n : Int}
theorem full_new {bx : Nat} (hW : Below W.heap.size W w) (hm : MemAt 123 w mb mg ws o n) (ab : W.heap.size ≤ mb) (ag : W.heap.size ≤ mg) (h : Made w w' bx x) (hc : x.cell < 0) : ∃ z, Full W [] bx z mb mg w' x ws o n := by
  obtain ⟨z, F, r, h1, h2, h3⟩ := h.at_
  have hs := hW.size
  have l1 := hm.ltB
  have l2 := hm.ltG
  refine ⟨z, none, r, ⟨F, h1, hm.on h.bl, fun i hi y => ?_, fun i hi y => ?_, ?_⟩, .inl ⟨rfl, hc⟩⟩
  · have := h2 i y
    simp only [List.mem_cons, List.not_mem_nil, or_false] at hi
    omega
  · have := h3 i y
    simp only [List.mem_cons, List.not_mem_nil, or_false] at hi
    omega
  · refine (Below.turn (hW.trans (h.bl.mono hs)) []).mono fun i hi => .inr ?_
    simp only [List.mem_cons] at hi
    rcases hi with hi | hi | hi
    · omega
    · omega
    · have := h2 i hi; omega
theorem Full.rebase (h : Full W G0 b z mb mg w x ws o n) : ∃ G, Full w G b z mb mg w x ws o n ∧ Turn G0 G W w ∧ Blw w G ∧ Sep z.KK G ∧ Blw w z.KK := by
  obtain ⟨q, r, ⟨F, h1, h2, h3, h4, t⟩, h5⟩ := h
  refine ⟨mb :: mg :: gX b z q F, ⟨q, r, ⟨F, h1, h2, h3, h4, Turn.refl _ _⟩, h5⟩, t, fun i hi => ?_, fun i hi y => ?_, h1.blwK⟩
  · simp only [List.mem_cons] at hi
    rcases hi with rfl | rfl | hi
    · exact h2.ltB
    · exact h2.ltG
    · exact h1.blw i hi
  · simp only [List.mem_cons] at y
    rcases y with rfl | rfl | y
    · exact h4 _ (by simp) hi
    · exact h4 _ (by simp) hi
    · exact h1.sep i hi y
theorem Full.from {G : List Nat} (h : Full w G b z mb mg w' x ws o n) (t : Turn G0 G W w) : Full W G0 b z mb mg w' x ws o n := by
  obtain ⟨q, r, ⟨F, h1, h2, h3, h4, t2⟩, h5⟩ := h
  exact ⟨q, r, ⟨F, h1, h2, h3, h4, t.trans t2⟩, h5⟩
theorem Full.below (h : Full W [] b z mb mg w x ws o n) : Below W.heap.size W w := by
  obtain ⟨q, r, ⟨F, h1, h2, h3, h4, t⟩, h5⟩ := h
  exact t.below (fun _ hi => by simp at hi) (Nat.le_refl _)
theorem Full.mem (h : Full W G0 b z mb mg w x ws o n) : MemAt 123 w mb mg ws o n := by
  obtain ⟨q, r, h1, _⟩ := h
  exact h1.mem
theorem Full.memb {ws' : List Int} {o' : Bool} {n' : Int} (h : Full W G0 b z mb mg w x ws o n) (k : Chg mb mg w w') (hm : MemAt 123 w' mb mg ws' o' n') : Full W G0 b z mb mg w' x ws' o' n' := by
  obtain ⟨q, r, h1, h2⟩ := h
  exact ⟨q, r, h1.memb k hm, h2⟩
theorem Full.raw (h : Full W G0 b z mb mg w x ws o n) : ∃ q F r, RawAt w b x z q F (comC x) r := by
  obtain ⟨q, r, ⟨F, h1, _⟩, _⟩ := h
  exact ⟨q, F, r, h1⟩
end
def lvC : List Ins := [⟨1, 0, 0⟩, ⟨16, 0, 0⟩, ⟨18, 0, 0⟩, ⟨20, 0, 0⟩]
def lvW : List Int := [0, 0, 3, 0, 0, 4, 4619567317775286272, 4618441417868443648]
def lvS : Nat → Rx × List Int × Bool × Int
  | 0 => (newX 1 2 20 1 1 lvC [] 1, lvW, false, 0)
  | i + 1 => ((stepX (lvS i).1 (lvS i).2.1).1, (stepX (lvS i).1 (lvS i).2.1).2.1, !(stepX (lvS i).1 (lvS i).2.1).2.2, if (stepX (lvS i).1 (lvS i).2.1).2.2 then up (lvS i).2.2.2 else (lvS i).2.2.2)
theorem lvS_part : ∀ i, i < 9 → (lvS i).1.part ≠ 4 := by
  intro i hi
  have : ((List.range 9).all fun i => (lvS i).1.part != 4) = true := by decide +kernel
  have := List.all_eq_true.1 this i (List.mem_range.2 hi)
  simpa using this
theorem lvS_end : (lvS 9).1.part = 4 ∧ (lvS 9).2.2.2 = 6 ∧ markV (lvS 9).1 = 3 ∧ (lvS 9).1.steps = 9 ∧ (lvS 9).1.m.how = 1 ∧ (lvS 9).1.m.cod = 0 ∧ (lvS 9).1.m.err = 0 ∧ (lvS 9).1.m.out = [4618441417868443648] := by
  refine ⟨by decide +kernel, by decide +kernel, by decide +kernel, by decide +kernel, by decide +kernel, by decide +kernel, by decide +kernel, by decide +kernel⟩
theorem lvS_peek : wordAt (lvS 4).2.1 4 = 4 ∧ hasB (lvS 4).2.1 4 = true := ⟨by decide +kernel, by decide +kernel⟩
theorem lvS_in : ∀ i, i ≤ 9 → InX (lvS i).1 ∧ okW (lvS i).2.1 ∧ plW (lvS i).1 ≤ ((lvS i).2.1.length : Int)
  | 0, _ => ⟨new_in (by decide +kernel) (fun k hk => by
      match k, hk with
      | 0, _ => decide
      | 1, _ => decide
      | 2, _ => decide
      | 3, _ => decide
      | k + 4, h => exact absurd h (by simp [lvC])) (fun x hx => by simp at hx) (by decide) ⟨by decide, by decide⟩, (fun v hv => by
      simp only [lvS, lvW, List.mem_cons, List.not_mem_nil, or_false] at hv
      unfold u64B
      omega), by decide +kernel⟩
  | i + 1, h => by
    obtain ⟨h1, h2, h3⟩ := lvS_in i (by omega)
    obtain ⟨g1, g2, _, g4, g5⟩ := step_in h1 (lvS_part i (by omega)) h2
    refine ⟨g1, g4, ?_⟩
    show plW (stepX (lvS i).1 (lvS i).2.1).1 ≤ ((stepX (lvS i).1 (lvS i).2.1).2.1.length : Int)
    rw [g5]
    unfold plW at h3 ⊢
    rw [g2.a, g2.b]
    exact h3
abbrev lvO : Obj := .cells #[.int .i64 1, .int .i64 0, .float .f64 0, .int .i64 16, .int .i64 0, .float .f64 0, .int .i64 18, .int .i64 0, .float .f64 0, .int .i64 20, .int .i64 0, .float .f64 0] 91
abbrev lvN (W : World) : World := ((W.alloc (cfgO 1 2 20 1)).alloc lvO).alloc (prgO 1 (some ⟨W.heap.size + 1, 0, none⟩) 4 4)
theorem lvN_below (W : World) : Below W.heap.size W (lvN W) := ((below_alloc W _).trans ((below_alloc _ _).mono (by simp))).trans ((below_alloc _ _).mono (by simp; omega))
theorem lvN_code {W u : World} (h : Below (lvN W).heap.size (lvN W) u) : CodeAt u (some ⟨W.heap.size + 1, 0, none⟩) lvC ∧ u.heap[W.heap.size]? = some (cfgO 1 2 20 1) ∧ u.heap[W.heap.size + 1 + 1]? = some (prgO 1 (some ⟨W.heap.size + 1, 0, none⟩) 4 4) := by
  have h1 : (lvN W).heap[W.heap.size + 1]? = some lvO := heap_old (heap_new (by simp))
  have h0 : (lvN W).heap[W.heap.size]? = some (cfgO 1 2 20 1) := heap_old (heap_old (heap_alloc_new _ _))
  have h2 : (lvN W).heap[W.heap.size + 1 + 1]? = some (prgO 1 (some ⟨W.heap.size + 1, 0, none⟩) 4 4) := heap_new (by simp)
  have hb : u.heap[W.heap.size + 1]? = some lvO := (h.block _ (lt_of_block h1)).trans h1
  refine ⟨fun i hi => ⟨_, 0, rfl, lt_of_block hb, ?_⟩, (h.block _ (lt_of_block h0)).trans h0, (h.block _ (lt_of_block h2)).trans h2⟩
  have C : ∀ j, u.cell? ⟨W.heap.size + 1, j, none⟩ = _ := fun j => cell_of_row u _ j _ _ _ hb
  match i, hi with
  | 0, _ => exact ⟨(C 0).trans rfl, (C 1).trans rfl, (C 2).trans rfl⟩
  | 1, _ => exact ⟨(C 3).trans rfl, (C 4).trans rfl, (C 5).trans rfl⟩
  | 2, _ => exact ⟨(C 6).trans rfl, (C 7).trans rfl, (C 8).trans rfl⟩
  | 3, _ => exact ⟨(C 9).trans rfl, (C 10).trans rfl, (C 11).trans rfl⟩
  | q + 4, h => exact absurd h (by simp [lvC])
/-- the words behind the first i Pokes -/
def lvP : Nat → List Int
  | 0 => [0, 0, 0, 0, 0, 0, 0, 0]
  | i + 1 => (lvP i).set i (lvW.getD i 0)
theorem lvP_len : ∀ i, (lvP i).length = 8
  | 0 => rfl
  | i + 1 => by unfold lvP; rw [List.length_set]; exact lvP_len i
theorem lvP_end : lvP 8 = lvW := by decide +kernel
theorem lvP_poke {i : Nat} (h : i < 8) : Md.poked (lvP i) (i : Int) (lvW.getD i 0) = lvP (i + 1) := by
  unfold Md.poked
  rw [hasB_of (by omega) (by rw [lvP_len]; omega), if_pos rfl]
  rfl
attribute [local go_sem] bits_run
set_option maxRecDepth 100000 in
set_option maxHeartbeats 4000000 in
theorem live_any {W : World} (hT : Shaped5 W) : Calls Tryz.prog 9 #[] W fun e w' => e = .returned (.bool true) ∧ Below W.heap.size W w' := by
  have HM : Hid (∀ u, Calls Tryz.prog 22 #[.int .i64 8] u fun e w' => e = .returned (.tuple #[.pointer (some ⟨u.heap.size + 1, 0, none⟩), .int .i64 0]) ∧ MemAt 123 w' (u.heap.size + 1) u.heap.size (lvP 0) false 0 ∧ Below u.heap.size u w') := fun u => Md.new_some 8 (by omega) (by omega) u
  have HN : Hid (∀ u, Below (lvN W).heap.size (lvN W) u → Calls Tryz.prog 35 #[cfgV 1 2 20 1, .int .i64 1, .agg #[.int .i64 1, .slice (some ⟨W.heap.size + 1, 0, none⟩) 4 4], .slice none 0 0] u fun r w' => ∃ bx, r = .returned (.pointer (some ⟨bx, 0, none⟩)) ∧ Made u w' bx (lvS 0).1) := fun u hb => new_yes (cs := lvC) (l := []) (by decide +kernel) rfl rfl (by omega) ((hT.on (lvN_below W)).on hb) (lvN_code hb).1 (fun j hj => by simp at hj) (by omega) (by omega) (by omega)
  have HB := Lib.hid (lvN_below W)
  have HC : Hid (∀ u, Below (lvN W).heap.size (lvN W) u → u.heap[W.heap.size]? = some (cfgO 1 2 20 1) ∧ u.heap[W.heap.size + 1 + 1]? = some (prgO 1 (some ⟨W.heap.size + 1, 0, none⟩) 4 4)) := fun u hb => (lvN_code hb).2
  have T0 : Hid (TabAt W []) := ⟨hT, by simp⟩
  have he1 := fun w => end_eq 1 0 0 w
  clear hT
  go_enter Tryz.func9, Tryz.ntmps9
  go_wp2_with (first
    | (go_at_call 35; refine (HN.out _ H1.out.2.1).mono ?_; rintro e u2 ⟨bx, rfl, q⟩; have H2 := Lib.hid q; clear q HN)
    | (go_at_call 22; refine (HM.out _).mono ?_; rintro e u1 ⟨rfl, q1, q2⟩; have H1 : Hid (MemAt 123 u1 ((lvN W).heap.size + 1) (lvN W).heap.size (lvP 0) false 0 ∧ Below (lvN W).heap.size (lvN W) u1 ∧ Below W.heap.size W u1) := ⟨q1, q2, HB.out.trans (q2.mono HB.out.size)⟩; obtain ⟨y0, y1⟩ := HC.out _ q2; obtain ⟨c0, c1, c2, c3, c4⟩ := cells4 y0; obtain ⟨d0, d1, d2⟩ := cells2 y1; clear q1 q2 y0 y1 HM HC))
  have HF0 : Hid (∃ z, Full W [] bx z (W.heap.size + 1 + 1 + 1 + 1) (W.heap.size + 1 + 1 + 1) u2 (lvS 0).1 (lvP 0) false 0) := by
    have e : (lvN W).heap.size = W.heap.size + 1 + 1 + 1 := by simp
    have h1 := H1.out
    rw [e] at h1
    exact full_new h1.2.2 h1.1 (by omega) (by omega) H2.out (by show (-1 : Int) < 0; omega)
  obtain ⟨z, hz⟩ := HF0.out
  have HF := Lib.hid hz
  clear hz HF0 H1 H2 c0 c1 c2 c3 c4 d0 d1 d2 HB
  obtain ⟨mb, hmb⟩ : ∃ mb, W.heap.size + 1 + 1 + 1 + 1 = mb := ⟨_, rfl⟩
  obtain ⟨mg, hmg⟩ : ∃ mg, W.heap.size + 1 + 1 + 1 = mg := ⟨_, rfl⟩
  rw [hmb, hmg] at HF
  rw [hmb]
  clear hmb hmg
  have HQ0 : Hid (Full W [] bx z mb mg (u2.alloc (.cells #[.int .u64 0, .int .u64 0, .int .u64 3, .int .u64 0, .int .u64 0, .int .u64 4, .int .u64 4619567317775286272, .int .u64 4618441417868443648] 53)) (lvS 0).1 (lvP 0) false 0 ∧ (u2.alloc (.cells #[.int .u64 0, .int .u64 0, .int .u64 3, .int .u64 0, .int .u64 0, .int .u64 4, .int .u64 4619567317775286272, .int .u64 4618441417868443648] 53)).heap[u2.heap.size]? = some (.cells (u64s lvW).toArray 53 (0, 0)) ∧ u2.heap.size ≠ mb ∧ u2.heap.size ≠ mg) := ⟨HF.out.on (below_alloc _ _), heap_alloc_new _ _, fun y => by have := HF.out.mem.ltB; omega, fun y => by have := HF.out.mem.ltG; omega⟩
  clear HF
  go_loopw [41] (fun vi wr => ∃ i : Nat, vi = .int .i64 i ∧ i ≤ 8 ∧ Hid (Full W [] bx z mb mg wr (lvS 0).1 (lvP i) false 0 ∧ wr.heap[u2.heap.size]? = some (.cells (u64s lvW).toArray 53 (0, 0)))) (fun vi _ => 8 - (intOf vi).toNat)
  case atStart => exact ⟨0, rfl, by omega, HQ0.out.1, HQ0.out.2.1⟩
  case round =>
    obtain ⟨i, rfl, hi, HR⟩ := hrel
    by_cases hlt : i < 8
    · have hlt' : (i : Int) < 8 := by omega
      have hx : wr.cell? ⟨u2.heap.size, i, none⟩ = some (.int .u64 (lvW.getD i 0)) := by
        rw [cell_of_row wr _ i _ _ _ HR.out.2]
        have : i < lvW.length := hlt
        simp [u64s, this]
      have hg := lt_of_block HR.out.2
      have HP := Lib.hid (Md.poke_any HR.out.1.mem (i : Int) (lvW.getD i 0))
      rw [lvP_poke hlt] at HP
      have HK : Hid (∀ u3, MemAt 123 u3 mb mg (lvP (i + 1)) false 0 → Chg mb mg wr u3 → Full W [] bx z mb mg u3 (lvS 0).1 (lvP (i + 1)) false 0 ∧ u3.heap[u2.heap.size]? = some (.cells (u64s lvW).toArray 53 (0, 0))) := fun u3 k1 k2 => ⟨HR.out.1.memb k2 k1, (k2.block _ hg HQ0.out.2.2.1 HQ0.out.2.2.2).trans HR.out.2⟩
      generalize lvW.getD i 0 = y at hx HP
      go_wp2_with (go_at_call 36; refine HP.out.mono ?_; rintro e u3 ⟨rfl, q1, q2⟩; have HQ := Lib.hid (HK.out _ q1 q2); clear q1 q2)
      exact ⟨⟨i + 1, by first | rfl | (congr 1), by omega, HQ.out⟩, by simp [intOf]; omega⟩
    · have hlt' : ¬ (i : Int) < 8 := by omega
      obtain rfl : i = 8 := by omega
      have HF8 := Lib.hid HR.out.1
      rw [lvP_end] at HF8
      clear HR HQ0
      go_wp2_with fail
      go_loopw [0, 4, 8, 9] (fun v0 v4 v8 v9 wr => ∃ i : Nat, v9 = .int .i64 i ∧ i ≤ 9 ∧ v8 = .bool (decide (i = 9)) ∧ v4 = .int .i64 0 ∧ v0 = .bool false ∧ Hid (Full W [] bx z mb mg wr (lvS i).1 (lvS i).2.1 (lvS i).2.2.1 (lvS i).2.2.2)) (fun v0 v4 v8 v9 _ => 9 - (intOf v9).toNat)
      case atStart => exact ⟨0, rfl, by omega, rfl, rfl, rfl, HF8.out⟩
      case round =>
        obtain ⟨i, rfl, hi, rfl, rfl, rfl, HR⟩ := hrel
        by_cases hlt : i < 9
        · have hlt' : (i : Int) < 9 := by omega
          have hd : decide (i = 9) = false := decide_eq_false (by omega)
          have HI := Lib.hid (lvS_in i (by omega))
          have HS : Hid (Calls Tryz.prog 14 #[.pointer (some ⟨bx, 0, none⟩), .pointer (some ⟨mb, 0, none⟩)] wr fun e w' => e = .returned (.tuple #[.bool (decide (i + 1 = 9)), .int .i64 0]) ∧ Full W [] bx z mb mg w' (lvS (i + 1)).1 (lvS (i + 1)).2.1 (lvS (i + 1)).2.2.1 (lvS (i + 1)).2.2.2) := by
            have := step_any HR.out T0.out HI.out.1 (lvS_part i hlt) HI.out.2.2 HI.out.2.1 (y := (lvS (i + 1)).1) (ws' := (lvS (i + 1)).2.1) (ac := (stepX (lvS i).1 (lvS i).2.1).2.2) rfl
            have e : decide (((lvS (i + 1)).1.part : Int) = 4) = decide (i + 1 = 9) := by
              rw [decide_eq_decide]
              by_cases q : i + 1 = 9
              · rw [q]; simp [lvS_end.1]
              · have := lvS_part (i + 1) (by omega)
                omega
            rw [e] at this
            exact this
          clear HI
          generalize hod : decide (i + 1 = 9) = od at HS
          rw [hd]
          by_cases h3 : i = 3
          · have h3' : ((i : Int) == 3) = true := by simp; omega
            have HPK : Hid (∀ u, Full W [] bx z mb mg u (lvS (i + 1)).1 (lvS (i + 1)).2.1 (lvS (i + 1)).2.2.1 (lvS (i + 1)).2.2.2 → Calls Tryz.prog 25 #[.pointer (some ⟨mb, 0, none⟩), .int .i64 4] u fun e w' => e = .returned (.tuple #[.int .u64 4, .int .i64 (errP (lvS (i + 1)).2.1 4)]) ∧ w' = u) := fun u k => by
              have := Md.peek_any k.mem 4
              subst h3
              rw [if_pos lvS_peek.2, lvS_peek.1] at this
              exact this
            generalize errP (lvS (i + 1)).2.1 4 = ep at HPK
            clear hd h3
            go_wp2_with (first
              | (go_at_call 25; refine (HPK.out _ HQ.out).mono ?_; rintro e u4 ⟨rfl, hw⟩; subst u4)
              | (go_at_call 14; refine HS.out.mono ?_; rintro e u3 ⟨rfl, q⟩; have HQ := Lib.hid q; clear q HS))
            subst hod
            exact ⟨⟨i + 1, by first | rfl | (congr 1), by omega, rfl, rfl, rfl, HQ.out⟩, by simp [intOf]; omega⟩
          · have h3' : ((i : Int) == 3) = false := by simp; omega
            clear hd h3
            go_wp2_with (go_at_call 14; refine HS.out.mono ?_; rintro e u3 ⟨rfl, q⟩; have HQ := Lib.hid q; clear q HS)
            subst hod
            exact ⟨⟨i + 1, by first | rfl | (congr 1), by omega, rfl, rfl, rfl, HQ.out⟩, by simp [intOf]; omega⟩
        · have hlt' : ¬ (i : Int) < 9 := by omega
          obtain rfl : i = 9 := by omega
          obtain ⟨e1, e2, e3, e4, e5, e6, e7, e8⟩ := lvS_end
          have HI := Lib.hid (lvS_in 9 (by omega)).1
          have HR9 := Lib.hid HR.out
          rw [e2] at HR9
          have HCT : Hid (∀ u, Below wr.heap.size wr u → Calls Tryz.prog 24 #[.pointer (some ⟨mb, 0, none⟩)] u fun e w' => e = .returned (.int .i64 6) ∧ w' = u) := fun u hu => Md.count_any (HR9.out.on hu).mem
          have HPH : Hid (∀ u, Below wr.heap.size wr u → Calls Tryz.prog 18 #[.pointer (some ⟨bx, 0, none⟩)] u fun e w' => e = .returned (.int .i64 4) ∧ w' = u) := fun u hu => by
            obtain ⟨q, F, r, h⟩ := (HR9.out.on hu).raw
            have := phase_raw h
            rw [e1] at this
            exact this
          have HDE : Hid (Calls Tryz.prog 20 #[.pointer (some ⟨bx, 0, none⟩)] wr fun e w' => ∃ D, e = .returned (.agg (dC (lvS 9).1.tag (lvS 9).1.args.length (lvS 9).1.m D 3 1 0 0 9)) ∧ DdAt w' wr.heap.size D (lvS 9).1.args (lvS 9).1.m ∧ Below wr.heap.size wr w') := by
            obtain ⟨q, F, r, h⟩ := HR9.out.raw
            have := Deed_any h HI.out.toIn0 rfl rfl e3 (show endI (lvS 9).1 (lvS 9).1.m.how = 1 by unfold endI; rw [if_pos e1]; exact e5) (show endI (lvS 9).1 (lvS 9).1.m.cod = 0 by unfold endI; rw [if_pos e1]; exact e6) (show endI (lvS 9).1 (lvS 9).1.m.err = 0 by unfold endI; rw [if_pos e1]; exact e7)
            rw [e4] at this
            exact this
          have HB9 : Hid (Below W.heap.size W wr) := HR9.out.below
          have HO8 : Hid ((lvS 9).1.m.out = [4618441417868443648]) := e8
          clear HR HI e1 e2 e3 e4 e5 e6 e7 e8 HR9
          go_wp2_with (first
            | (refine wpList_store_row rfl 61 _ _ rfl u4.heap.size (dC (lvS 9).1.tag (lvS 9).1.args.length (lvS 9).1.m D 3 1 0 0 9) rfl rfl _ _ (heap_alloc_new _ _) deedInfo rfl (deed_one _ _ _ _ _ _ _ _ _) ?_; rw [World.setRow_alloc_new])
            | (go_at_call 24; refine (HCT.out _ (H4.out.2.alloc H4.out.2.size _)).mono ?_; rintro e u5 ⟨rfl, hw⟩; subst u5)
            | (go_at_call 18; refine (HPH.out _ (H4.out.2.alloc H4.out.2.size _)).mono ?_; rintro e u5 ⟨rfl, hw⟩; subst u5)
            | (go_at_call 20; refine HDE.out.mono ?_; rintro e u4 ⟨D, rfl, q1, q2⟩; have H4 := Lib.hid (And.intro q1 q2); obtain ⟨g, _, hg, lg, cg⟩ := row_first (show RowAt 71 u4 D.po D.co (fls [4618441417868443648]) from by rw [← HO8.out]; exact q1.o); have ol : (lvS 9).1.m.out.length = 1 := (by rw [HO8.out]; rfl); clear q1 q2 HDE))
          rw [show (FloatKind.f64.format.order 4618441417868443648 4618441417868443648 == some Ordering.eq) = true by decide +kernel]
          go_ret
          have hb := HB9.out.trans (H4.out.2.mono HB9.out.size)
          exact ⟨rfl, hb.alloc hb.size _⟩
end Go.Proofs.YtninicfnhoediaaGreatDoor.Rr
namespace Go.Proofs.YtninicfnhoediaaGreatDoor.Rr
open Go.ChangeShapes Go.WideShapes Go.ChangeAt Go.RowKit Num
/-- a slice of n things of sz cells each: nothing, or a block of its own, from B on -/
def Cpy (B : Nat) (w' : World) (e : TypeId) (sz : Nat) (p : Option Addr) (n c : Nat) : Prop := (p = none ∧ n = 0) ∨ ∃ g arr, p = some ⟨g, 0, none⟩ ∧ B ≤ g ∧ w'.heap[g]? = some (.cells arr e (0, 0)) ∧ arr.size = c * sz ∧ n ≤ c
theorem app_nil {t e ty : TypeId} {i : TypeInfo} {z : Value} (ht : Tryz.prog.underlying t = some (.slice e)) (hi : Tryz.prog.info? e = some i) (hz : i.zero = some z) (hzs : z.cells.size = i.size) {w : World} {news : List Value} {n : Nat} {x : Value} (hs : Src Tryz.prog i.size t x n news w) (hb : n * i.bytes ≤ 140737488355328) (h63 : n ≤ 9223372036854775807) :
    ∃ v w', (Builtin.append_ #[t, t] ty #[.slice none 0 0, x]).run Tryz.prog w = .ok v w' ∧ ∃ p c, v = .slice p n c ∧ Cpy w.heap.size w' e i.size p n c ∧ Ro w' p news ∧ Below w.heap.size w w' := by
  by_cases h0 : n = 0
  · subst h0
    have hn : news = [] := by have := hs.newsLen; simpa using this
    refine ⟨.slice none 0 0, w, ?_, none, 0, rfl, .inl ⟨rfl, rfl⟩, by rw [hn]; exact Ro.nil w, Below.refl _ _⟩
    simp [Builtin.append_, run_underlying ht, sizeOf, typeInfo, hi, hs.len, hs.cells, hn]
  · have hold : (Builtin.firstCells i.size 0 (.slice none 0 0)).run Tryz.prog w.drew = .ok ([] : List Value).toArray w.drew := run_firstCells_none _ _ _ _ _
    refine ⟨_, _, run_append_grow_src w t t ty e i z ht hi hz none 0 0 [] hold x n news hs (by omega) (by omega) (growslice_fits (by omega) (by simpa using hb)), some ⟨w.heap.size, 0, none⟩, grownCap w (0 + n) 0 e, by rw [Nat.zero_add], .inr ⟨w.heap.size, _, rfl, Nat.le_refl _, heap_new (w := w.drew) (g := w.heap.size) rfl, ?_, by have := grownCap_ge w (0 + n) 0 e; omega⟩, .inr ⟨_, _, rfl, fun j v hv => ?_⟩, ((Same.drew w).below _).trans (below_alloc w.drew _)⟩
    · have hg := grownCap_ge w (0 + n) 0 e
      have hl := hs.newsLen
      rw [Array.size_append, size_zeroCells, hzs, List.size_toArray, List.nil_append, hl, ← Nat.add_mul, show n + (grownCap w (0 + n) 0 e - (0 + n)) = grownCap w (0 + n) 0 e by omega]
    · have hj := (List.getElem?_eq_some_iff.1 hv).1
      refine (cell_of_row _ w.heap.size (0 + j) _ _ _ (heap_new (w := w.drew) (g := w.heap.size) rfl)).trans ?_
      rw [Nat.zero_add, Array.getElem?_append_left (by simpa using hj)]
      simpa using hv
theorem Cpy.on {B : Nat} {w u : World} {e : TypeId} {sz n c : Nat} {p : Option Addr} (h : Cpy B w e sz p n c) (k : Below w.heap.size w u) : Cpy B u e sz p n c := by
  rcases h with h | ⟨g, arr, h1, h0, h2, h3⟩
  · exact .inl h
  · exact .inr ⟨g, arr, h1, h0, (k.block _ (lt_of_block h2)).trans h2, h3⟩
theorem Cpy.mono {B B' : Nat} {w : World} {e : TypeId} {sz n c : Nat} {p : Option Addr} (h : Cpy B w e sz p n c) (k : B' ≤ B) : Cpy B' w e sz p n c := by
  rcases h with h | ⟨g, arr, h1, h0, h2⟩
  · exact .inl h
  · exact .inr ⟨g, arr, h1, Nat.le_trans k h0, h2⟩
/-- the i-th thing's cell j may be written over -/
theorem Cpy.at_ {B : Nat} {w : World} {e : TypeId} {sz n c : Nat} {p : Option Addr} (h : Cpy B w e sz p n c) {i : Nat} (hi : i < n) : ∃ g, p = some ⟨g, 0, none⟩ ∧ B ≤ g ∧ g < w.heap.size ∧ ∀ j, j < sz → (∃ v, w.cell? ⟨g, i * sz + j, none⟩ = some v) ∧ w.frozen? ⟨g, i * sz + j, none⟩ = false := by
  rcases h with ⟨_, h⟩ | ⟨g, arr, h1, h0, h2, h3, h4⟩
  · omega
  · refine ⟨g, h1, h0, lt_of_block h2, fun j hj => ⟨?_, frozen_of_row w g _ _ _ h2⟩⟩
    rw [cell_of_row w g _ _ _ _ h2]
    have : i * sz + j < arr.size := by
      rw [h3]
      have := Nat.mul_le_mul_right sz (show i + 1 ≤ c by omega)
      rw [Nat.succ_mul] at this
      omega
    exact ⟨_, Array.getElem?_eq_getElem this⟩
theorem Cpy.put {B : Nat} {w : World} {e : TypeId} {sz n c : Nat} {p : Option Addr} (h : Cpy B w e sz p n c) (g j : Nat) (v : Value) : Cpy B (w.setCell ⟨g, j, none⟩ v) e sz p n c := by
  rcases h with h | ⟨g', arr, h1, h0, h2, h3, h4⟩
  · exact .inl h
  · by_cases q : g' = g
    · subst q
      exact .inr ⟨g', _, h1, h0, heap_setCell_same w g' j _ _ v h2, by simpa using h3, h4⟩
    · exact .inr ⟨g', arr, h1, h0, (heap_setCell_other _ _ _ _ q).trans h2, h3, h4⟩
theorem ro_code {w : World} {p : Option Addr} {cs : List Ins} (h : Ro w p (cs.flatMap insC)) : CodeAt w p cs := by
  rcases h with ⟨rfl, h⟩ | ⟨g, o, rfl, h⟩
  · have : cs = [] := by
      have := congrArg List.length h
      rw [insC_len] at this
      exact List.eq_nil_of_length_eq_zero (by simp only [List.length_nil] at this; omega)
    subst this
    intro i hi
    simp at hi
  · cases cs with
    | nil => intro i hi; simp at hi
    | cons i cs => exact codeAt_range (World.block_lt_of_cell? w _ (h 0 _ rfl)) h
abbrev rideV (a b c e th t : Int) (ao : Option Addr) (n cap : Nat) (po : Option Addr) (k co : Nat) (pw : Option Addr) (kw cw : Nat) (pp : Option Addr) (kp cp : Nat) : Array Value := #[.int .i64 a, .int .i64 b, .int .i64 c, .int .i64 e, .int .i64 th, .int .i64 t, .slice ao n cap, .slice po k co, .slice pw kw cw, .slice pp kp cp]
/-- both readers are made -/
structure Bgn (w w' : World) (bx bd : Nat) (x : Rx) (ao : Option Addr) (cs : List Ins) : Prop where
  p : ∃ z F r zd qd, RawAt w' bx x z none F (comC x) r ∧ Abv w.heap.size (gX bx z none F) ∧ Abv w.heap.size z.KK ∧ zd.cs = cs ∧ DRaw w' bd x zd qd ∧ Abv w.heap.size (bd :: Fr zd.br qd) ∧ Abv w.heap.size (fpR zd.pa) ∧ zd.KR = krA ao cs ∧ Sep (gX bx z none F) (dAll bd zd qd) ∧ Sep z.KK (bd :: Fr zd.br qd)
  bl : Below w.heap.size w w'
theorem bgn_of {w u1 u2 u3 u4 : World} {bx bd : Nat} {x : Rx} {ao : Option Addr} {cs : List Ins} (hC : CodeAt w ao cs) (h1 : Below w.heap.size w u1) (hm : Made u1 u2 bx x) (t : ∀ k, u1.heap.size ≤ k → k < u2.heap.size → u3.heap[k]? = u2.heap[k]?) (hs : u2.heap.size ≤ u3.heap.size) (hb3 : Below w.heap.size w u3) (hd : DMade u3 u4 bd x ao cs) : Bgn w u4 bx bd x ao cs := by
  obtain ⟨z, F, r, m1, m2, m3⟩ := hm.at_
  obtain ⟨zd, qd, d0, d4, d1, d2, d3⟩ := hd.at_
  have s1 := h1.size
  have s3 := hb3.size
  have s2 := hm.bl.size
  have r3 : RawAt u3 bx x z none F (comC x) r := m1.keep ⟨hs, fun i hi => t i (m2 i hi) (m1.blw i hi)⟩ ⟨hs, fun i hi => t i (m3 i hi) (m1.blwK i hi)⟩
  have kr : Blw w zd.KR := by rw [d4]; exact krA_blw hC
  refine ⟨⟨z, F, r, zd, qd, r3.on hd.bl, m2.mono s1, m3.mono s1, d0, d1, d2.mono s3, d3.mono s3, d4, fun i hi y => ?_, fun i hi y => ?_⟩, hb3.trans (hd.bl.mono s3)⟩
  · have l1 := m1.blw i hi
    have l2 := m2 i hi
    have D2 : i ∈ bd :: Fr zd.br qd → u3.heap.size ≤ i := d2 i
    have D3 : i ∈ fpR zd.pa → u3.heap.size ≤ i := d3 i
    have D4 : i ∈ zd.KR → i < w.heap.size := kr i
    simp only [dAll, List.mem_cons, List.mem_append] at y D2
    rcases y with y | y | y | y
    · have := D2 (.inl y); omega
    · have := D2 (.inr y); omega
    · have := D4 y; omega
    · have := D3 y; omega
  · have l1 := m1.blwK i hi
    have := d2 i y
    omega
/-- what the law hands in: its parts -/
structure RideAt (W : World) (cs : List Ins) (l : List Nat) (ao po : Option Addr) (n k : Nat) : Prop where
  sh : Shaped5 W
  hn : cs.length = n
  hk : l.length = k
  code : CodeAt W ao cs
  args : FlAt W po l
  cx : ∀ i ∈ cs, i.x < 18446744073709551616
  lx : ∀ x ∈ l, x < 18446744073709551616
  nb : n * 24 ≤ 140737488355328
  kb : k * 8 ≤ 140737488355328
theorem ride_cells {w : World} {x : Nat} {a b c e th t : Int} {ao : Option Addr} {n cap : Nat} {po : Option Addr} {k co : Nat} {pw : Option Addr} {kw cw : Nat} {pp : Option Addr} {kp cp : Nat} (h : w.heap[x]? = some (.cells (rideV a b c e th t ao n cap po k co pw kw cw pp kp cp) 31 (0, 0))) : w.cell? ⟨x, 0, none⟩ = some (.int .i64 a) ∧ w.cell? ⟨x, 1, none⟩ = some (.int .i64 b) ∧ w.cell? ⟨x, 2, none⟩ = some (.int .i64 c) ∧ w.cell? ⟨x, 3, none⟩ = some (.int .i64 e) ∧ w.cell? ⟨x, 4, none⟩ = some (.int .i64 th) ∧ w.cell? ⟨x, 5, none⟩ = some (.int .i64 t) ∧ w.cell? ⟨x, 6, none⟩ = some (.slice ao n cap) ∧ w.cell? ⟨x, 7, none⟩ = some (.slice po k co) ∧ w.cell? ⟨x, 8, none⟩ = some (.slice pw kw cw) ∧ w.cell? ⟨x, 9, none⟩ = some (.slice pp kp cp) ∧ x < w.heap.size :=
  (cells10 h).1
section
variable {W : World} {a b c e th t : Int} {ao : Option Addr} {cs : List Ins} {n cap : Nat} {po : Option Addr} {l : List Nat} {k co : Nat} {pw : Option Addr} {kw cw : Nat} {pp : Option Addr} {kp cp : Nat}
attribute [local go_sem] run_store_float
set_option maxRecDepth 100000 in
set_option maxHeartbeats 4000000 in
theorem begun_any (h : RideAt W cs l ao po n k) : Calls Tryz.prog 10 #[.agg (rideV a b c e th t ao n cap po k co pw kw cw pp kp cp)] W fun r w' => ∃ q1 q2, r = .returned (.tuple #[.pointer q1, .pointer q2]) ∧ Hid ((mayX a b c e k th = true ∧ ∃ bx bd, q1 = some ⟨bx, 0, none⟩ ∧ q2 = some ⟨bd, 0, none⟩ ∧ Bgn W w' bx bd (newX a b c e t cs l th) ao cs) ∨ (mayX a b c e k th = false ∧ q1 = none ∧ q2 = none ∧ Below W.heap.size W w')) := by
  obtain ⟨i1, hi1, hz1, hs1, hb1⟩ := info_parts fInfo
  obtain ⟨i2, hi2, hz2, hs2, hb2⟩ := info_parts insInfo
  have HA1 : Hid (∀ u, Below W.heap.size W u → ∃ v w', (Builtin.append_ #[27, 27] 27 #[.slice none 0 0, .slice po k co]).run Tryz.prog u = .ok v w' ∧ ∃ p c, v = .slice p k c ∧ Cpy u.heap.size w' 71 1 p k c ∧ Ro w' p (fls l) ∧ Below u.heap.size u w') := fun u hu => by
    have hsrc := src_fl co (h.args.on hu)
    rw [h.hk] at hsrc
    have := app_nil (ty := 27) (i := i1) (z := .float .f64 0) Tryz.underlying27 hi1 hz1 (by rw [hs1]; rfl) (by rw [hs1]; exact hsrc) (by rw [hb1]; exact h.kb) (by have := h.kb; omega)
    rw [hs1] at this
    exact this
  have HA2 : Hid (∀ u, Below W.heap.size W u → ∃ v w', (Builtin.append_ #[24, 24] 24 #[.slice none 0 0, .slice ao n cap]).run Tryz.prog u = .ok v w' ∧ ∃ p c, v = .slice p n c ∧ Cpy u.heap.size w' 91 3 p n c ∧ Ro w' p (cs.flatMap insC) ∧ Below u.heap.size u w') := fun u hu => by
    have hsrc := src_code cap (h.code.on hu)
    rw [h.hn] at hsrc
    have := app_nil (ty := 24) (i := i2) (z := .agg #[.int .i64 0, .int .i64 0, .float .f64 0]) Tryz.underlying24 hi2 hz2 (by rw [hs2]; rfl) (by rw [hs2]; exact hsrc) (by rw [hb2]; exact h.nb) (by have := h.nb; omega)
    rw [hs2] at this
    exact this
  have H0 : Hid (Below W.heap.size W (W.alloc (.cells (rideV a b c e th t ao n cap po k co pw kw cw pp kp cp) 31)) ∧ (W.alloc (.cells (rideV a b c e th t ao n cap po k co pw kw cw pp kp cp) 31)).heap[W.heap.size]? = some (.cells (rideV a b c e th t ao n cap po k co pw kw cw pp kp cp) 31 (0, 0))) := ⟨below_alloc _ _, heap_alloc_new _ _⟩
  clear hi1 hz1 hs1 hb1 hi2 hz2 hs2 hb2 i1 i2
  go_enter Tryz.func10, Tryz.ntmps10
  go_upto_region 2 with (at_builtin; refine wpList_append_ex rfl _ _ 27 27 rfl (.slice none 0 0) (.slice po k co) rfl rfl (HA1.out _ H0.out.1) ?_; rintro v u1 ⟨p1, c1, rfl, q1, q2, q3⟩; have H1 : Hid (Cpy (W.heap.size + 1) u1 71 1 p1 k c1 ∧ FlAt u1 p1 l ∧ Below W.heap.size W u1 ∧ u1.heap[W.heap.size]? = some (.cells (rideV a b c e th t ao n cap po k co pw kw cw pp kp cp) 31 (0, 0))) := ⟨q1.mono (by simp), q2.fl, H0.out.1.trans (q3.mono H0.out.1.size), (q3.block _ (lt_of_block H0.out.2)).trans H0.out.2⟩; clear q1 q2 q3)
  go_cut [5] (fun v5 wc => ∃ g5 p2 c2, v5 = .pointer (some ⟨g5, 0, none⟩) ∧ Hid (Cpy (W.heap.size + 1) wc 91 3 p2 n c2 ∧ CodeAt wc p2 cs ∧ wc.heap[g5]? = some (prgO t p2 n c2) ∧ u1.heap.size ≤ g5 ∧ Below u1.heap.size u1 wc))
  case first =>
    obtain ⟨e0, e1, e2, e3, e4, e5, e6, e7, e8, e9, lb⟩ := ride_cells H1.out.2.2.2
    refine wp_region_two (fun u => u.cell? ⟨W.heap.size, 5, none⟩ = some (.int .i64 t) ∧ u.cell? ⟨W.heap.size, 6, none⟩ = some (.slice ao n cap)) [0, 1, 2, 3, 4, 5] 6 [(7, true), (8, false), (9, false)] 8 [(6, false), (7, true), (9, false)] Md.Cv.follows13 (by kernel_rfl) (fun _ _ _ _ _ h => h) ⟨e5, e6⟩ ?_
    repeat (refine wpTwo_take (v := ?_) rfl (by rfl) (fun wq hSq => ?_) ?_; rotate_left; (focus ((try dsimp only at hSq); go_simp; try with_reducible rfl)); simp only [Act.put, List.setIfInBounds_toArray, List.set_cons_zero, List.set_cons_succ])
    refine wpTwo_nil ?_ ?_
    · refine wpSeq_do rfl (by rfl) (fun KK hK => ?_)
      refine wp_append_ex _ _ 24 24 rfl (.slice none 0 0) (.slice ao n cap) rfl rfl (HA2.out _ (H1.out.2.2.1.trans ((Same.drew u1).below _))) ?_
      rintro v u2 ⟨p2, c2, rfl, q1, q2, q3⟩
      have q4 : Below u1.heap.size u1 u2 := ((Same.drew u1).below _).trans q3
      have ck : ∀ j v, u1.cell? ⟨W.heap.size, j, none⟩ = some v → u2.cell? ⟨W.heap.size, j, none⟩ = some v := fun j v hv => (q4.cell (p := ⟨W.heap.size, j, none⟩) lb).trans hv
      refine hK.out _ _ ⟨ck 5 _ e5, ck 6 _ e6⟩ ?_
      (clear hK KK; try simp only [Act.put, List.setIfInBounds_toArray, List.set_cons_zero, List.set_cons_succ])
      (repeat (first | (refine wpSeq_take (v := ?_) rfl (by rfl) (fun wq hSq => ?_) ?_; rotate_left; (focus ((try dsimp only at hSq); go_simp; try with_reducible rfl)); simp only [Act.put, List.setIfInBounds_toArray, List.set_cons_zero, List.set_cons_succ]) | (refine wpSeq_skip rfl (by rfl) ?_; simp only [Act.put, List.setIfInBounds_toArray, List.set_cons_zero, List.set_cons_succ])))
      (refine wpSeq_do rfl (by rfl) (fun KK hK => ?_); go_simp)
      have l2 : W.heap.size < u2.heap.size := Nat.lt_of_lt_of_le lb q4.size
      refine hK.out _ _ ⟨(World.cell?_alloc_old _ _ _ (Nat.ne_of_lt l2)).trans (ck 5 _ e5), (World.cell?_alloc_old _ _ _ (Nat.ne_of_lt l2)).trans (ck 6 _ e6)⟩ ?_
      (clear hK KK; try simp only [Act.put, List.setIfInBounds_toArray, List.set_cons_zero, List.set_cons_succ])
      (refine wpSeq_do rfl (by rfl) (fun KK hK => ?_); go_simp)
      refine hK.out _ _ ⟨(World.cell?_alloc_old _ _ _ (Nat.ne_of_lt l2)).trans (ck 5 _ e5), (World.cell?_alloc_old _ _ _ (Nat.ne_of_lt l2)).trans (ck 6 _ e6)⟩ ?_
      (clear hK KK; try simp only [Act.put])
      refine wpSeq_nil ?_
      have hs := H1.out.2.2.1.size
      have hl2 := lt_of_block H1.out.2.2.2
      have R : Hid (Cpy (W.heap.size + 1) (u2.alloc (prgO t p2 n c2)) 91 3 p2 n c2 ∧ CodeAt (u2.alloc (prgO t p2 n c2)) p2 cs ∧ (u2.alloc (prgO t p2 n c2)).heap[u2.heap.size]? = some (prgO t p2 n c2) ∧ u1.heap.size ≤ u2.heap.size ∧ Below u1.heap.size u1 (u2.alloc (prgO t p2 n c2))) := ⟨(q1.mono (show W.heap.size + 1 ≤ u1.drew.heap.size from hl2)).on (below_alloc _ _), (ro_code q2).on (below_alloc _ _), heap_alloc_new _ _, q4.size, q4.alloc q4.size _⟩
      go_wp2_with fail
      go_meet
      exact ⟨_, p2, c2, rfl, R.out⟩
    · (refine wpSeq_do rfl (by rfl) (fun KK hK => ?_); go_simp)
      obtain ⟨v1, hv1⟩ : ∃ v1, v1 = (u1.alloc (.cells #[.int .i64 0, .slice none 0 0] 26)).drew := ⟨_, rfl⟩
      have b1 : Below u1.heap.size u1 v1 := by rw [hv1]; exact (below_alloc _ _).trans ((Same.drew _).below _)
      have x1 : v1.heap[u1.heap.size]? = some (.cells #[.int .i64 0, .slice none 0 0] 26 (0, 0)) := by rw [hv1]; exact heap_alloc_new _ _
      rw [← hv1]
      clear hv1
      have ck : ∀ j v, u1.cell? ⟨W.heap.size, j, none⟩ = some v → v1.cell? ⟨W.heap.size, j, none⟩ = some v := fun j v hv => (b1.cell (p := ⟨W.heap.size, j, none⟩) lb).trans hv
      refine hK.out _ _ ⟨ck 5 _ e5, ck 6 _ e6⟩ ?_
      (clear hK KK; try simp only [Act.put, List.setIfInBounds_toArray, List.set_cons_zero, List.set_cons_succ])
      refine wpSeq_do rfl (by rfl) (fun KK hK => ?_)
      refine wp_append_ex _ _ 24 24 rfl (.slice none 0 0) (.slice ao n cap) rfl rfl (HA2.out _ (H1.out.2.2.1.trans (b1.mono H1.out.2.2.1.size))) ?_
      rintro v u2 ⟨p2, c2, rfl, q1, q2, q3⟩
      have q4 : Below u1.heap.size u1 u2 := b1.trans (q3.mono b1.size)
      have ck2 : ∀ j v, u1.cell? ⟨W.heap.size, j, none⟩ = some v → u2.cell? ⟨W.heap.size, j, none⟩ = some v := fun j v hv => (q4.cell (p := ⟨W.heap.size, j, none⟩) lb).trans hv
      have x2 : u2.heap[u1.heap.size]? = some (.cells #[.int .i64 0, .slice none 0 0] 26 (0, 0)) := (q3.block _ (lt_of_block x1)).trans x1
      obtain ⟨s0, s1, s2⟩ := cells2 x2
      have f0 := frozen_of_row u2 u1.heap.size 0 _ _ x2
      have f1 := frozen_of_row u2 u1.heap.size 1 _ _ x2
      refine hK.out _ _ ⟨ck2 5 _ e5, ck2 6 _ e6⟩ ?_
      (clear hK KK; try simp only [Act.put, List.setIfInBounds_toArray, List.set_cons_zero, List.set_cons_succ])
      (repeat (first | (refine wpSeq_take (v := ?_) rfl (by rfl) (fun wq hSq => ?_) ?_; rotate_left; (focus ((try dsimp only at hSq); go_simp; try with_reducible rfl)); simp only [Act.put, List.setIfInBounds_toArray, List.set_cons_zero, List.set_cons_succ]) | (refine wpSeq_skip rfl (by rfl) ?_; simp only [Act.put, List.setIfInBounds_toArray, List.set_cons_zero, List.set_cons_succ])))
      (refine wpSeq_do rfl (by rfl) (fun KK hK => ?_); go_simp)
      have ne : W.heap.size ≠ u1.heap.size := Nat.ne_of_lt lb
      have x3 : ((u2.setCell ⟨u1.heap.size, 0, none⟩ (.int .i64 t)).setCell ⟨u1.heap.size, 1, none⟩ (.slice p2 n c2)).heap[u1.heap.size]? = some (prgO t p2 n c2) := by
        have a1 := (heap_setCell_same u2 u1.heap.size 0 _ _ (.int .i64 t) x2).trans (show _ = some (Obj.cells #[.int .i64 t, .slice none 0 0] 26) from rfl)
        exact (heap_setCell_same _ u1.heap.size 1 _ _ (.slice p2 n c2) a1).trans rfl
      have oth : ∀ y, y ≠ u1.heap.size → ((u2.setCell ⟨u1.heap.size, 0, none⟩ (.int .i64 t)).setCell ⟨u1.heap.size, 1, none⟩ (.slice p2 n c2)).heap[y]? = u2.heap[y]? := fun y hy => (heap_setCell_other _ _ _ _ hy).trans (heap_setCell_other _ _ _ _ hy)
      refine hK.out _ _ ⟨(Md.Cv.cell_kept (oth _ ne) 5).trans (ck2 5 _ e5), (Md.Cv.cell_kept (oth _ ne) 6).trans (ck2 6 _ e6)⟩ ?_
      (clear hK KK; try simp only [Act.put])
      refine wpSeq_nil ?_
      have hl1 := lt_of_block x1
      have hc2 : CodeAt ((u2.setCell ⟨u1.heap.size, 0, none⟩ (.int .i64 t)).setCell ⟨u1.heap.size, 1, none⟩ (.slice p2 n c2)) p2 cs := by
        rcases q1 with ⟨r1, r2⟩ | ⟨g, arr, r1, r0, _⟩
        · have := h.hn
          intro i hi
          omega
        · refine (ro_code q2).keep ⟨by simp, fun i hi => oth i ?_⟩
          rw [r1] at hi
          simp [fpR] at hi
          omega
      have R : Hid (Cpy (W.heap.size + 1) ((u2.setCell ⟨u1.heap.size, 0, none⟩ (.int .i64 t)).setCell ⟨u1.heap.size, 1, none⟩ (.slice p2 n c2)) 91 3 p2 n c2 ∧ CodeAt ((u2.setCell ⟨u1.heap.size, 0, none⟩ (.int .i64 t)).setCell ⟨u1.heap.size, 1, none⟩ (.slice p2 n c2)) p2 cs ∧ ((u2.setCell ⟨u1.heap.size, 0, none⟩ (.int .i64 t)).setCell ⟨u1.heap.size, 1, none⟩ (.slice p2 n c2)).heap[u1.heap.size]? = some (prgO t p2 n c2) ∧ u1.heap.size ≤ u1.heap.size ∧ Below u1.heap.size u1 ((u2.setCell ⟨u1.heap.size, 0, none⟩ (.int .i64 t)).setCell ⟨u1.heap.size, 1, none⟩ (.slice p2 n c2))) := ⟨((q1.mono (by omega)).put _ _ _).put _ _ _, hc2, x3, Nat.le_refl _, (q4.setCell (Nat.le_refl _) _).setCell (Nat.le_refl _) _⟩
      go_wp2_with fail
      go_meet
      exact ⟨_, p2, c2, rfl, R.out⟩
  case rest =>
    obtain ⟨g5, p2, c2, rfl, H2⟩ := hcut
    have B2 : Hid (Below W.heap.size W wc ∧ wc.heap[W.heap.size]? = some (.cells (rideV a b c e th t ao n cap po k co pw kw cw pp kp cp) 31 (0, 0)) ∧ Cpy (W.heap.size + 1) wc 71 1 p1 k c1 ∧ FlAt wc p1 l) := ⟨H1.out.2.2.1.trans (H2.out.2.2.2.2.mono H1.out.2.2.1.size), (H2.out.2.2.2.2.block _ (lt_of_block H1.out.2.2.2)).trans H1.out.2.2.2, H1.out.1.on H2.out.2.2.2.2, H1.out.2.1.on H2.out.2.2.2.2⟩
    have HN : Hid (Calls Tryz.prog 35 #[cfgV a b c e, .int .i64 th, .agg #[.int .i64 t, .slice p2 n c2], .slice p1 k c1] wc fun r w' => ∃ q, r = .returned (.pointer q) ∧ Hid ((mayX a b c e k th = true ∧ ∃ bx, q = some ⟨bx, 0, none⟩ ∧ Made wc w' bx (newX a b c e t cs l th)) ∨ (mayX a b c e k th = false ∧ q = none ∧ Below wc.heap.size wc w'))) := by
      have nl : n ≤ 9223372036854775807 := by have := h.nb; omega
      unfold mayX
      cases hm : (Md.cfgB a b c e && decide (k ≤ 8))
      · exact (new_nil hm).mono fun r w' q => ⟨none, q.1, .inr ⟨by simp, rfl, q.2⟩⟩
      · have hm' : Md.cfgB a b c e = true ∧ k ≤ 8 := by simpa using hm
        by_cases ht : 0 ≤ th ∧ th < b
        · exact (new_yes hm'.1 h.hn h.hk hm'.2 (h.sh.on B2.out.1) H2.out.2.1 B2.out.2.2.2 nl ht.1 ht.2).mono fun r w' q => by obtain ⟨bx, q1, q2⟩ := q; exact ⟨_, q1, .inl ⟨by simp [ht], bx, rfl, q2⟩⟩
        · exact (new_out hm'.1 h.hn h.hk hm'.2 (h.sh.on B2.out.1) H2.out.2.1 B2.out.2.2.2 nl ht).mono fun r w' q => ⟨none, q.1, .inr ⟨by simp [ht], rfl, q.2⟩⟩
    have HD : Hid (∀ u, Below W.heap.size W u → Calls Tryz.prog 37 #[cfgV a b c e, .int .i64 th, .agg #[.int .i64 t, .slice ao n cap], .slice po k co] u fun r w' => ∃ q, r = .returned (.pointer q) ∧ Hid ((mayX a b c e k th = true ∧ ∃ bd, q = some ⟨bd, 0, none⟩ ∧ DMade u w' bd (newX a b c e t cs l th) ao cs) ∨ (mayX a b c e k th = false ∧ q = none ∧ Below u.heap.size u w'))) := fun u hu => by
      have nl : n ≤ 9223372036854775807 := by have := h.nb; omega
      unfold mayX
      cases hm : (Md.cfgB a b c e && decide (k ≤ 8))
      · exact (dnew_nil hm).mono fun r w' q => ⟨none, q.1, .inr ⟨by simp, rfl, q.2⟩⟩
      · have hm' : Md.cfgB a b c e = true ∧ k ≤ 8 := by simpa using hm
        by_cases ht : 0 ≤ th ∧ th < b
        · exact (dnew_yes hm'.1 h.hn h.hk hm'.2 (h.code.on hu) (h.args.on hu) nl ht.1 ht.2).mono fun r w' q => by obtain ⟨bx, q1, q2⟩ := q; exact ⟨_, q1, .inl ⟨by simp [ht], bx, rfl, q2⟩⟩
        · exact (dnew_out hm'.1 h.hn h.hk hm'.2 (h.code.on hu) (h.args.on hu) nl ht).mono fun r w' q => ⟨none, q.1, .inr ⟨by simp [ht], rfl, q.2⟩⟩
    have HCO : Hid (CodeAt W ao cs) := h.code
    have hkl : k ≤ 140737488355328 := by have := h.kb; omega
    have hnl : n ≤ 140737488355328 := by have := h.nb; omega
    obtain ⟨e0, e1, e2, e3, e4, e5, e6, e7, e8, e9, lb⟩ := ride_cells B2.out.2.1
    obtain ⟨s0, s1, s2⟩ := cells2 H2.out.2.2.1
    clear HA1 HA2 H0 h
    go_wp2_with (go_at_call 35; refine HN.out.mono ?_; rintro r u2 ⟨qx, rfl, HX⟩; clear HN)
    have HSZ : Hid (wc.heap.size ≤ u2.heap.size ∧ Below wc.heap.size wc u2) := by
      rcases HX.out with ⟨_, bx, _, hm⟩ | ⟨_, _, hb⟩
      · exact ⟨hm.bl.size, hm.bl⟩
      · exact ⟨hb.size, hb⟩
    have HC1 : Hid (Cpy (W.heap.size + 1) u2 71 1 p1 k c1) := B2.out.2.2.1.on HSZ.out.2
    go_loopw [29] (fun vi wr => ∃ i : Nat, vi = .int .i64 i ∧ i ≤ k ∧ Hid (Cpy (W.heap.size + 1) wr 71 1 p1 k c1 ∧ Turn (fpR p1) (fpR p1) u2 wr)) (fun vi _ => k - (intOf vi).toNat)
    case atStart => exact ⟨0, rfl, Nat.zero_le _, HC1.out, Turn.refl _ _⟩
    case round =>
      obtain ⟨i, rfl, hi, HR⟩ := hrel
      by_cases hlt : i < k
      · have hlt' : (i : Int) < (k : Int) := by omega
        obtain ⟨g, hp, hB, hg, hc⟩ := HR.out.1.at_ hlt
        obtain ⟨⟨v0, c0⟩, f0⟩ := hc 0 (by omega)
        rw [Nat.mul_one, Nat.add_zero] at c0 f0
        have HZ : Hid (Cpy (W.heap.size + 1) (wr.setCell ⟨g, i, none⟩ (.float .f64 13858561215837503488)) 71 1 p1 k c1 ∧ Turn (fpR p1) (fpR p1) u2 (wr.setCell ⟨g, i, none⟩ (.float .f64 13858561215837503488))) := ⟨HR.out.1.put _ _ _, HR.out.2.trans (by rw [hp]; exact turn_set wr g i _)⟩
        subst hp
        go_wp2_with fail
        exact ⟨⟨i + 1, by first | rfl | (congr 1), by omega, HZ.out⟩, by simp [intOf]; omega⟩
      · have hlt' : ¬ (i : Int) < (k : Int) := by omega
        obtain ⟨wo, rfl⟩ : ∃ wo : World, wo = wr := ⟨_, rfl⟩
        have HW1 : Hid (Turn (fpR p1) (fpR p1) u2 wo) := HR.out.2
        have HL1 : Hid (∀ j ∈ fpR p1, W.heap.size + 1 ≤ j ∧ j < wc.heap.size ∧ j ≠ g5) := fun j hj => by
          rcases B2.out.2.2.1 with ⟨r1, _⟩ | ⟨g, arr, r1, r0, r2, _⟩
          · rw [r1] at hj; simp [fpR] at hj
          · rw [r1] at hj
            simp [fpR] at hj
            subst hj
            exact ⟨r0, lt_of_block r2, Md.Cv.ne_ty r2 H2.out.2.2.1 (by decide)⟩
        have HL2 : Hid (∀ j ∈ fpR p2, W.heap.size + 1 ≤ j ∧ j < wc.heap.size ∧ j ≠ g5 ∧ j ∉ fpR p1) := fun j hj => by
          rcases H2.out.1 with ⟨r1, _⟩ | ⟨g, arr, r1, r0, r2, _⟩
          · rw [r1] at hj; simp [fpR] at hj
          · rw [r1] at hj
            simp [fpR] at hj
            subst hj
            refine ⟨r0, lt_of_block r2, Md.Cv.ne_ty r2 H2.out.2.2.1 (by decide), fun y => ?_⟩
            rcases B2.out.2.2.1 with ⟨q1, _⟩ | ⟨g', arr', q1, q0, q2, _⟩
            · rw [q1] at y; simp [fpR] at y
            · rw [q1] at y
              simp [fpR] at y
              subst y
              exact Md.Cv.ne_ty r2 q2 (by decide) rfl
        have HG5 : Hid (g5 < wc.heap.size) := s2
        have HBX : Hid (wo.heap[g5]? = some (prgO t p2 n c2)) := (HW1.out.block g5 (Nat.lt_of_lt_of_le HG5.out HSZ.out.1) (fun y => (HL1.out g5 y).2.2 rfl)).trans ((HSZ.out.2.block g5 HG5.out).trans H2.out.2.2.1)
        have HC2 : Hid (Cpy (W.heap.size + 1) wo 91 3 p2 n c2) := by
          have c2' := H2.out.1.on HSZ.out.2
          rcases c2' with r | ⟨g, arr, r1, r0, r2, r3⟩
          · exact .inl r
          · refine .inr ⟨g, arr, r1, r0, (HW1.out.block g (lt_of_block r2) (fun y => ?_)).trans r2, r3⟩
            exact (HL2.out g (by rw [r1]; simp [fpR])).2.2.2 y
        obtain ⟨z0, z1, z2⟩ := cells2 HBX.out
        clear HR
        go_wp2_with fail
        go_loopw [39] (fun vi wr => ∃ i : Nat, vi = .int .i64 i ∧ i ≤ n ∧ Hid (Cpy (W.heap.size + 1) wr 91 3 p2 n c2 ∧ Turn (fpR p2) (fpR p2) wo wr)) (fun vi _ => n - (intOf vi).toNat)
        case atStart => exact ⟨0, rfl, Nat.zero_le _, HC2.out, Turn.refl _ _⟩
        case round =>
          obtain ⟨i2, rfl, hi2, HR2⟩ := hrel
          have HB5 : Hid (wr.heap[g5]? = some (prgO t p2 n c2)) := (HR2.out.2.block g5 (lt_of_block HBX.out) (fun y => (HL2.out g5 y).2.2.1 rfl)).trans HBX.out
          obtain ⟨y0, y1, y2⟩ := cells2 HB5.out
          by_cases hlt2 : i2 < n
          · have hlt2' : (i2 : Int) < (n : Int) := by omega
            obtain ⟨g, hp, hB, hg, hc⟩ := HR2.out.1.at_ hlt2
            obtain ⟨⟨v0, k0⟩, f0⟩ := hc 0 (by omega)
            obtain ⟨⟨v1, k1⟩, f1⟩ := hc 1 (by omega)
            obtain ⟨⟨v2, k2⟩, f2⟩ := hc 2 (by omega)
            rw [Nat.add_zero] at k0 f0
            have HZ : Hid (Cpy (W.heap.size + 1) (((wr.setCell ⟨g, i2 * 3, none⟩ (.int .i64 19)).setCell ⟨g, i2 * 3 + 1, none⟩ (.int .i64 50)).setCell ⟨g, i2 * 3 + 2, none⟩ (.float .f64 0)) 91 3 p2 n c2 ∧ Turn (fpR p2) (fpR p2) wo (((wr.setCell ⟨g, i2 * 3, none⟩ (.int .i64 19)).setCell ⟨g, i2 * 3 + 1, none⟩ (.int .i64 50)).setCell ⟨g, i2 * 3 + 2, none⟩ (.float .f64 0))) := ⟨((HR2.out.1.put _ _ _).put _ _ _).put _ _ _, HR2.out.2.trans (by rw [hp]; exact ((turn_set wr g _ _).trans (turn_set _ g _ _)).trans (turn_set _ g _ _))⟩
            subst hp
            clear hc HR2 HB5
            go_wp2_with fail
            exact ⟨⟨i2 + 1, by first | rfl | (congr 1), by omega, HZ.out⟩, by simp [intOf]; omega⟩
          · have hlt2' : ¬ (i2 : Int) < (n : Int) := by omega
            have T2 : Hid (Turn (fpR p1 ++ fpR p2) (fpR p1 ++ fpR p2) u2 wr) := turn_of (L := fpR p1 ++ fpR p2) (HR2.out.2.os.trans HW1.out.os) (HR2.out.2.tape.trans HW1.out.tape) (HR2.out.2.output.trans HW1.out.output) (Nat.le_trans HW1.out.size HR2.out.2.size) (fun _ y => y) fun j hj hn => (HR2.out.2.block j (Nat.lt_of_lt_of_le hj HW1.out.size) (fun y => hn (List.mem_append.2 (.inr y)))).trans (HW1.out.block j hj (fun y => hn (List.mem_append.2 (.inl y))))
            have LL : Hid (∀ j ∈ fpR p1 ++ fpR p2, W.heap.size + 1 ≤ j ∧ j < wc.heap.size) := fun j hj => by
              rcases List.mem_append.1 hj with y | y
              · exact ⟨(HL1.out j y).1, (HL1.out j y).2.1⟩
              · exact ⟨(HL2.out j y).1, (HL2.out j y).2.1⟩
            have BW : Hid (Below W.heap.size W u2) := B2.out.1.trans (HSZ.out.2.mono B2.out.1.size)
            have BE : Hid (Below W.heap.size W wr) := ⟨T2.out.os.trans BW.out.os, T2.out.tape.trans BW.out.tape, T2.out.output.trans BW.out.output, Nat.le_trans BW.out.size T2.out.size, fun j hj => (T2.out.block j (Nat.lt_of_lt_of_le hj BW.out.size) (fun y => by have := (LL.out j y).1; omega)).trans (BW.out.block j hj)⟩
            have XR : Hid (wr.heap[W.heap.size]? = some (.cells (rideV a b c e th t ao n cap po k co pw kw cw pp kp cp) 31 (0, 0))) := (T2.out.block _ (Nat.lt_of_lt_of_le (lt_of_block B2.out.2.1) HSZ.out.1) (fun y => by have := (LL.out _ y).1; omega)).trans ((HSZ.out.2.block _ (lt_of_block B2.out.2.1)).trans B2.out.2.1)
            obtain ⟨x0, x1, x2, x3, x4, x5, x6, x7, x8, x9, xb⟩ := ride_cells XR.out
            clear HR2 HB5 HL1 HL2
            go_wp2_with (go_at_call 37; refine (HD.out _ BE.out).mono ?_; rintro r u4 ⟨qd, rfl, HY⟩; clear HD)
            go_ret2
            refine ⟨qx, qd, rfl, ?_⟩
            rcases HX.out with ⟨m1, bx, rfl, hm⟩ | ⟨m1, rfl, hb⟩
            · rcases HY.out with ⟨_, bd, rfl, hd⟩ | ⟨m2, _⟩
              · exact .inl ⟨m1, bx, bd, rfl, rfl, bgn_of HCO.out B2.out.1 hm (fun j hj hl => T2.out.block j hl (fun y => by have := (LL.out j y).2; omega)) T2.out.size BE.out hd⟩
              · rw [m1] at m2
                cases m2
            · rcases HY.out with ⟨m2, _⟩ | ⟨_, rfl, hd⟩
              · rw [m1] at m2
                cases m2
              · exact .inr ⟨m1, rfl, rfl, BE.out.trans (hd.mono BE.out.size)⟩
end
end Go.Proofs.YtninicfnhoediaaGreatDoor.Rr
namespace Go.Proofs.YtninicfnhoediaaGreatDoor.Rr
open Go.ChangeShapes Go.WideShapes Go.ChangeAt Go.RowKit Num
theorem RideAt.on {W w : World} {cs : List Ins} {l : List Nat} {ao po : Option Addr} {n k : Nat} (h : RideAt W cs l ao po n k) (q : Below W.heap.size W w) : RideAt w cs l ao po n k := ⟨h.sh.on q, h.hn, h.hk, h.code.on q, h.args.on q, h.cx, h.lx, h.nb, h.kb⟩
theorem RideAt.inX {W : World} {a b c e t th : Int} {cs : List Ins} {l : List Nat} {ao po : Option Addr} {n k : Nat} (h : RideAt W cs l ao po n k) (hm : mayX a b c e k th = true) : InX (newX a b c e t cs l th) := by
  simp only [mayX, Bool.and_eq_true, decide_eq_true_eq] at hm
  refine new_in hm.1.1 (fun j hj => ?_) h.lx (by rw [h.hk]; exact hm.1.2) hm.2
  refine h.cx _ ?_
  have : ci cs j = cs[j] := by simp [ci, hj]
  rw [this]
  exact List.getElem_mem hj
/-- a reader that was made, and a memory made behind it -/
theorem full_of {W w u : World} {bx mb mg : Nat} {x : Rx} {z : Rz} {F : List Nat} {r : Md.Ce.Rd} {ws : List Int} {o : Bool} {n : Int} (h : RawAt w bx x z none F (comC x) r) (a1 : Abv W.heap.size (gX bx z none F)) (hW : Below W.heap.size W w) (hm : MemAt 123 u mb mg ws o n) (hb : Below w.heap.size w u) (ab : w.heap.size ≤ mb) (ag : w.heap.size ≤ mg) (hc : x.cell < 0) : Full u (mb :: mg :: gX bx z none F) bx z mb mg u x ws o n ∧ Turn [] (mb :: mg :: gX bx z none F) W u := by
  have hs := hW.size
  refine ⟨⟨none, r, ⟨F, h.on hb, hm, fun i hi y => ?_, fun i hi y => ?_, Turn.refl _ _⟩, .inl ⟨rfl, hc⟩⟩, ?_⟩
  · have := h.blw i y
    simp only [List.mem_cons, List.not_mem_nil, or_false] at hi
    omega
  · have := h.blwK i y
    simp only [List.mem_cons, List.not_mem_nil, or_false] at hi
    omega
  · refine (Below.turn (hW.trans (hb.mono hs)) []).mono fun i hi => .inr ?_
    simp only [List.mem_cons] at hi
    rcases hi with hi | hi | hi
    · omega
    · omega
    · have := a1 i hi; omega
/-- the steps that a deed tells -/
theorem deed_steps (t : Int) (na : Nat) (m : Mac) (D : Dd) (mk e0 e1 e2 st : Int) (w : World) : (Instr.field 61 (.agg (dC t na m D mk e0 e1 e2 st)) 13).run Tryz.prog w = .ok (.int .i64 st) w := by kernel_rfl
end Go.Proofs.YtninicfnhoediaaGreatDoor.Rr
namespace Go.Proofs.YtninicfnhoediaaGreatDoor.Rr
open Go.ChangeShapes Go.WideShapes Go.ChangeAt Go.RowKit Go.Deep
theorem cellsW : Tryz.prog.cellsOf 53 = 1 := by kernel_rfl
theorem cellsI : Tryz.prog.cellsOf 3 = 1 := by kernel_rfl
theorem cellsIns : Tryz.prog.cellsOf 91 = 3 := by kernel_rfl
theorem cellsPk : Tryz.prog.cellsOf 98 = 2 := by kernel_rfl
theorem cellsCf : Tryz.prog.cellsOf 23 = 4 := by kernel_rfl
theorem cellsPg : Tryz.prog.cellsOf 26 = 2 := by kernel_rfl
theorem cellsLI : Tryz.prog.cellsOf 24 = 1 := by kernel_rfl
theorem cellsLF : Tryz.prog.cellsOf 27 = 1 := by kernel_rfl
theorem cellsLW : Tryz.prog.cellsOf 28 = 1 := by kernel_rfl
theorem cellsLP : Tryz.prog.cellsOf 29 = 1 := by kernel_rfl
theorem cellsRi : Tryz.prog.cellsOf 31 = 10 := by kernel_rfl
theorem bytesI : Tryz.prog.bytesOf 91 = 24 := by kernel_rfl
theorem u64_of {z : Int} (h : (Lit.int .u64 z).wf = true) : u64B z := by
  simp [Lit.wf, IntKind.min, IntKind.max, IntKind.signed, IntKind.bits] at h
  exact ⟨by omega, by omega⟩
theorem i64_of {z : Int} (h : (Lit.int .i64 z).wf = true) : -9223372036854775808 ≤ z ∧ z ≤ 9223372036854775807 := by
  simp [Lit.wf, IntKind.min, IntKind.max, IntKind.signed, IntKind.bits] at h
  exact ⟨by omega, by omega⟩
/-- words, wherever they lie; pokes -/
def UAt (w : World) (p : Option Addr) (l : List Int) : Prop :=
  ∀ i, i < l.length → ∃ g o, p = some ⟨g, o, none⟩ ∧ g < w.heap.size ∧ w.cell? ⟨g, o + i, none⟩ = some (.int .u64 (l.getD i 0))
theorem UAt.on {w w' : World} {p : Option Addr} {l : List Int} (h : UAt w p l) (k : Below w.heap.size w w') : UAt w' p l := fun i hi => by
  obtain ⟨g, o, h1, h2, h3⟩ := h i hi
  exact ⟨g, o, h1, Nat.lt_of_lt_of_le h2 k.size, (k.cell (p := ⟨g, o + i, none⟩) h2).trans h3⟩
def PkAt (w : World) (p : Option Addr) (l : List (Int × Int)) : Prop :=
  ∀ i, i < l.length → ∃ g o, p = some ⟨g, o, none⟩ ∧ g < w.heap.size ∧ w.cell? ⟨g, o + i * 2, none⟩ = some (.int .i64 (l.getD i (0, 0)).1) ∧ w.cell? ⟨g, o + i * 2 + 1, none⟩ = some (.int .u64 (l.getD i (0, 0)).2)
theorem PkAt.on {w w' : World} {p : Option Addr} {l : List (Int × Int)} (h : PkAt w p l) (k : Below w.heap.size w w') : PkAt w' p l := fun i hi => by
  obtain ⟨g, o, h1, h2, h3, h4⟩ := h i hi
  exact ⟨g, o, h1, Nat.lt_of_lt_of_le h2 k.size, (k.cell (p := ⟨g, o + i * 2, none⟩) h2).trans h3, (k.cell (p := ⟨g, o + i * 2 + 1, none⟩) h2).trans h4⟩
section
variable {H : Type} {enc : TypeId × Value → H}
set_option maxRecDepth 100000 in
theorem open_codeT {W : World} {fuel : Nat} {cs : List Value} {x : DataW H × List MemPlace} (hf : DataW.trod enc Tryz.prog W 0 (fun _ => true) true fuel 24 cs = some x) :
    ∃ (ao : Option Addr) (c : List Ins) (cap : Nat), cs = [.slice ao c.length cap] ∧ (∀ i ∈ c, i.x < 18446744073709551616) ∧ CodeAt W ao c ∧ ((∀ z ∈ x.1.weights Tryz.prog 24, z ≤ reachBytes) → c.length * 24 ≤ reachBytes) := by
  rcases open_slice Tryz.underlying24 hf with ⟨hcs, _⟩ | ⟨a, len, cap, m, n, D, Pl, hcs, _, hl, hm, hmm, hd, hx⟩
  · exact ⟨none, [], 0, hcs, fun i hi => (by cases hi), fun i hi => absurd hi (Nat.not_lt_zero i), fun _ => by simp⟩
  · simp only [if_true] at hmm
    have hd1 : x.1 = .slice ((List.range len).map D) ((List.range (m - len)).map fun j => D (len + j)) := congrArg Prod.fst hd
    obtain ⟨b, off, spot⟩ := a
    have hs : 0 < len → spot = none := by
      intro h0
      obtain ⟨cs', h1, _⟩ := hx 0 (by omega)
      rw [cellsIns] at h1
      obtain ⟨_, hlen, hcell⟩ := World.cells?_some h1
      match cs', hlen with
      | [c0, c1, c2], _ =>
        have f0 := hcell 0 (by omega)
        simpa [Addr.add] using World.cell?_spot f0
    have each : ∀ i, i < len → ∃ q : Ins, spot = none ∧ b < W.heap.size ∧ q.x < 18446744073709551616 ∧ W.cell? ⟨b, off + i * 3, none⟩ = some (.int .i64 q.op) ∧ W.cell? ⟨b, off + i * 3 + 1, none⟩ = some (.int .i64 q.n) ∧ W.cell? ⟨b, off + i * 3 + 2, none⟩ = some (.float .f64 q.x) := by
      intro i hi
      obtain ⟨cs', h1, h2⟩ := hx i (by omega)
      rw [cellsIns] at h1
      obtain ⟨_, hlen, hcell⟩ := World.cells?_some h1
      obtain ⟨xs, k, _, _, _, hxl, hg⟩ := DataW.trod_struct Tryz.underlying91 h2
      match xs, hxl, cs', hlen with
      | [y0, y1, y2], _, [c0, c1, c2], _ =>
        have g0 := hg 0 _ rfl
        have g1 := hg 1 _ rfl
        have g2 := hg 2 _ rfl
        simp [cellsI, cellsF] at g0 g1 g2
        obtain ⟨x0, e0, _, _⟩ := DataW.trod_int Tryz.underlying3 g0
        obtain ⟨x1, e1, _, _⟩ := DataW.trod_int Tryz.underlying3 g1
        obtain ⟨x2, e2, hx2⟩ := trod_f64 g2
        simp at e0 e1 e2
        subst e0 e1 e2
        have f0 := hcell 0 (by omega)
        have f1 := hcell 1 (by omega)
        have f2 := hcell 2 (by omega)
        rw [add_add] at f0 f1 f2
        have hspot := hs (by omega)
        subst hspot
        rw [Go.WideShapes.add_plain] at f0 f1 f2
        exact ⟨⟨x0, x1, x2⟩, rfl, World.block_lt_of_cell? W _ f0, hx2, f0, f1, f2⟩
    have : Inhabited Ins := ⟨⟨0, 0, 0⟩⟩
    obtain ⟨q, hq⟩ := choose_lt each
    have hcl : ((List.range len).map q).length = len := by simp
    have hci : ∀ i, i < len → ci ((List.range len).map q) i = q i := fun i hi => by
      unfold ci
      simp [List.getD_eq_getElem?_getD, hi]
    refine ⟨some ⟨b, off, spot⟩, (List.range len).map q, cap, by rw [hcl]; exact hcs, fun i hi => ?_, fun i hi => ?_, fun hz => ?_⟩
    · obtain ⟨j, hj, rfl⟩ := List.mem_map.1 hi
      exact (hq j (List.mem_range.1 hj)).2.2.1
    · rw [hcl] at hi
      rw [hci i hi]
      obtain ⟨rfl, h2, _, r⟩ := hq i hi
      exact ⟨b, off, rfl, h2, r⟩
    · have := hz ((len + (m - len)) * 24) (by
        rw [hd1]
        simp [DataW.weights, Tryz.underlying24, bytesI])
      rw [hcl]
      omega
set_option maxRecDepth 100000 in
theorem open_flsT {W : World} {fuel : Nat} {cs : List Value} {x : DataW H × List MemPlace} (hf : DataW.trod enc Tryz.prog W 0 (fun _ => true) true fuel 27 cs = some x) :
    ∃ (ao : Option Addr) (l : List Nat) (cap : Nat), cs = [.slice ao l.length cap] ∧ (∀ y ∈ l, y < 18446744073709551616) ∧ FlAt W ao l ∧ ((∀ z ∈ x.1.weights Tryz.prog 27, z ≤ reachBytes) → l.length * 8 ≤ reachBytes) := by
  rcases open_slice1 Tryz.underlying27 cellsF hf with ⟨hcs, _⟩ | ⟨a, len, cap, m, n, V, D, Pl, hcs, _, hl, hm, hmm, hd, hx⟩
  · exact ⟨none, [], 0, hcs, fun y hy => (by cases hy), fun i hi => absurd hi (Nat.not_lt_zero i), fun _ => by simp⟩
  · simp only [if_true] at hmm
    have hd1 : x.1 = .slice ((List.range len).map D) ((List.range (m - len)).map fun j => D (len + j)) := congrArg Prod.fst hd
    obtain ⟨b, off, spot⟩ := a
    have hs : 0 < len → spot = none := by
      intro h0
      obtain ⟨h1, _⟩ := hx 0 (by omega)
      simpa [Addr.add] using World.cell?_spot h1
    have each : ∀ i, i < len → ∃ q : Nat, spot = none ∧ b < W.heap.size ∧ q < 18446744073709551616 ∧ W.cell? ⟨b, off + i, none⟩ = some (.float .f64 q) := by
      intro i hi
      obtain ⟨h1, h2⟩ := hx i (by omega)
      obtain ⟨q, e, hq⟩ := trod_f64 h2
      simp at e
      rw [e] at h1
      have hs := hs (by omega)
      subst hs
      rw [Go.WideShapes.add_plain] at h1
      exact ⟨q, rfl, World.block_lt_of_cell? W _ h1, hq, h1⟩
    obtain ⟨q, hq⟩ := choose_lt each
    have hlen : ((List.range len).map q).length = len := by simp
    have hget : ∀ i, i < len → ((List.range len).map q).getD i 0 = q i := fun i hi => by simp [hi]
    refine ⟨some ⟨b, off, spot⟩, (List.range len).map q, cap, by rw [hlen]; exact hcs, fun y hy => ?_, fun i hi => ?_, fun hz => ?_⟩
    · obtain ⟨j, hj, rfl⟩ := List.mem_map.1 hy
      exact (hq j (List.mem_range.1 hj)).2.2.1
    · rw [hlen] at hi
      obtain ⟨rfl, r1, _, r3⟩ := hq i hi
      exact ⟨b, off, rfl, r1, by rw [hget i hi]; exact r3⟩
    · have := hz ((len + (m - len)) * 8) (by
        rw [hd1]
        simp [DataW.weights, Tryz.underlying27, bytesF])
      rw [hlen]
      omega
set_option maxRecDepth 100000 in
theorem open_wordsT {W : World} {fuel : Nat} {cs : List Value} {x : DataW H × List MemPlace} (hf : DataW.trod enc Tryz.prog W 0 (fun _ => true) true fuel 28 cs = some x) :
    ∃ (ao : Option Addr) (l : List Int) (cap : Nat), cs = [.slice ao l.length cap] ∧ okW l ∧ UAt W ao l ∧ l.length ≤ 9223372036854775807 := by
  rcases open_slice1 Tryz.underlying28 cellsW hf with ⟨hcs, _⟩ | ⟨a, len, cap, m, n, V, D, Pl, hcs, _, hl, hm, hmm, hd, hx⟩
  · exact ⟨none, [], 0, hcs, fun y hy => (by cases hy), fun i hi => absurd hi (Nat.not_lt_zero i), Nat.zero_le _⟩
  · simp only [if_true] at hmm
    obtain ⟨b, off, spot⟩ := a
    have hs : 0 < len → spot = none := by
      intro h0
      obtain ⟨h1, _⟩ := hx 0 (by omega)
      simpa [Addr.add] using World.cell?_spot h1
    have each : ∀ i, i < len → ∃ q : Int, spot = none ∧ b < W.heap.size ∧ u64B q ∧ W.cell? ⟨b, off + i, none⟩ = some (.int .u64 q) := by
      intro i hi
      obtain ⟨h1, h2⟩ := hx i (by omega)
      obtain ⟨q, e, _, hq⟩ := DataW.trod_int Tryz.underlying53 h2
      simp at e
      rw [e] at h1
      have hs := hs (by omega)
      subst hs
      rw [Go.WideShapes.add_plain] at h1
      exact ⟨q, rfl, World.block_lt_of_cell? W _ h1, u64_of hq, h1⟩
    obtain ⟨q, hq⟩ := choose_lt each
    have hlen : ((List.range len).map q).length = len := by simp
    have hget : ∀ i, i < len → ((List.range len).map q).getD i 0 = q i := fun i hi => by simp [hi]
    refine ⟨some ⟨b, off, spot⟩, (List.range len).map q, cap, by rw [hlen]; exact hcs, fun y hy => ?_, fun i hi => ?_, by rw [hlen]; exact Nat.le_trans hl hm⟩
    · obtain ⟨j, hj, rfl⟩ := List.mem_map.1 hy
      exact (hq j (List.mem_range.1 hj)).2.2.1
    · rw [hlen] at hi
      obtain ⟨rfl, r1, _, r3⟩ := hq i hi
      exact ⟨b, off, rfl, r1, by rw [hget i hi]; exact r3⟩
set_option maxRecDepth 100000 in
theorem open_pokesT {W : World} {fuel : Nat} {cs : List Value} {x : DataW H × List MemPlace} (hf : DataW.trod enc Tryz.prog W 0 (fun _ => true) true fuel 29 cs = some x) :
    ∃ (ao : Option Addr) (l : List (Int × Int)) (cap : Nat), cs = [.slice ao l.length cap] ∧ (∀ p ∈ l, (-9223372036854775808 ≤ p.1 ∧ p.1 ≤ 9223372036854775807) ∧ u64B p.2) ∧ PkAt W ao l ∧ l.length ≤ 9223372036854775807 := by
  rcases open_slice Tryz.underlying29 hf with ⟨hcs, _⟩ | ⟨a, len, cap, m, n, D, Pl, hcs, _, hl, hm, hmm, hd, hx⟩
  · exact ⟨none, [], 0, hcs, fun i hi => (by cases hi), fun i hi => absurd hi (Nat.not_lt_zero i), Nat.zero_le _⟩
  · simp only [if_true] at hmm
    obtain ⟨b, off, spot⟩ := a
    have hs : 0 < len → spot = none := by
      intro h0
      obtain ⟨cs', h1, _⟩ := hx 0 (by omega)
      rw [cellsPk] at h1
      obtain ⟨_, hlen, hcell⟩ := World.cells?_some h1
      match cs', hlen with
      | [c0, c1], _ =>
        have f0 := hcell 0 (by omega)
        simpa [Addr.add] using World.cell?_spot f0
    have each : ∀ i, i < len → ∃ q : Int × Int, spot = none ∧ b < W.heap.size ∧ ((-9223372036854775808 ≤ q.1 ∧ q.1 ≤ 9223372036854775807) ∧ u64B q.2) ∧ W.cell? ⟨b, off + i * 2, none⟩ = some (.int .i64 q.1) ∧ W.cell? ⟨b, off + i * 2 + 1, none⟩ = some (.int .u64 q.2) := by
      intro i hi
      obtain ⟨cs', h1, h2⟩ := hx i (by omega)
      rw [cellsPk] at h1
      obtain ⟨_, hlen, hcell⟩ := World.cells?_some h1
      obtain ⟨xs, k, _, _, _, hxl, hg⟩ := DataW.trod_struct Tryz.underlying98 h2
      match xs, hxl, cs', hlen with
      | [y0, y1], _, [c0, c1], _ =>
        have g0 := hg 0 _ rfl
        have g1 := hg 1 _ rfl
        simp [cellsI, cellsW] at g0 g1
        obtain ⟨x0, e0, _, w0⟩ := DataW.trod_int Tryz.underlying3 g0
        obtain ⟨x1, e1, _, w1⟩ := DataW.trod_int Tryz.underlying53 g1
        simp at e0 e1
        subst e0 e1
        have f0 := hcell 0 (by omega)
        have f1 := hcell 1 (by omega)
        rw [add_add] at f0 f1
        have hspot := hs (by omega)
        subst hspot
        rw [Go.WideShapes.add_plain] at f0 f1
        exact ⟨(x0, x1), rfl, World.block_lt_of_cell? W _ f0, ⟨i64_of w0, u64_of w1⟩, f0, f1⟩
    obtain ⟨q, hq⟩ := choose_lt each
    have hcl : ((List.range len).map q).length = len := by simp
    have hget : ∀ i, i < len → ((List.range len).map q).getD i (0, 0) = q i := fun i hi => by simp [hi]
    refine ⟨some ⟨b, off, spot⟩, (List.range len).map q, cap, by rw [hcl]; exact hcs, fun i hi => ?_, fun i hi => ?_, by rw [hcl]; exact Nat.le_trans hl hm⟩
    · obtain ⟨j, hj, rfl⟩ := List.mem_map.1 hi
      exact (hq j (List.mem_range.1 hj)).2.2.1
    · rw [hcl] at hi
      rw [hget i hi]
      obtain ⟨rfl, h2, _, r⟩ := hq i hi
      exact ⟨b, off, rfl, h2, r⟩
/-- all of a ride: its parts, what lies behind them -/
structure RideIn (W : World) (a b c e th t : Int) (ao : Option Addr) (cs : List Ins) (cap : Nat) (po : Option Addr) (l : List Nat) (co : Nat) (pw : Option Addr) (lw : List Int) (cw : Nat) (pp : Option Addr) (lp : List (Int × Int)) (cp : Nat) : Prop where
  cx : ∀ i ∈ cs, i.x < 18446744073709551616
  code : CodeAt W ao cs
  lx : ∀ x ∈ l, x < 18446744073709551616
  args : FlAt W po l
  wx : okW lw
  words : UAt W pw lw
  wl : lw.length ≤ 9223372036854775807
  px : ∀ p ∈ lp, (-9223372036854775808 ≤ p.1 ∧ p.1 ≤ 9223372036854775807) ∧ u64B p.2
  pokes : PkAt W pp lp
  pl : lp.length ≤ 9223372036854775807
  nb : cs.length * 24 ≤ reachBytes
  kb : l.length * 8 ≤ reachBytes
set_option maxRecDepth 100000 in
set_option maxHeartbeats 1000000 in
theorem open_ride {W : World} {base : Nat} {v : Value} {d : DataW H} {ps : List MemPlace} (hval : Value.okWide Tryz.prog W .any base 31 v) (h : DataW.Trod enc Tryz.prog W 0 (fun _ => true) true 31 v d ps)
    {ts : List TypeId} {ds : List (DataW H)} (hz : (DataW.weightsEach Tryz.prog ts ds).all (· ≤ reachBytes) = true) {j : Nat} (h1 : ts[j]? = some 31) (h2 : ds[j]? = some d) :
    ∃ a b c e th t ao cs cap po l co pw lw cw pp lp cp, v = .agg (rideV a b c e th t ao cs.length cap po l.length co pw lw.length cw pp lp.length cp) ∧ RideIn W a b c e th t ao cs cap po l co pw lw cw pp lp cp := by
  obtain ⟨csv, rfl, hsz⟩ := okWide_struct Tryz.underlying31 hval
  rw [cellsRi] at hsz
  obtain ⟨lv⟩ := csv
  match lv, hsz with
  | [c0, c1, c2, c3, c4, c5, c6, c7, c8, c9], _ =>
    obtain ⟨fuel, hf⟩ := h
    obtain ⟨xs, n, _, hxd, _, hlen, hg⟩ := DataW.trod_struct Tryz.underlying31 hf
    match xs, hlen with
    | [y0, y1, y2, y3, y4, y5], _ =>
      have g0 := hg 0 _ rfl
      have g1 := hg 1 _ rfl
      have g2 := hg 2 _ rfl
      have g3 := hg 3 _ rfl
      have g4 := hg 4 _ rfl
      have g5 := hg 5 _ rfl
      simp [cellsCf, cellsI, cellsPg, cellsLF, cellsLW, cellsLP, Value.cells] at g0 g1 g2 g3 g4 g5
      obtain ⟨zs, n0, _, _, _, zl, zg⟩ := DataW.trod_struct Tryz.underlying23 g0
      obtain ⟨us, n2, _, hu, _, ul, ug⟩ := DataW.trod_struct Tryz.underlying26 g2
      match zs, zl, us, ul with
      | [z0, z1, z2, z3], _, [u0, u1], _ =>
        have k0 := zg 0 _ rfl
        have k1 := zg 1 _ rfl
        have k2 := zg 2 _ rfl
        have k3 := zg 3 _ rfl
        have m0 := ug 0 _ rfl
        have m1 := ug 1 _ rfl
        simp [cellsI, cellsLI] at k0 k1 k2 k3 m0 m1
        obtain ⟨a, ea, _, _⟩ := DataW.trod_int Tryz.underlying3 k0
        obtain ⟨b, eb, _, _⟩ := DataW.trod_int Tryz.underlying3 k1
        obtain ⟨c, ec, _, _⟩ := DataW.trod_int Tryz.underlying3 k2
        obtain ⟨e, ee, _, _⟩ := DataW.trod_int Tryz.underlying3 k3
        obtain ⟨th, eh, _, _⟩ := DataW.trod_int Tryz.underlying3 g1
        obtain ⟨t, et, _, _⟩ := DataW.trod_int Tryz.underlying3 m0
        obtain ⟨ao, cs, cap, e1, q1, q2, q3⟩ := open_codeT m1
        obtain ⟨po, l, co, e2, r1, r2, r3⟩ := open_flsT g3
        obtain ⟨pw, lw, cw, e3, s1, s2, s3⟩ := open_wordsT g4
        obtain ⟨pp, lp, cp, e4, t1, t2, t3⟩ := open_pokesT g5
        simp at ea eb ec ee eh et e1 e2 e3 e4
        have hd0 : d = .agg [y0.1, y1.1, y2.1, y3.1, y4.1, y5.1] := congrArg Prod.fst hxd
        have hd2 : y2.1 = .agg [u0.1, u1.1] := congrArg Prod.fst hu
        have wt : ∀ z ∈ d.weights Tryz.prog 31, z ≤ reachBytes := fun z hz' => by simpa using List.all_eq_true.1 hz _ (DataW.weights_mem_each h1 h2 z hz')
        rw [hd0, hd2] at wt
        simp [DataW.weights, DataW.weightsEach, Tryz.underlying31, Tryz.underlying26] at wt
        refine ⟨a, b, c, e, th, t, ao, cs, cap, po, l, co, pw, lw, cw, pp, lp, cp, by rw [ea, eb, ec, ee, eh, et, e1, e2, e3, e4], ⟨q1, q2, r1, r2, s1, s2, s3, t1, t2, t3, q3 fun z hz' => wt z ?_, r3 fun z hz' => wt z ?_⟩⟩
        · simp [hz']
        · simp [hz']
end
theorem RideIn.at_ {W : World} {a b c e th t : Int} {ao : Option Addr} {cs : List Ins} {cap : Nat} {po : Option Addr} {l : List Nat} {co : Nat} {pw : Option Addr} {lw : List Int} {cw : Nat} {pp : Option Addr} {lp : List (Int × Int)} {cp : Nat} (h : RideIn W a b c e th t ao cs cap po l co pw lw cw pp lp cp) (hs : Shaped5 W) : RideAt W cs l ao po cs.length l.length := ⟨hs, rfl, rfl, h.code, h.args, h.cx, h.lx, Nat.le_trans h.nb (by decide), Nat.le_trans h.kb (by decide)⟩
end Go.Proofs.YtninicfnhoediaaGreatDoor.Rr
namespace Go.Proofs.YtninicfnhoediaaGreatDoor.Rr
open Go.ChangeShapes Go.WideShapes Go.ChangeAt Go.RowKit Num
/-- what the document's reader has of its own to write over -/
def dOwn (bd : Nat) (zd : Dz) (bw gw : Nat) : List Nat := [bd, zd.br, zd.bl, bw, gw]
structure Both (W w : World) (bx : Nat) (z : Rz) (mb mg : Nat) (x : Rx) (ws : List Int) (o : Bool) (n : Int) (bd : Nat) (zd : Dz) (bw gw : Nat) (xd : Rx) (wd : List Int) (nd : Int) : Prop where
  ex : ∃ G qd, Full w G bx z mb mg w x ws o n ∧ Turn [] G W w ∧ Blw w G ∧ Sep z.KK G ∧ Blw w z.KK ∧ DRaw w bd xd zd qd ∧ WdAt w bw gw wd nd ∧ Sep [bw, gw] (dAll bd zd qd) ∧ Sep (bw :: gw :: dAll bd zd qd) G ∧ Sep (dOwn bd zd bw gw) z.KK ∧ Abv W.heap.size (dOwn bd zd bw gw)
section
variable {W w w' : World} {bx : Nat} {z : Rz} {mb mg : Nat} {x : Rx} {ws : List Int} {o : Bool} {n : Int} {bd : Nat} {zd : Dz} {bw gw : Nat} {xd : Rx} {wd : List Int} {nd : Int}
theorem dAll_blw {qd : Rp} (h : DRaw w bd xd zd qd) (k : WdAt w bw gw wd nd) : Blw w (bw :: gw :: dAll bd zd qd) := fun i hi => by
  simp only [List.mem_cons] at hi
  rcases hi with rfl | rfl | hi
  · exact k.ltB
  · exact k.ltG
  · exact h.blw i hi
theorem Both.below (h : Both W w bx z mb mg x ws o n bd zd bw gw xd wd nd) : Below W.heap.size W w := by
  obtain ⟨G, qd, h1, h2, _⟩ := h.ex
  exact (h1.from h2).below
theorem Both.words (h : Both W w bx z mb mg x ws o n bd zd bw gw xd wd nd) : WdAt w bw gw wd nd := by
  obtain ⟨G, qd, _, _, _, _, _, _, h7, _⟩ := h.ex
  exact h7
theorem Both.draw (h : Both W w bx z mb mg x ws o n bd zd bw gw xd wd nd) : ∃ qd, DRaw w bd xd zd qd := by
  obtain ⟨G, qd, _, _, _, _, _, h6, _⟩ := h.ex
  exact ⟨qd, h6⟩
theorem Both.raw (h : Both W w bx z mb mg x ws o n bd zd bw gw xd wd nd) : ∃ q F r, RawAt w bx x z q F (comC x) r := by
  obtain ⟨G, qd, h1, _⟩ := h.ex
  exact h1.raw
/-- the program's goes on -/
theorem Both.p (h : Both W w bx z mb mg x ws o n bd zd bw gw xd wd nd) : ∃ G, Full w G bx z mb mg w x ws o n ∧ (Shaped5 W → TabAt w G) ∧ ∀ w' x' ws' o' n', Full w G bx z mb mg w' x' ws' o' n' → Both W w' bx z mb mg x' ws' o' n' bd zd bw gw xd wd nd := by
  obtain ⟨G, qd, h1, h2, h3, h4, h5, h6, h7, h8, h9, h10, h11⟩ := h.ex
  refine ⟨G, h1, fun hs => (show TabAt W [] from ⟨hs, by simp⟩).turn h2, fun w' x' ws' o' n' k => ?_⟩
  obtain ⟨G', k1, k2, k3, k4, k5⟩ := k.rebase
  have hb := dAll_blw h6 h7
  have kD := k2.kept h9 hb
  exact ⟨G', qd, k1, h2.trans k2, k3, k4, k5, h6.keep ⟨kD.1, fun i hi => kD.2 i (by simp [hi])⟩, h7.keep ⟨kD.1, fun i hi => kD.2 i (by simp only [List.mem_cons, List.not_mem_nil, or_false] at hi ⊢; rcases hi with y | y <;> simp [y])⟩, h8, h9.turn hb k2, h10, h11⟩
theorem Both.on (h : Both W w bx z mb mg x ws o n bd zd bw gw xd wd nd) (k : Below w.heap.size w w') : Both W w' bx z mb mg x ws o n bd zd bw gw xd wd nd := by
  obtain ⟨G, h1, _, h3⟩ := h.p
  exact h3 _ _ _ _ _ (h1.on k)
/-- as they begin -/
theorem both_new {W0 W u w : World} {ao : Option Addr} {cs : List Ins} (hW : Below W0.heap.size W0 W) (h : Bgn W u bx bd x ao cs) (hc : x.cell < 0) (hm : MemAt 123 w mb mg ws o n) (hd : WdAt w bw gw wd nd) (hb : Below u.heap.size u w) (a1 : u.heap.size ≤ mb) (a2 : u.heap.size ≤ mg) (a3 : u.heap.size ≤ bw) (a4 : u.heap.size ≤ gw) (s : Sep [bw, gw] [mb, mg]) : ∃ z zd, zd.cs = cs ∧ Both W0 w bx z mb mg x ws o n bd zd bw gw x wd nd := by
  obtain ⟨z, F, r, zd, qd, k1, k2, k3, k4, k5, k6, k7, k8, k9, k10⟩ := h.p
  have hs := hW.size
  have hu := h.bl.size
  obtain ⟨f1, f2⟩ := full_of k1 (k2.mono hs) (hW.trans (h.bl.mono hs)) hm hb a1 a2 hc
  have D := k5.on hb
  have lD := k5.blw
  have hsz := hb.size
  have lkk := k1.blwK
  refine ⟨z, zd, k4, ⟨_, qd, f1, f2, fun i hi => ?_, fun i hi y => ?_, fun i hi => Nat.lt_of_lt_of_le (lkk i hi) hsz, D, hd, fun i hi y => ?_, fun i hi y => ?_, fun i hi y => ?_, fun i hi => ?_⟩⟩
  · simp only [List.mem_cons] at hi
    rcases hi with rfl | rfl | hi
    · exact hm.ltB
    · exact hm.ltG
    · exact Nat.lt_of_lt_of_le (k1.blw i hi) hsz
  · have := lkk i hi
    simp only [List.mem_cons] at y
    rcases y with y | y | y
    · omega
    · omega
    · exact k1.sep i hi y
  · have := lD i y
    simp only [List.mem_cons, List.not_mem_nil, or_false] at hi
    omega
  · simp only [List.mem_cons] at hi y
    have sm := s i
    simp only [List.mem_cons, List.not_mem_nil, or_false] at sm
    rcases y with y | y | y
    · rcases hi with hi | hi | hi
      · exact sm (.inl hi) (.inl y)
      · exact sm (.inr hi) (.inl y)
      · have := lD i hi; omega
    · rcases hi with hi | hi | hi
      · exact sm (.inl hi) (.inr y)
      · exact sm (.inr hi) (.inr y)
      · have := lD i hi; omega
    · have := k1.blw i y
      rcases hi with hi | hi | hi
      · omega
      · omega
      · exact k9 i y hi
  · have := lkk i y
    have bl := k5.at_.1
    simp only [dOwn, List.mem_cons, List.not_mem_nil, or_false] at hi
    rcases hi with hi | hi | hi | hi | hi
    · exact k10 i y (by simp [hi])
    · exact k10 i y (by simp [hi, Fr])
    · exact k10 i y (by simp [hi, Fr, bl])
    · omega
    · omega
  · have bl := k5.at_.1
    have K6 := k6 i
    simp only [Fr, List.mem_cons] at K6
    simp only [dOwn, List.mem_cons, List.not_mem_nil, or_false] at hi
    rcases hi with hi | hi | hi | hi | hi
    · have := K6 (.inl hi); omega
    · have := K6 (.inr (.inl hi)); omega
    · have := K6 (.inr (.inr (.inl (by rw [bl]; exact hi)))); omega
    · omega
    · omega
end
end Go.Proofs.YtninicfnhoediaaGreatDoor.Rr
namespace Go.Proofs.YtninicfnhoediaaGreatDoor.Rr
open Go.ChangeShapes Go.WideShapes Go.ChangeAt Go.RowKit Num
abbrev planO (b : Int) (N : Nat) : Obj := .cells #[.int .i64 0, .int .i64 1, .int .i64 2, .int .i64 3, .int .i64 (3 + b), .int .i64 (N : Int)] 51
/-- as many words for both -/
structure Laid (w w' : World) (N mb mg bw gw : Nat) (ws : List Int) : Prop where
  len : ws.length = N
  ok : okW ws
  mem : MemAt 123 w' mb mg ws false 0
  wds : WdAt w' bw gw ws 0
  am : w.heap.size ≤ mb
  ag : w.heap.size ≤ mg
  aw : w.heap.size ≤ bw
  av : w.heap.size ≤ gw
  sep : Sep [bw, gw] [mb, mg]
  bl : Below w.heap.size w w'
theorem okW_zeros (N : Nat) : okW (List.replicate N 0) := fun v hv => by rw [List.eq_of_mem_replicate hv]; exact ⟨by decide, by decide⟩
theorem poked_nat {ws : List Int} {i : Nat} (h : i < ws.length) (v : Int) : Md.poked ws (i : Int) v = ws.set i v := by
  unfold Md.poked
  rw [if_pos (by simp [hasB]; omega)]
  simp
theorem getD_ok {ws : List Int} (h : okW ws) (i : Nat) : u64B (ws.getD i 0) := by
  by_cases q : i < ws.length
  · have e : ws.getD i 0 = ws[i] := by simp [q]
    rw [e]
    exact h _ (List.getElem_mem q)
  · have e : ws.getD i 0 = 0 := by simp [List.getD_eq_getElem?_getD, List.getElem?_eq_none (Nat.le_of_not_lt q)]
    rw [e]
    exact ⟨by decide, by decide⟩
theorem Laid.put {w u u1 : World} {N mb mg bw gw : Nat} {ws : List Int} (h : Laid w u N mb mg bw gw ws) {i : Nat} (hi : i < N) {v : Int} (hv : u64B v) (k1 : MemAt 123 u1 mb mg (Md.poked ws (i : Int) v) false 0) (k2 : Chg mb mg u u1) : Laid w (u1.setCell ⟨gw, i, none⟩ (.int .u64 v)) N mb mg bw gw (ws.set i v) := by
  have s : ∀ y, y = bw ∨ y = gw → y ≠ mb ∧ y ≠ mg := fun y hy => by
    have := h.sep y (by simpa using hy)
    simpa using this
  rw [poked_nat (by rw [h.len]; exact hi)] at k1
  have w1 : WdAt u1 bw gw ws 0 := h.wds.keep ⟨k2.size, fun y hy => by
    have hy' : y = bw ∨ y = gw := by simpa using hy
    refine k2.block y ?_ (s y hy').1 (s y hy').2
    rcases hy' with rfl | rfl
    · exact h.wds.ltB
    · exact h.wds.ltG⟩
  have b1 : Below w.heap.size w u1 := h.bl.trans (k2.below h.am h.ag h.bl.size)
  exact ⟨by rw [List.length_set]; exact h.len, h.ok.set _ hv, k1.other (fun y => (s gw (.inr rfl)).1 y.symm) (fun y => (s gw (.inr rfl)).2 y.symm) _ _, w1.setW i v, h.am, h.ag, h.aw, h.av, h.sep, b1.setCell h.av _⟩
theorem Laid.drew {w u : World} {N mb mg bw gw : Nat} {ws : List Int} (h : Laid w u N mb mg bw gw ws) : Laid w u.drew N mb mg bw gw ws := ⟨h.len, h.ok, h.mem.drew, ⟨h.wds.box, h.wds.row, h.wds.ne, h.wds.many⟩, h.am, h.ag, h.aw, h.av, h.sep, h.bl.trans ((Same.drew u).below _)⟩
section
variable {W : World} {a b c e : Int} {pw : Option Addr} {lw : List Int} {kw cw : Nat}
set_option maxRecDepth 100000 in
set_option maxHeartbeats 2000000 in
theorem laid_any (hc : Md.cfgB a b c e = true) (hw : UAt W pw lw) (hk : lw.length = kw) (hl : okW lw) (hx : kw ≤ 9223372036854775807) {N : Nat} (hN : 3 + b + 3 * a = (N : Int)) : Calls Tryz.prog 11 #[cfgV a b c e, .slice pw kw cw] W fun r w' => ∃ mb bw, r = .returned (.tuple #[.pointer (some ⟨mb, 0, none⟩), .pointer (some ⟨bw, 0, none⟩)]) ∧ Hid (∃ mg gw ws, Laid W w' N mb mg bw gw ws) := by
  obtain ⟨h1, h2, h3, h4⟩ := Md.cfgB_iff.1 hc
  have n1 : 1 ≤ N ∧ N ≤ 4096 := by omega
  have HP := Lib.hid (fun u => Md.refPlace_any a b c e u)
  simp only [hc, if_true, hN] at HP
  have HM : Hid (∀ u, Calls Tryz.prog 22 #[.int .i64 (N : Int)] u fun e w' => e = .returned (.tuple #[.pointer (some ⟨u.heap.size + 1, 0, none⟩), .int .i64 0]) ∧ MemAt 123 w' (u.heap.size + 1) u.heap.size (List.replicate N 0) false 0 ∧ Below u.heap.size u w') := fun u => Md.new_some N n1.1 n1.2 u
  have HK := fun u => Md.make_words N n1.2 u
  have HWW : Hid (UAt W pw lw ∧ okW lw ∧ lw.length = kw) := ⟨hw, hl, hk⟩
  clear hc h1 h2 h3 h4 hw hl hk hN
  go_enter Tryz.func11, Tryz.ntmps11
  go_upto_region 8 with (first
    | (go_at_call 22; refine (HM.out _).mono ?_; rintro r u2 ⟨rfl, q1, q2⟩; have H2 := Lib.hid (And.intro q1 q2); obtain ⟨p0, p1, p2, p3, p4, p5, lp⟩ := cells6 ((q2.block _ (lt_of_block H1.out.2)).trans H1.out.2); clear q1 q2 HM)
    | (go_at_call 38; refine (HP.out _).mono ?_; rintro r u1 ⟨rfl, q⟩; have H1 : Hid (Below W.heap.size W (u1.alloc (planO b N)) ∧ (u1.alloc (planO b N)).heap[u1.heap.size]? = some (planO b N)) := ⟨(below_chain (below_alloc W _) q).alloc (below_chain (below_alloc W _) q).size _, heap_alloc_new _ _⟩; clear q HP))
  have HL0 : Hid (Laid (u1.alloc (planO b N)) ((u2.alloc (.cells (u64s (List.replicate N 0)).toArray 53)).alloc (.cells #[.slice (some ⟨u2.heap.size, 0, none⟩) N N, .int .i64 0] 70)) N (u1.heap.size + 1 + 1) (u1.heap.size + 1) (u2.heap.size + 1) u2.heap.size (List.replicate N 0)) := by
    have e : (u1.alloc (planO b N)).heap.size = u1.heap.size + 1 := by simp
    obtain ⟨m1, m2⟩ := H2.out
    rw [e] at m1
    have l1 := m1.ltB
    have l2 := m1.ltG
    have k2 : Below u2.heap.size u2 ((u2.alloc (.cells (u64s (List.replicate N 0)).toArray 53)).alloc (.cells #[.slice (some ⟨u2.heap.size, 0, none⟩) N N, .int .i64 0] 70)) := (below_alloc _ _).trans ((below_alloc _ _).mono (by simp))
    refine ⟨by simp, okW_zeros N, m1.on k2, ⟨?_, heap_old (heap_alloc_new _ _), by omega, by simp; exact n1.2⟩, by rw [e]; omega, by rw [e]; omega, by rw [e]; omega, by rw [e]; omega, fun i hi y => ?_, m2.trans (k2.mono m2.size)⟩
    · have := heap_alloc_new (u2.alloc (.cells (u64s (List.replicate N 0)).toArray 53)) (.cells #[.slice (some ⟨u2.heap.size, 0, none⟩) N N, .int .i64 0] 70)
      simpa using this
    · simp only [List.mem_cons, List.not_mem_nil, or_false] at hi y
      omega
  clear H2 p0 p1 p2 p3 p4 p5 lp HK
  generalize u1.heap.size + 1 + 1 = mb at HL0
  generalize u1.heap.size + 1 = mg at HL0
  generalize hbw : u2.heap.size + 1 = bw at HL0
  generalize u2.heap.size = gw at HL0
  clear hbw
  go_wp2_with fail
  go_loopw [11] (fun vi wr => ∃ i : Nat, vi = .int .i64 i ∧ i ≤ N ∧ Hid (∃ ws, Laid (u1.alloc (planO b N)) wr N mb mg bw gw ws)) (fun vi _ => N - (intOf vi).toNat)
  case atStart => exact ⟨0, rfl, Nat.zero_le _, _, HL0.out⟩
  case round =>
    obtain ⟨i, rfl, hi, HR⟩ := hrel
    obtain ⟨ws, hws⟩ := HR.out
    have HR2 := Lib.hid hws
    clear HR hws
    obtain ⟨p0, p1, p2, p3, p4, p5, lp⟩ := cells6 ((HR2.out.bl.block _ (lt_of_block H1.out.2)).trans H1.out.2)
    clear p0 p1 p2 p3 p4
    by_cases hlt : i < N ∧ i < kw
    · have hlt' : (i : Int) < (N : Int) := by omega
      have hlk' : (i : Int) < (kw : Int) := by omega
      obtain ⟨g, off, hp, hg, hcell⟩ := HWW.out.1 i (by rw [HWW.out.2.2]; exact hlt.2)
      have HV : Hid (u64B (lw.getD i 0)) := getD_ok HWW.out.2.1 i
      generalize lw.getD i 0 = v at hcell HV
      subst hp
      have HB : Hid (∀ u, Below (u1.alloc (planO b N)).heap.size (u1.alloc (planO b N)) u → u.cell? ⟨g, off + i, none⟩ = some (.int .u64 v) ∧ g < u.heap.size) := fun u q => by
        have q2 := H1.out.1.trans (q.mono H1.out.1.size)
        exact ⟨(q2.cell (p := ⟨g, off + i, none⟩) hg).trans hcell, Nat.lt_of_lt_of_le hg q2.size⟩
      obtain ⟨x1, x2⟩ := HB.out _ HR2.out.bl
      have HPK := Lib.hid (Md.poke_any HR2.out.mem (i : Int) v)
      have HPUT : Hid (∀ u1', MemAt 123 u1' mb mg (Md.poked ws (i : Int) v) false 0 → Chg mb mg wr u1' → Laid (u1.alloc (planO b N)) (u1'.setCell ⟨gw, i, none⟩ (.int .u64 v)) N mb mg bw gw (ws.set i v) ∧ Below (u1.alloc (planO b N)).heap.size (u1.alloc (planO b N)) u1' ∧ WdAt u1' bw gw ws 0) := fun u' k1 k2 => by
        have b1 := HR2.out.bl.trans (k2.below HR2.out.am HR2.out.ag HR2.out.bl.size)
        refine ⟨HR2.out.put hlt.1 HV.out k1 k2, b1, HR2.out.wds.keep ⟨k2.size, fun y hy => ?_⟩⟩
        have hy' : y = bw ∨ y = gw := by simpa using hy
        have s := HR2.out.sep y hy
        refine k2.block y ?_ (fun q => s (by simp [q])) (fun q => s (by simp [q]))
        rcases hy' with rfl | rfl
        · exact HR2.out.wds.ltB
        · exact HR2.out.wds.ltG
      have hgw : Hid (g ≠ gw) := fun q => by have h1 := HR2.out.av; have h2 := H1.out.1.size; omega
      have HLEN : Hid (ws.length = N) := HR2.out.len
      clear hcell HWW
      go_upto_region 12 with (go_at_call 36; refine HPK.out.mono ?_; rintro r u3 ⟨rfl, q1, q2⟩; have H3 := Lib.hid (HPUT.out _ q1 q2); obtain ⟨y1, y2⟩ := HB.out _ H3.out.2.1; have c0 := H3.out.2.2.cell0; rw [HLEN.out] at c0; have lb := H3.out.2.2.ltB; have f0 := H3.out.2.2.freeG i; have lg := H3.out.2.2.ltG; clear q1 q2 HPK HPUT)
      have hne := H3.out.2.2.ne
      refine wp_region_seq (fun u => u.cell? ⟨g, off + i, none⟩ = some (.int .u64 v) ∧ u.cell? ⟨bw, 0, none⟩ = some (.slice (some ⟨gw, 0, none⟩) N N) )  ((0, true) :: (1, true) :: (2, true) :: (3, true) :: (4, true) :: (5, true) :: (6, true) :: (7, true) :: (8, true) :: (9, true) :: (10, false) :: [])  Md.Cv.follows13 (by kernel_rfl) (fun _ _ _ _ _ h => h)  ⟨y1, c0⟩ ?_
      (repeat (first | (refine wpSeq_take (v := ?_) rfl (by rfl) (fun wq hSq => ?_) ?_; rotate_left; (focus ((try dsimp only at hSq); go_simp; try with_reducible rfl)); simp only [Act.put, List.setIfInBounds_toArray, List.set_cons_zero, List.set_cons_succ]) | (refine wpSeq_skip rfl (by rfl) ?_; simp only [Act.put, List.setIfInBounds_toArray, List.set_cons_zero, List.set_cons_succ])))
      have cw := H3.out.2.2.word (i := i) (by rw [HLEN.out]; exact hlt.1)
      (refine wpSeq_do rfl (by rfl) (fun KK hK => ?_); go_simp)
      refine hK.out _ _ ⟨(World.cell?_setCell_far _ _ _ _ (fun q => hgw.out q.symm)).trans y1, (World.cell?_setCell_far _ _ _ _ (fun q => hne q.symm)).trans c0⟩ ?_
      (clear hK KK; try simp only [Act.put])
      refine wpSeq_nil ?_
      go_wp2_with fail
      exact ⟨⟨i + 1, by first | rfl | (congr 1), by omega, _, H3.out.1.drew⟩, by simp [intOf]; omega⟩
    · have HF : Hid (∃ mg gw ws, Laid W wr N mb mg bw gw ws) := by
        have q := HR2.out
        have hs := H1.out.1.size
        exact ⟨mg, gw, ws, q.len, q.ok, q.mem, q.wds, Nat.le_trans hs q.am, Nat.le_trans hs q.ag, Nat.le_trans hs q.aw, Nat.le_trans hs q.av, q.sep, H1.out.1.trans (q.bl.mono hs)⟩
      by_cases h1 : i < N
      · have h1' : (i : Int) < (N : Int) := by omega
        have h2' : ¬ (i : Int) < (kw : Int) := by omega
        go_wp2_with fail
        go_ret2
        exact ⟨mb, bw, rfl, HF.out⟩
      · have h1' : ¬ (i : Int) < (N : Int) := by omega
        go_wp2_with fail
        go_ret2
        exact ⟨mb, bw, rfl, HF.out⟩
end
end Go.Proofs.YtninicfnhoediaaGreatDoor.Rr
namespace Go.Proofs.YtninicfnhoediaaGreatDoor.Rr
open Go.ChangeShapes Go.WideShapes Go.ChangeAt Go.RowKit Num
/-- a ride: all that lies behind it -/
structure RideAll (W : World) (cs : List Ins) (l : List Nat) (ao po : Option Addr) (n k : Nat) (lw : List Int) (pw : Option Addr) (kw : Nat) (lp : List (Int × Int)) (pp : Option Addr) (kp : Nat) : Prop where
  at_ : RideAt W cs l ao po n k
  words : UAt W pw lw
  wx : okW lw
  wl : lw.length = kw
  wb : kw ≤ 9223372036854775807
  pokes : PkAt W pp lp
  px : ∀ p ∈ lp, (-9223372036854775808 ≤ p.1 ∧ p.1 ≤ 9223372036854775807) ∧ u64B p.2
  pl : lp.length = kp
theorem RideAll.on {W w : World} {cs : List Ins} {l : List Nat} {ao po : Option Addr} {n k : Nat} {lw : List Int} {pw : Option Addr} {kw : Nat} {lp : List (Int × Int)} {pp : Option Addr} {kp : Nat} (h : RideAll W cs l ao po n k lw pw kw lp pp kp) (q : Below W.heap.size W w) : RideAll w cs l ao po n k lw pw kw lp pp kp := ⟨h.at_.on q, h.words.on q, h.wx, h.wl, h.wb, h.pokes.on q, h.px, h.pl⟩
theorem RideIn.all {W : World} {a b c e th t : Int} {ao : Option Addr} {cs : List Ins} {cap : Nat} {po : Option Addr} {l : List Nat} {co : Nat} {pw : Option Addr} {lw : List Int} {cw : Nat} {pp : Option Addr} {lp : List (Int × Int)} {cp : Nat} (h : RideIn W a b c e th t ao cs cap po l co pw lw cw pp lp cp) (hs : Shaped5 W) : RideAll W cs l ao po cs.length l.length lw pw lw.length lp pp lp.length := ⟨h.at_ hs, h.words, h.wx, rfl, h.wl, h.pokes, h.px, rfl⟩
set_option maxRecDepth 100000 in
theorem most_any (a b c e : Int) (w : World) (h : 0 ≤ c ∧ c ≤ 1000000) : Calls Tryz.prog 12 #[cfgV a b c e] w fun r w' => r = .returned (.int .i64 (c * 4 + 6)) ∧ Below w.heap.size w w' := by
  go_enter Tryz.func12, Tryz.ntmps12
  go_wp2_with fail
  go_ret
  exact ⟨rfl, below_alloc _ _⟩
/-- the reader in the midst, behind i steps -/
structure WtI (x0 x : Rx) (ws : List Int) (N i : Nat) (n : Int) : Prop where
  inx : InX x
  part : x.part ≠ 4
  st : x.steps = i
  al : Alike x0 x
  ok : okW ws
  len : ws.length = N
  cnt : 0 ≤ n ∧ n ≤ i
theorem plW_alike {x0 x : Rx} (h : Alike x0 x) : plW x = plW x0 := by unfold plW; rw [h.a, h.b]
theorem WtI.bound {x0 x : Rx} {ws : List Int} {N i : Nat} {n : Int} (h : WtI x0 x ws N i n) : (i : Int) ≤ 4 * x0.m.fuel + 4 := by
  have := h.inx.few_steps.2 h.part
  rw [h.st, h.al.fuel] at this
  exact this
theorem up_in {n : Int} (h : 0 ≤ n ∧ n ≤ 1000000) : up n = n + 1 := Go.IntWalk.wrap64_in (n + 1) ⟨by omega, by omega⟩
/-- a step -/
theorem WtI.step {x0 x : Rx} {ws : List Int} {N i : Nat} {n : Int} (h : WtI x0 x ws N i n) (hf : x0.m.fuel ≤ 100000) {y : Rx} {ws' : List Int} {ac : Bool} (hy : stepX x ws = (y, ws', ac)) {n' : Int} (hn : (if ac then up n else n) = n') : InX y ∧ Alike x0 y ∧ y.steps = ((i + 1 : Nat) : Int) ∧ okW ws' ∧ ws'.length = N ∧ n ≤ n' ∧ n' ≤ n + 1 ∧ (y.part ≠ 4 → WtI x0 y ws' N (i + 1) n') ∧ (y.part = 4 → ws' = ws.set (3 + x0.th).toNat 0) := by
  obtain ⟨k1, k2, k3, k4, k5⟩ := step_in h.inx h.part h.ok
  have hb := h.bound
  have hc := h.cnt
  have hpt := h.inx.part
  have hpn := h.part
  have e0 : (stepX x ws).1 = y := by rw [hy]
  have e1 : (stepX x ws).2.1 = ws' := by rw [hy]
  rw [e0] at k1 k2 k3
  rw [e1] at k4 k5
  have hs : y.steps = ((i + 1 : Nat) : Int) := by rw [k3, h.st]; rfl
  have hm : n ≤ n' ∧ n' ≤ n + 1 := by
    rw [← hn]
    split
    · rw [up_in (by omega)]; omega
    · omega
  refine ⟨k1, h.al.trans k2, hs, k4, k5.trans h.len, hm.1, hm.2, fun q => ⟨k1, q, hs, h.al.trans k2, k4, k5.trans h.len, ⟨by omega, by omega⟩⟩, fun q => ?_⟩
  by_cases p1 : x.part = 1
  · exfalso
    rw [← e0] at q
    unfold stepX comeX tickX at q
    rw [if_pos p1] at q
    revert q
    dsimp only
    split
    · simp [p1]
    · split <;> simp [p1]
  · by_cases p3 : x.part = 3
    · rw [← e1, ← h.al.th]
      unfold stepX
      rw [if_neg p1, if_pos p3]
    · exfalso
      have := (run_in h.inx (by omega) h.ok).2.2.2
      rw [← e0] at q
      unfold stepX at q
      rw [if_neg p1, if_neg p3] at q
      dsimp only at q
      omega
end Go.Proofs.YtninicfnhoediaaGreatDoor.Rr
namespace Go.Proofs.YtninicfnhoediaaGreatDoor.Rr
open Go.ChangeShapes Go.WideShapes Go.ChangeAt Go.RowKit Num
section
variable {W w : World} {bx : Nat} {z : Rz} {mb mg : Nat} {x : Rx} {ws : List Int} {o : Bool} {n : Int} {bd : Nat} {zd : Dz} {bw gw : Nat} {xd : Rx} {wd : List Int} {nd : Int}
theorem Both.step (h : Both W w bx z mb mg x ws o n bd zd bw gw xd wd nd) (hs : Shaped5 W) (hI : InX x) (hp : x.part ≠ 4) (hl : plW x ≤ (ws.length : Int)) (hW : okW ws) {y : Rx} {ws' : List Int} {ac : Bool} (hy : stepX x ws = (y, ws', ac)) {n' : Int} (hn : (if ac then up n else n) = n') {ov : Bool} (hov : decide ((y.part : Int) = 4) = ov) : Calls Tryz.prog 14 #[.pointer (some ⟨bx, 0, none⟩), .pointer (some ⟨mb, 0, none⟩)] w fun r w' => r = .returned (.tuple #[.bool ov, .int .i64 0]) ∧ Both W w' bx z mb mg y ws' (!ac) n' bd zd bw gw xd wd nd := by
  obtain ⟨G, h1, h2, h3⟩ := h.p
  refine (step_any h1 (h2 hs) hI hp hl hW hy).mono ?_
  rintro r w' ⟨rfl, k⟩
  rw [hov]
  rw [hn] at k
  exact ⟨rfl, h3 _ _ _ _ _ k⟩
theorem Both.plan (h : Both W w bx z mb mg x ws o n bd zd bw gw xd wd nd) : w.cell? ⟨bd, 2, none⟩ = some (.int .i64 2) ∧ w.cell? ⟨bd, 3, none⟩ = some (.int .i64 3) ∧ w.cell? ⟨bd, 4, none⟩ = some (.int .i64 (3 + xd.b)) ∧ bd < w.heap.size := by
  obtain ⟨qd, k⟩ := h.draw
  exact ⟨(k.cell 2).trans rfl, (k.cell 3).trans rfl, (k.cell 4).trans rfl, k.ltB⟩
end
end Go.Proofs.YtninicfnhoediaaGreatDoor.Rr
namespace Go.Proofs.YtninicfnhoediaaGreatDoor.Rr
open Go.ChangeShapes Go.WideShapes Go.ChangeAt Go.RowKit Num
attribute [local go_sem] run_store_float
end Go.Proofs.YtninicfnhoediaaGreatDoor.Rr
namespace Go.Proofs.YtninicfnhoediaaGreatDoor.Rr
open Go.ChangeShapes Go.WideShapes Go.ChangeAt Go.RowKit Num
attribute [local go_sem] run_store_float
end Go.Proofs.YtninicfnhoediaaGreatDoor.Rr
namespace Go.Proofs.YtninicfnhoediaaGreatDoor.Rr
open Go.ChangeShapes Go.WideShapes Go.ChangeAt Go.RowKit Num
end Go.Proofs.YtninicfnhoediaaGreatDoor.Rr
namespace Go.Proofs.YtninicfnhoediaaGreatDoor.Rr
open Go.ChangeShapes Go.WideShapes Go.ChangeAt Go.RowKit Num
end Go.Proofs.YtninicfnhoediaaGreatDoor.Rr
namespace Go.Proofs.YtninicfnhoediaaGreatDoor.Rr
open Go.ChangeShapes Go.WideShapes Go.ChangeAt Go.RowKit Num
attribute [local go_sem] run_store_float
end Go.Proofs.YtninicfnhoediaaGreatDoor.Rr
namespace Go.Proofs.YtninicfnhoediaaGreatDoor.Rr
open Go.ChangeShapes Go.WideShapes Go.ChangeAt Go.RowKit Num
section
variable {W w : World} {bx : Nat} {z : Rz} {mb mg : Nat} {x : Rx} {ws : List Int} {o : Bool} {n : Int} {bd : Nat} {zd : Dz} {bw gw : Nat} {xd : Rx} {wd : List Int} {nd : Int}
theorem Both.deedF (h : Both W w bx z mb mg x ws o n bd zd bw gw xd wd nd) (hI : In0 x) {tg st : Int} {na : Nat} {m : Mac} {mk e0 e1 e2 : Int} {args : List Nat} (ht : x.tag = tg) (hst : x.steps = st) (har : x.args = args) (hna : args.length = na) (hm : x.m = m) (hk : markV x = mk) (h0 : endI x m.how = e0) (h1 : endI x m.cod = e1) (h2 : endI x m.err = e2) : Calls Tryz.prog 20 #[.pointer (some ⟨bx, 0, none⟩)] w fun r w' => ∃ D, r = .returned (.agg (dC tg na m D mk e0 e1 e2 st)) ∧ DdAt w' w.heap.size D args m ∧ Below w.heap.size w w' := by
  obtain ⟨q, F, r, k⟩ := h.raw
  subst ht hst har
  exact Deed_any k hI hna hm hk h0 h1 h2
end
/-- what a deed tells, in letters -/
theorem few_lists {x : Rx} (h : In0 x) : x.args.length ≤ 9223372036854775807 ∧ x.m.reads.length ≤ 9223372036854775807 ∧ x.m.buf.length ≤ 9223372036854775807 ∧ x.m.out.length ≤ 9223372036854775807 := by
  have h1 := h.few
  have h2 := h.inv.reads
  have h3 := h.inv.used
  have h4 := h.inv.fuel
  have h5 := h.inv.out
  have h6 := h.inv.few
  have h7 := h.inv.wmax
  have h8 : (x.m.reads.length : Int) ≤ 1024 := by split at h2 <;> omega
  omega
end Go.Proofs.YtninicfnhoediaaGreatDoor.Rr
namespace Go.Proofs.YtninicfnhoediaaGreatDoor.Sx
open Go.ChangeShapes Go.WideShapes Go.ChangeAt Go.RowKit Num
/-- is there such a cell -/
def hasN (n : Nat) (i : Int) : Bool := decide (0 ≤ i) && decide (i < (n : Int))
def getV (l : List Nat) (i : Int) : Nat := if hasN l.length i then l.getD i.toNat 0 else 0
end Go.Proofs.YtninicfnhoediaaGreatDoor.Sx
namespace Go.Proofs.YtninicfnhoediaaGreatDoor.Sx
open Go.ChangeShapes Go.WideShapes Go.ChangeAt Go.RowKit Num
attribute [local go_sem] run_store_float frombits_run bits_run
end Go.Proofs.YtninicfnhoediaaGreatDoor.Sx
namespace Go.Proofs.YtninicfnhoediaaGreatDoor.Sx
open Go.ChangeShapes Go.WideShapes Go.ChangeAt Go.RowKit Num
attribute [local go_sem] run_store_float frombits_run bits_run
end Go.Proofs.YtninicfnhoediaaGreatDoor.Sx
namespace Go.Proofs.YtninicfnhoediaaGreatDoor.Sx
open Go.ChangeShapes Go.WideShapes Go.ChangeAt Go.RowKit Num
attribute [local go_sem] run_store_float frombits_run bits_run
end Go.Proofs.YtninicfnhoediaaGreatDoor.Sx
namespace Go.Proofs.YtninicfnhoediaaGreatDoor.Sx
open Go.ChangeShapes Go.WideShapes Go.ChangeAt Go.RowKit Num
attribute [local go_sem] run_store_float frombits_run bits_run
end Go.Proofs.YtninicfnhoediaaGreatDoor.Sx
namespace Go.Proofs.YtninicfnhoediaaGreatDoor
open Go.ChangeShapes Go.WideShapes Go.ChangeAt Go.RowKit Num
/-- one step over numbers that stand still, and the number given if one is wanted -/
def goM (s : List Nat) (m : Mac) : Mac := if (stepM m).2.kind = 1 then giveM (stepM m).1 (Sx.getV s (stepM m).2.cell) else (stepM m).1
def runN (s : List Nat) : Nat → Mac → Mac
  | 0, m => m
  | n + 1, m => runN s n (goM s m)
def okS (s : List Nat) : Prop := ∀ x ∈ s, okN x
theorem getV_ok {s : List Nat} (h : okS s) (i : Int) : okN (Sx.getV s i) := by
  unfold Sx.getV
  split
  · exact getD_all 0 okN_zero s h _
  · exact okN_zero
theorem runN_add (s : List Nat) : ∀ (a b : Nat) (m : Mac), runN s (a + b) m = runN s b (runN s a m)
  | 0, b, m => by rw [Nat.zero_add]; rfl
  | a + 1, b, m => by
    rw [Nat.add_right_comm]
    exact runN_add s a b (goM s m)
theorem runN_cons (s : List Nat) (k : Nat) (m : Mac) : runN s (k + 1) m = runN s k (goM s m) := rfl
theorem runN_succ (s : List Nat) (k : Nat) (m : Mac) : runN s (k + 1) m = goM s (runN s k m) := runN_add s k 1 m
/-- what lies between two steps -/
structure Rest (m : Mac) : Prop where
  inv : Inv m
  nw : ¬ 0 ≤ m.wait
  cel : ∀ t ∈ m.buf, 0 ≤ t.1 ∧ t.1 < m.cells
  nod : (cellsOfL m.buf).Nodup
theorem step_over {m : Mac} (hw : ¬ 0 ≤ m.wait) (h0 : m.how ≠ 0) : stepM m = (m, askEnd) := by
  unfold stepM
  rw [if_neg hw, if_neg h0]
theorem go_over {s : List Nat} {m : Mac} (hw : ¬ 0 ≤ m.wait) (h0 : m.how ≠ 0) : goM s m = m := by
  unfold goM
  rw [step_over hw h0]
  rfl
theorem runN_over {s : List Nat} {m : Mac} (hw : ¬ 0 ≤ m.wait) (h0 : m.how ≠ 0) : ∀ k, runN s k m = m
  | 0 => rfl
  | k + 1 => by
    show runN s k (goM s m) = m
    rw [go_over hw h0]
    exact runN_over hw h0 k
theorem go_inv {s : List Nat} {m : Mac} (h : Inv m) (hs : okS s) : Inv (goM s m) := by
  unfold goM
  split
  · exact inv_give (inv_step h) (getV_ok hs _).2
  · exact inv_step h
theorem go_kind1 {s : List Nat} {m : Mac} (h : (stepM m).2.kind = 1) : goM s m = giveM (stepM m).1 (Sx.getV s (stepM m).2.cell) := if_pos h
theorem go_kindN {s : List Nat} {m : Mac} (h : (stepM m).2.kind ≠ 1) : goM s m = (stepM m).1 := if_neg h
theorem go_turns {s : List Nat} {m : Mac} (h : Inv m) (hw : ¬ 0 ≤ m.wait) (h0 : m.how = 0) : Like m (goM s m) ∧ ¬ 0 ≤ (goM s m).wait ∧ (((stepM m).2.kind = 4 ∧ (goM s m).how ≠ 0) ∨ ((stepM m).2.kind ≠ 4 ∧ (goM s m).how = 0 ∧ (goM s m).used = m.used + 1)) := by
  obtain ⟨hl, ⟨k1, k2, k3⟩ | ⟨k1, k2, k3, k4, k5⟩ | ⟨k1, k2, k3, k4⟩⟩ := step_turns h hw h0
  · rw [go_kindN (by rw [k1]; decide)]
    exact ⟨hl, k3, .inl ⟨k1, k2⟩⟩
  · rw [go_kind1 k1]
    obtain ⟨g1, g2, g3, g4⟩ := give_goes k3 (Sx.getV s (stepM m).2.cell)
    exact ⟨hl.trans g4, g1, .inr ⟨by rw [k1]; decide, g2.trans k4, g3.trans k5⟩⟩
  · rw [go_kindN (by rcases k1 with k | k | k <;> rw [k] <;> decide)]
    exact ⟨hl, k2, .inr ⟨by rcases k1 with k | k | k <;> rw [k] <;> decide, k3, k4⟩⟩
theorem go_buf {s : List Nat} {m : Mac} : (goM s m).buf = (stepM m).1.buf := by
  unfold goM
  split
  · exact give_bufs _
  · rfl
theorem cells_mem {l : Wr} {c : Int} : c ∈ cellsOfL l ↔ ∃ t ∈ l, t.1 = c := by unfold cellsOfL; exact List.mem_map
theorem putC_cells {l : Wr} {c : Int} {y : Nat} {P : Int → Prop} (h : ∀ t ∈ l, P t.1) (hc : P c) : ∀ t ∈ putC l c y, P t.1 := fun t ht => by
  have h1 : t.1 ∈ cellsOfL (putC l c y) := cells_mem.2 ⟨t, ht, rfl⟩
  rw [cells_put] at h1
  have h2 : t.1 ∈ cellsOfL l ∨ t.1 = c := by
    split at h1
    · exact .inl h1
    · rcases List.mem_append.1 h1 with h | h
      · exact .inl h
      · exact .inr (by simpa using h)
  rcases h2 with h2 | h2
  · obtain ⟨u, hu, e⟩ := cells_mem.1 h2
    exact e ▸ h u hu
  · exact h2 ▸ hc
theorem Rest.go {s : List Nat} {m : Mac} (h : Rest m) (hs : okS s) : Rest (goM s m) := by
  by_cases h0 : m.how = 0
  · obtain ⟨hl, g1, _⟩ := go_turns (s := s) h.inv h.nw h0
    have hb := step_bufs h.inv h.nw h0
    refine ⟨go_inv h.inv hs, g1, ?_, ?_⟩
    · rw [go_buf, hl.cells]
      rcases hb with ⟨_, e⟩ | ⟨_, e⟩ | ⟨_, e, _⟩ | ⟨_, e, _⟩ | ⟨_, e, _, c1, c2⟩
      iterate 4 (rw [e]; exact h.cel)
      rw [e]
      exact putC_cells (P := fun c => 0 ≤ c ∧ c < m.cells) h.cel ⟨c1, c2⟩
    · rw [go_buf]
      rcases hb with ⟨_, e⟩ | ⟨_, e⟩ | ⟨_, e, _⟩ | ⟨_, e, _⟩ | ⟨_, e, _, c1, c2⟩
      iterate 4 (rw [e]; exact h.nod)
      rw [e]
      exact nodup_put h.nod
  · rw [go_over h.nw h0]
    exact h
end Go.Proofs.YtninicfnhoediaaGreatDoor
namespace Go.Proofs.YtninicfnhoediaaGreatDoor
open Go.ChangeShapes Go.WideShapes Go.ChangeAt Go.RowKit Num
end Go.Proofs.YtninicfnhoediaaGreatDoor
namespace Go.Proofs.YtninicfnhoediaaGreatDoor
open Go.ChangeShapes Go.WideShapes Go.ChangeAt Go.RowKit Num
attribute [local go_sem] run_store_float
end Go.Proofs.YtninicfnhoediaaGreatDoor
namespace Go.Proofs.YtninicfnhoediaaGreatDoor
open Go.ChangeShapes Go.WideShapes Go.ChangeAt Go.RowKit Num
attribute [local go_sem] run_store_float
end Go.Proofs.YtninicfnhoediaaGreatDoor
namespace Go.Proofs.YtninicfnhoediaaGreatDoor.Rr
open Go.ChangeShapes Go.WideShapes Go.ChangeAt Go.RowKit Num
theorem word_set_ne {ws : List Int} {k : Nat} {v j : Int} (hj : 0 ≤ j) (hk : j ≠ (k : Int)) : wordAt (ws.set k v) j = wordAt ws j := by
  unfold wordAt
  rw [List.getD_eq_getElem?_getD, List.getD_eq_getElem?_getD, List.getElem?_set_ne (by omega)]
/-- what a cell's three words say of a stamp -/
def seenW (ws0 : List Int) (b st c : Int) : Nat := if st < wordAt ws0 (3 + b + 3 * c) then fixB (wordAt ws0 (3 + b + 3 * c + 2)).toNat else fixB (wordAt ws0 (3 + b + 3 * c + 1)).toNat
structure Qt (ws0 : List Int) (s : List Nat) (m0 : Mac) (x : Rx) (ws : List Int) : Prop where
  eq : ∀ j : Int, 0 ≤ j → j ≠ 3 + x.th → wordAt ws j = wordAt ws0 j
  st : x.part ≠ 1 → x.stamp = wordAt ws0 2
  rd : 0 ≤ x.cell → x.ver = wordAt ws0 (atW x 0) ∧ (x.sub = 1 → ¬ x.stamp < x.ver) ∧ (x.sub = 2 → ¬ x.stamp < x.ver ∧ x.now = wordAt ws0 (atW x 1)) ∧ (x.sub = 3 → x.stamp < x.ver)
  mc : x.part = 1 → x.m = m0
  mn : x.part ≠ 1 → x.cell < 0 → ∃ j, x.m = runN s j m0
  mr : 0 ≤ x.cell → ∃ j, x.m = (stepM (runN s j m0)).1 ∧ (stepM (runN s j m0)).2.kind = 1 ∧ (stepM (runN s j m0)).2.cell = x.cell
section
variable {ws0 ws : List Int} {s : List Nat} {m0 : Mac} {x : Rx}
theorem Qt.tick (h : Qt ws0 s m0 x ws) : Qt ws0 s m0 (tickX x) ws := ⟨h.eq, h.st, h.rd, h.mc, h.mn, h.mr⟩
theorem qt_new (h1 : x.part = 1) (hc : x.cell < 0) (hm : x.m = m0) : Qt ws0 s m0 x ws0 := ⟨fun _ _ _ => rfl, fun q => absurd h1 q, (fun q => by omega), fun _ => hm, fun q => absurd h1 q, (fun q => by omega)⟩
/-- a step of a read -/
theorem Qt.read (h : Qt ws0 s m0 x ws) (hs : ∀ c, 0 ≤ c → c < x.a → Sx.getV s c = seenW ws0 x.b (wordAt ws0 2) c) (hc : 0 ≤ x.cell) (hca : x.cell < x.a) (hp : x.part ≠ 1) (h1 : 1 ≤ x.sub) (h3 : x.sub ≤ 3) (hth : 0 ≤ x.th ∧ x.th < x.b) : Qt ws0 s m0 (readX x ws) ws := by
  obtain ⟨r1, r2, r3, r4⟩ := h.rd hc
  obtain ⟨j, j1, j2, j3⟩ := h.mr hc
  have ew : ∀ k : Int, 0 ≤ k → wordAt ws (atW x k) = wordAt ws0 (atW x k) := fun k hk => h.eq _ (by unfold atW; omega) (by unfold atW; omega)
  have est := h.st hp
  have G : ∀ v, v = Sx.getV s x.cell → giveM x.m v = runN s (j + 1) m0 := fun v hv => by
    rw [runN_succ, go_kind1 j2, j3, ← j1, hv]
  have hv := hs x.cell hc hca
  unfold seenW at hv
  rw [← est] at hv
  unfold readX
  rw [if_neg (by omega)]
  split
  · next q =>
    exact ⟨h.eq, h.st, fun _ => ⟨r1, (fun y => by cases y), (fun _ => ⟨r2 q, ew 1 (by omega)⟩), (fun y => by cases y)⟩, h.mc, (fun _ y => absurd hc (by show ¬ 0 ≤ x.cell; have : x.cell < 0 := y; omega)), fun _ => ⟨j, j1, j2, j3⟩⟩
  · split
    · next q1 q =>
      have e0 : wordAt ws (atW x 0) = x.ver := (ew 0 (by omega)).trans r1.symm
      rw [if_pos e0]
      refine ⟨h.eq, h.st, (fun y => by have : (0 : Int) ≤ -1 := y; omega), (fun y => absurd y hp), (fun _ _ => ⟨j + 1, ?_⟩), (fun y => by have : (0 : Int) ≤ -1 := y; omega)⟩
      refine G _ ?_
      rw [hv]
      have e1 : 3 + x.b + 3 * x.cell = atW x 0 := by unfold atW; omega
      have e2 : 3 + x.b + 3 * x.cell + 1 = atW x 1 := by unfold atW; omega
      rw [e2, e1, ← r1, if_neg (r3 q).1, ← (r3 q).2]
    · next q1 q2 =>
      have q : x.sub = 3 := by omega
      refine ⟨h.eq, h.st, (fun y => by have : (0 : Int) ≤ -1 := y; omega), (fun y => absurd y hp), (fun _ _ => ⟨j + 1, ?_⟩), (fun y => by have : (0 : Int) ≤ -1 := y; omega)⟩
      refine G _ ?_
      rw [hv, ew 2 (by omega)]
      have e1 : 3 + x.b + 3 * x.cell = atW x 0 := by unfold atW; omega
      have e2 : 3 + x.b + 3 * x.cell + 2 = atW x 2 := by unfold atW; omega
      rw [e2, e1, ← r1, if_pos (r4 q)]
theorem Qt.step (h : Qt ws0 s m0 x ws) (hI : InX x) (hp : x.part ≠ 4) (hs : ∀ c, 0 ≤ c → c < x.a → Sx.getV s c = seenW ws0 x.b (wordAt ws0 2) c) : Qt ws0 s m0 (stepX x ws).1 (stepX x ws).2.1 := by
  have hP := hI.part
  have hth := hI.th
  have hcb := hI.cb
  have set_eq : ∀ v : Int, ∀ j : Int, 0 ≤ j → j ≠ 3 + x.th → wordAt (ws.set (3 + x.th).toNat v) j = wordAt ws0 j := fun v j hj hn => (word_set_ne hj (by omega)).trans (h.eq j hj hn)
  rcases (by omega : x.part = 1 ∨ x.part = 2 ∨ x.part = 3) with e | e | e
  · obtain ⟨c1, c2, _, _, _, _⟩ := hI.p1 e
    have cn : ¬ 0 ≤ x.cell := by omega
    unfold stepX comeX
    rw [if_pos e]
    by_cases d0 : x.sub = 0
    · rw [if_pos (show (tickX x).sub = 0 from d0)]
      exact ⟨h.eq, fun q => absurd e q, (fun q => absurd q cn), h.mc, fun q => absurd e q, (fun q => absurd q cn)⟩
    · rw [if_neg (show ¬ (tickX x).sub = 0 from d0)]
      by_cases d1 : x.sub = 1
      · rw [if_pos (show (tickX x).sub = 1 from d1)]
        exact ⟨set_eq _, fun q => absurd e q, (fun q => absurd q cn), h.mc, fun q => absurd e q, (fun q => absurd q cn)⟩
      · rw [if_neg (show ¬ (tickX x).sub = 1 from d1)]
        refine ⟨h.eq, fun _ => h.eq 2 (by omega) (by omega), (fun q => absurd q cn), (fun q => by cases q), fun _ _ => ⟨0, h.mc e⟩, (fun q => absurd q cn)⟩
  · obtain ⟨h0, hq⟩ := hI.p2 e
    have n1 : ¬ x.part = 1 := by omega
    have n3 : ¬ x.part = 3 := by omega
    unfold stepX
    rw [if_neg n1, if_neg n3]
    show Qt ws0 s m0 (runX (tickX x) ws).1 ws
    unfold runX
    by_cases hc : 0 ≤ x.cell
    · rw [if_pos (show 0 ≤ (tickX x).cell from hc)]
      have hb := hI.toIn0.celB
      have hq2 : 1 ≤ x.sub ∧ x.sub ≤ 3 := by
        rcases hq with q | q
        · omega
        · exact ⟨q.2.2.1, q.2.2.2⟩
      exact h.tick.read hs hc hb.2 n1 hq2.1 hq2.2 hth
    · rw [if_neg (show ¬ 0 ≤ (tickX x).cell from hc)]
      obtain ⟨j, hj⟩ := h.mn n1 (by omega)
      by_cases k1 : (stepM x.m).2.kind = 1
      · rw [if_pos (show (stepM (tickX x).m).2.kind = 1 from k1)]
        have ew : ∀ k : Int, 0 ≤ k → 0 ≤ (stepM x.m).2.cell → wordAt ws (atW (begX (tickX x)) k) = wordAt ws0 (atW (begX (tickX x)) k) := fun k hk hc' => by
          have e2 : atW (begX (tickX x)) k = 3 + x.b + 3 * (stepM x.m).2.cell + k := rfl
          rw [e2]
          exact h.eq _ (by omega) (by omega)
        have hr : readX (begX (tickX x)) ws = { begX (tickX x) with ver := wordAt ws (atW (begX (tickX x)) 0), sub := if (begX (tickX x)).stamp < wordAt ws (atW (begX (tickX x)) 0) then 3 else 1 } := by
          unfold readX
          rw [if_pos (show (begX (tickX x)).sub = 0 from rfl)]
        rw [hr]
        refine ⟨h.eq, fun _ => h.st n1, fun q => ⟨ew 0 (by omega) q, ?_, ?_, ?_⟩, (fun q => absurd q n1), (fun _ q => ?_), fun q => ⟨j, ?_, ?_, ?_⟩⟩
        · dsimp only
          split
          · intro y; omega
          · next z => intro _; exact z
        · dsimp only
          split
          · intro y; omega
          · intro y; omega
        · dsimp only
          split
          · next z => intro _; exact z
          · intro y; omega
        · exfalso
          have ht := step_turns hI.inv (by rcases hq with q' | q'; exact q'.2; omega) h0
          rcases ht.2 with ⟨k4, _⟩ | ⟨_, e1, e2, _⟩ | ⟨k0, _⟩
          · omega
          · have q' : (stepM x.m).2.cell < 0 := q
            omega
          · omega
        · show (stepM x.m).1 = _
          rw [hj]
        · rw [← hj]; exact k1
        · show _ = (stepM x.m).2.cell
          rw [hj]
      · rw [if_neg (show ¬ (stepM (tickX x).m).2.kind = 1 from k1)]
        have E : (stepM x.m).1 = runN s (j + 1) m0 := by rw [runN_succ, ← hj, go_kindN k1]
        by_cases k4 : (stepM x.m).2.kind = 4
        · rw [if_pos (show (stepM (tickX x).m).2.kind = 4 from k4)]
          exact ⟨h.eq, fun _ => h.st n1, (fun q => absurd q hc), (fun q => by cases q), fun _ _ => ⟨j + 1, E⟩, (fun q => absurd q hc)⟩
        · rw [if_neg (show ¬ (stepM (tickX x).m).2.kind = 4 from k4)]
          exact ⟨h.eq, fun _ => h.st n1, (fun q => absurd q hc), (fun q => by cases q), fun _ _ => ⟨j + 1, E⟩, (fun q => absurd q hc)⟩
  · have n1 : ¬ x.part = 1 := by omega
    obtain ⟨_, c2, _⟩ := hI.p3 (.inl e)
    have cn : ¬ 0 ≤ x.cell := by omega
    unfold stepX
    rw [if_neg n1, if_pos e]
    exact ⟨set_eq _, fun _ => h.st n1, (fun q => absurd q cn), (fun q => by cases q), fun _ _ => h.mn n1 (by omega), (fun q => absurd q cn)⟩
end
theorem doT_reads : ∀ f ∈ doT, ∀ (m : Mac) (i : Ins), m.buf = [] → (f m i).1.reads = m.reads := by
  intro f hf m i hb
  simp only [doT, List.mem_cons, List.not_mem_nil, or_false] at hf
  rcases hf with rfl | rfl | rfl | rfl | rfl | rfl | rfl | rfl | rfl | rfl | rfl | rfl | rfl | rfl | rfl | rfl | rfl | rfl | rfl | rfl | rfl
  case _ => rfl
  case _ => rfl
  case _ => rfl
  case _ => rfl
  case _ => rfl
  case _ => rfl
  case _ => rfl
  case _ => rfl
  case _ => rfl
  case _ => rfl
  case _ => rfl
  case _ => rfl
  case _ => rfl
  case _ => rfl
  case _ => rfl
  case _ =>
    show (retM m).1.reads = m.reads
    unfold retM
    split <;> rfl
  case _ =>
    show (readM m).1.reads = m.reads
    unfold readM
    have hh : hasC m.buf (addrV m) = false := by rw [hb]; simp [hasC, idx_nil]
    rw [hh]
    split <;> rfl
  case _ =>
    show (writeM m).1.reads = m.reads
    unfold writeM
    split
    · split
      · split <;> rfl
      · rfl
    · rfl
  case _ => rfl
  case _ => rfl
  case _ => rfl
theorem step_reads {m : Mac} (hb : m.buf = []) : (stepM m).1.reads = m.reads := by
  unfold stepM
  split
  · rfl
  · split
    · split
      · split
        · split
          · show (doM (begM m) (insM m)).1.reads = m.reads
            unfold doM
            rw [List.getD_eq_getElem?_getD]
            cases e : doT[(insM m).op.toNat]? with
            | none => rfl
            | some f => exact doT_reads f (List.mem_of_getElem? e) (begM m) (insM m) hb
          · rfl
        · rfl
      · rfl
    · rfl
theorem run_reads {s : List Nat} (hs : okS s) : ∀ (k : Nat) {m : Mac}, Rest m → m.upd = false → (∀ t ∈ m.reads, (0 ≤ t.1 ∧ t.1 < m.cells) ∧ t.2 = fixB (Sx.getV s t.1)) → ∀ t ∈ (runN s k m).reads, (0 ≤ t.1 ∧ t.1 < m.cells) ∧ t.2 = fixB (Sx.getV s t.1)
  | 0, _, _, _, h => h
  | k + 1, m, hr, hu, h => by
    by_cases h0 : m.how = 0
    · obtain ⟨lk, _, _⟩ := go_turns (s := s) hr.inv hr.nw h0
      have hb := hr.inv.none hu
      rw [runN_cons]
      have R := run_reads hs k (m := goM s m) (hr.go hs) (lk.upd.trans hu)
      rw [lk.cells] at R
      refine R fun t ht => ?_
      by_cases k1 : (stepM m).2.kind = 1
      · rw [go_kind1 k1] at ht
        have tw := step_turns hr.inv hr.nw h0
        rcases tw.2 with ⟨k4, _⟩ | ⟨_, e1, e2, _, _⟩ | ⟨k0, _⟩
        · omega
        · unfold giveM at ht
          rw [if_pos e2] at ht
          have hw := (inv_step hr.inv).wait
          rw [tw.1.cells] at hw
          unfold hasRead at ht
          rcases List.mem_append.1 ht with q | q
          · have q' : t ∈ (stepM m).1.reads := q
            rw [step_reads hb] at q'
            exact h t q'
          · have q' : t = ((stepM m).1.wait, fixB (Sx.getV s (stepM m).2.cell)) := by simpa using q
            rw [q']
            exact ⟨⟨e2, hw.2⟩, by dsimp only; rw [e1]⟩
        · omega
      · rw [go_kindN k1, step_reads hb] at ht
        exact h t ht
    · rw [runN_over hr.nw h0]
      exact h
end Go.Proofs.YtninicfnhoediaaGreatDoor.Rr
namespace Go.Proofs.YtninicfnhoediaaGreatDoor.Rr
open Go.ChangeShapes Go.WideShapes Go.ChangeAt Go.RowKit Num
/-- the numbers that the cells have at the stamp -/
def seenL (ws0 : List Int) (a : Nat) (b : Int) : List Nat := (List.range a).map fun (c : Nat) => seenW ws0 b (wordAt ws0 2) (c : Int)
theorem seenL_len (ws0 : List Int) (a : Nat) (b : Int) : (seenL ws0 a b).length = a := by simp [seenL]
theorem seen_get {ws0 : List Int} {a : Nat} {b c : Int} (h0 : 0 ≤ c) (h1 : c < (a : Int)) : Sx.getV (seenL ws0 a b) c = seenW ws0 b (wordAt ws0 2) c := by
  obtain ⟨k, rfl⟩ := Int.eq_ofNat_of_zero_le h0
  unfold Sx.getV
  rw [if_pos (by rw [seenL_len]; simp [Sx.hasN]; omega)]
  have hk : k < a := by omega
  simp [seenL, hk]
theorem seen_ok {ws0 : List Int} (h : okW ws0) (b st c : Int) : okN (seenW ws0 b st c) := by
  unfold seenW
  split
  · exact okN_fix (by have := h.at (3 + b + 3 * c + 2); have h1 := this.1; have h2 := this.2; omega)
  · exact okN_fix (by have := h.at (3 + b + 3 * c + 1); have h1 := this.1; have h2 := this.2; omega)
theorem seenL_ok {ws0 : List Int} (h : okW ws0) (a : Nat) (b : Int) : okS (seenL ws0 a b) := fun x hx => by
  obtain ⟨c, _, rfl⟩ := List.mem_map.1 hx
  exact seen_ok h b _ _
section
attribute [local go_sem] frombits_run bits_run
theorem lawBits_any {v : Int} (hv : u64B v) (w : World) : Calls Tryz.prog 26 #[.int .u64 v] w fun e w' => e = .returned (.int .u64 (fixB v.toNat : Nat)) ∧ w' = w := by
  obtain ⟨k, rfl⟩ := Int.eq_ofNat_of_zero_le hv.1
  rw [show ((k : Int)).toNat = k from rfl]
  clear hv
  cases g : nan k
  · have h := self_num g
    rw [fixB_num g]
    clear g
    go_enter Tryz.func26, Tryz.ntmps26
    go_wp2
    go_ret
    exact ⟨rfl, rfl⟩
  · have h := self_nan g
    rw [fixB_nan g]
    clear g
    go_enter Tryz.func26, Tryz.ntmps26
    go_wp2
    go_ret
    exact ⟨rfl, rfl⟩
end
theorem deed_reads (t : Int) (na : Nat) (m : Mac) (D : Dd) (mk e0 e1 e2 st : Int) (w : World) : (Instr.field 61 (.agg (dC t na m D mk e0 e1 e2 st)) 7).run Tryz.prog w = .ok (.slice D.pr m.reads.length D.cr) w := by kernel_rfl
/-- behind i steps -/
structure QtI (x0 x : Rx) (ws0 ws : List Int) (s : List Nat) (N i : Nat) (n : Int) : Prop where
  wt : WtI x0 x ws N i n
  qt : Qt ws0 s x0.m x ws
theorem QtI.step {x0 x y : Rx} {ws0 ws ws2 : List Int} {s : List Nat} {N i : Nat} {n n' : Int} {ac : Bool} (h : QtI x0 x ws0 ws s N i n) (hf : x0.m.fuel ≤ 100000) (hs : ∀ c, 0 ≤ c → c < x0.a → Sx.getV s c = seenW ws0 x0.b (wordAt ws0 2) c) (hy : stepX x ws = (y, ws2, ac)) (hn : (if ac then up n else n) = n') : InX y ∧ Alike x0 y ∧ Qt ws0 s x0.m y ws2 ∧ (y.part ≠ 4 → QtI x0 y ws0 ws2 s N (i + 1) n') := by
  obtain ⟨k1, k2, _, _, _, _, _, k8, _⟩ := h.wt.step hf hy hn
  have q := h.qt.step h.wt.inx h.wt.part (by rw [h.wt.al.a, h.wt.al.b]; exact hs)
  rw [hy] at q
  exact ⟨k1, k2, q, fun p => ⟨k8 p, q⟩⟩
theorem Qt.readsAre {x0 y : Rx} {ws0 ws2 : List Int} {s : List Nat} (h : Qt ws0 s x0.m y ws2) (hI : InX y) (hp : y.part = 4) (hR : Rest x0.m) (hs : okS s) (hu : x0.m.upd = false) (hr : x0.m.reads = []) : ∀ t ∈ y.m.reads, (0 ≤ t.1 ∧ t.1 < x0.m.cells) ∧ t.2 = fixB (Sx.getV s t.1) := by
  obtain ⟨e1, e2, _⟩ := hI.p3 (.inr hp)
  obtain ⟨j, hj⟩ := h.mn (by omega) (by omega)
  rw [hj]
  exact run_reads hs j hR hu (fun t ht => by rw [hr] at ht; cases ht)
end Go.Proofs.YtninicfnhoediaaGreatDoor.Rr
namespace Go.Proofs.YtninicfnhoediaaGreatDoor.Rr
open Go.ChangeShapes Go.WideShapes Go.ChangeAt Go.RowKit Num
attribute [local go_sem] run_store_float bits_run
section
variable {W : World} {a b c e th t : Int} {ao : Option Addr} {cs : List Ins} {n cap : Nat} {po : Option Addr} {l : List Nat} {k co : Nat} {pw : Option Addr} {lw : List Int} {kw cw : Nat} {pp : Option Addr} {lp : List (Int × Int)} {kp cp : Nat}
attribute [local go_sem] deed_reads
set_option maxRecDepth 100000 in
set_option maxHeartbeats 4000000 in
theorem sees (h : RideAll W cs l ao po n k lw pw kw lp pp kp) : Calls Tryz.prog 6 #[.agg (rideV a b c e th t ao n cap po k co pw kw cw pp kp cp)] W fun r w' => r = .returned (.bool true) ∧ Below W.heap.size W w' := by
  obtain ⟨w1, hw1⟩ : ∃ w1, w1 = (W.alloc (.cells (rideV a b c e th t ao n cap po k co pw kw cw pp kp cp) 31)) := ⟨_, rfl⟩
  have H0 : Hid (Below W.heap.size W w1 ∧ w1.heap[W.heap.size]? = some (.cells (rideV a b c e th t ao n cap po k co pw kw cw pp kp cp) 31 (0, 0))) := by rw [hw1]; exact ⟨below_alloc _ _, heap_alloc_new _ _⟩
  have HL : Hid (Calls Tryz.prog 9 #[] w1 fun e w' => e = .returned (.bool true) ∧ Below w1.heap.size w1 w') := live_any (h.at_.sh.on H0.out.1)
  have HG : Hid (∀ u, Below w1.heap.size w1 u → Calls Tryz.prog 10 #[.agg (rideV a b c e th t ao n cap po k co pw kw cw pp kp cp)] u fun r w' => ∃ q1 q2, r = .returned (.tuple #[.pointer q1, .pointer q2]) ∧ Hid ((mayX a b c e k th = true ∧ ∃ bx bd, q1 = some ⟨bx, 0, none⟩ ∧ q2 = some ⟨bd, 0, none⟩ ∧ Bgn u w' bx bd (newX a b c e t cs l th) ao cs) ∨ (mayX a b c e k th = false ∧ q1 = none ∧ q2 = none ∧ Below u.heap.size u w'))) := fun u q => begun_any ((h.at_.on H0.out.1).on q)
  have HX := Lib.hid (h.on H0.out.1)
  have HRC : Hid (∀ u, Below w1.heap.size w1 u → u.cell? ⟨W.heap.size, 0, none⟩ = some (.int .i64 a) ∧ u.cell? ⟨W.heap.size, 1, none⟩ = some (.int .i64 b) ∧ u.cell? ⟨W.heap.size, 2, none⟩ = some (.int .i64 c) ∧ u.cell? ⟨W.heap.size, 3, none⟩ = some (.int .i64 e) ∧ u.cell? ⟨W.heap.size, 4, none⟩ = some (.int .i64 th) ∧ u.cell? ⟨W.heap.size, 5, none⟩ = some (.int .i64 t) ∧ u.cell? ⟨W.heap.size, 6, none⟩ = some (.slice ao n cap) ∧ u.cell? ⟨W.heap.size, 7, none⟩ = some (.slice po k co) ∧ u.cell? ⟨W.heap.size, 8, none⟩ = some (.slice pw kw cw) ∧ u.cell? ⟨W.heap.size, 9, none⟩ = some (.slice pp kp cp) ∧ W.heap.size < u.heap.size) := fun u q => ride_cells ((q.block _ (lt_of_block H0.out.2)).trans H0.out.2)
  clear h
  go_enter Tryz.func6, Tryz.ntmps6
  go_upto_region 3 with (first
    | (go_at_call 10; refine (HG.out _ H1.out).mono ?_; rintro r u2 ⟨q1, q2, rfl, H2⟩; clear HG)
    | (go_at_call 9; try simp only [← hw1]; refine HL.out.mono ?_; rintro r u1 ⟨rfl, q⟩; have H1 := Lib.hid q; obtain ⟨x0, x1, x2, x3, x4, x5, x6, x7, x8, x9, xb⟩ := HRC.out _ q; clear q HL))
  clear x0 x1 x2 x3 x4 x5 x6 x7 x8 x9 xb hw1
  rcases H2.out with ⟨hm, bx, bd, rfl, rfl, hB⟩ | ⟨hm, rfl, rfl, hB⟩
  rotate_left
  · have HB := Lib.hid (H0.out.1.trans ((H1.out.trans (hB.mono H1.out.size)).mono H0.out.1.size))
    clear hB H2
    go_wp2_with fail
    go_ret
    exact ⟨rfl, HB.out⟩
  have HI := Lib.hid (HX.out.at_.inX (t := t) hm)
  have hcf : Md.cfgB a b c e = true := by simp only [mayX, Bool.and_eq_true] at hm; exact hm.1.1
  obtain ⟨N, hN⟩ : ∃ N : Nat, 3 + b + 3 * a = (N : Int) := ⟨(3 + b + 3 * a).toNat, by have := Md.cfgB_iff.1 hcf; omega⟩
  have N1 : 1 ≤ N := by have := Md.cfgB_iff.1 hcf; omega
  have HFU : Hid (1 ≤ c ∧ c ≤ 100000) := by have := Md.cfgB_iff.1 hcf; exact ⟨by omega, by omega⟩
  have HB2 : Hid (Below w1.heap.size w1 u2) := H1.out.trans (hB.bl.mono H1.out.size)
  have HLA : Hid (Calls Tryz.prog 11 #[cfgV a b c e, .slice pw kw cw] u2 fun r w' => ∃ mb bw, r = .returned (.tuple #[.pointer (some ⟨mb, 0, none⟩), .pointer (some ⟨bw, 0, none⟩)]) ∧ Hid (∃ mg gw ws, Laid u2 w' N mb mg bw gw ws)) := laid_any hcf ((HX.out.on HB2.out).words) HX.out.wl HX.out.wx HX.out.wb hN
  have HBG := Lib.hid hB
  obtain ⟨x0, x1, x2, x3, x4, x5, x6, x7, x8, x9, xb⟩ := HRC.out _ HB2.out
  clear H2 hB
  go_upto_region 6 with (go_at_call 11; refine HLA.out.mono ?_; rintro r u3 ⟨mb, bw, rfl, H3⟩; clear HLA)
  have HN : Hid (3 + b + 3 * a = (N : Int)) := hN
  have HBO : Hid (∃ mg gw ws z zd, ws.length = N ∧ okW ws ∧ zd.cs = cs ∧ Both w1 u3 bx z mb mg (newX a b c e t cs l th) ws false 0 bd zd bw gw (newX a b c e t cs l th) ws 0) := by
    obtain ⟨mg, gw, ws, q⟩ := H3.out
    obtain ⟨z, zd, k1, k2⟩ := both_new H1.out HBG.out (by show (-1 : Int) < 0; omega) q.mem q.wds q.bl q.am q.ag q.aw q.av q.sep
    exact ⟨mg, gw, ws, z, zd, q.len, q.ok, k1, k2⟩
  obtain ⟨mg, gw, ws, z, zd, hwl, hwo, hzd, hbo⟩ := HBO.out
  have HB3 := Lib.hid hbo
  have HW3 : Hid (ws.length = N ∧ okW ws) := ⟨hwl, hwo⟩
  clear H3 HBO hbo hwl hwo hN hcf hm HBG HB2 x0 x1 x2 x3 x4 x5 x6 x7 x8 x9 xb
  obtain ⟨x0, hx0⟩ : ∃ x0, x0 = newX a b c e t cs l th := ⟨_, rfl⟩
  obtain ⟨x0', x1', x2', x3', x4', x5', x6', x7', x8', x9', xb'⟩ := HRC.out _ HB3.out.below
  clear x0' x1' x2' x3' x4' x6' x7' x8' x9'
  have HBZ : Hid (Below W.heap.size W u3) := H0.out.1.trans (HB3.out.below.mono H0.out.1.size)
  by_cases ht2 : t = 2
  · have ht2' : (t == 2) = true := by simp [ht2]
    clear ht2
    go_wp2_with fail
    go_ret
    exact ⟨rfl, HBZ.out⟩
  have ht2' : (t == 2) = false := by simp [ht2]
  have HX0 : Hid (x0.m.fuel = c ∧ plW x0 = (N : Int) ∧ InX x0 ∧ x0.part = 1 ∧ x0.steps = 0 ∧ x0.m.upd = false ∧ x0.m.reads = [] ∧ x0.cell < 0 ∧ x0.b = b ∧ x0.a = a ∧ x0.m.cells = a ∧ Rest x0.m) := by
    rw [hx0]
    refine ⟨rfl, HN.out, HI.out, rfl, rfl, ht2', rfl, (by show (-1 : Int) < 0; omega), rfl, rfl, rfl, ?_⟩
    exact ⟨HI.out.inv, by show ¬ (0 : Int) ≤ -1; omega, (fun t ht => by cases ht), List.nodup_nil⟩
  obtain ⟨an, han⟩ : ∃ an : Nat, a = (an : Int) := ⟨a.toNat, by have := HX0.out.2.2.1.ca; rw [HX0.out.2.2.2.2.2.2.2.2.2.1] at this; omega⟩
  obtain ⟨s, hs⟩ : ∃ s, s = seenL ws an b := ⟨_, rfl⟩
  have HS : Hid (okS s ∧ ∀ c, 0 ≤ c → c < x0.a → Sx.getV s c = seenW ws x0.b (wordAt ws 2) c) := by
    rw [hs]
    refine ⟨seenL_ok HW3.out.2 _ _, fun c h0 h1 => ?_⟩
    rw [HX0.out.2.2.2.2.2.2.2.2.1]
    exact seen_get h0 (by rw [← han, ← HX0.out.2.2.2.2.2.2.2.2.2.1]; exact h1)
  rw [← hx0] at HB3
  have HBB : Hid (x0.b = b ∧ x0.a = a ∧ 1 ≤ b ∧ b ≤ 8 ∧ 1 ≤ a ∧ a ≤ 256 ∧ 3 + b + 3 * a = (N : Int)) := by
    have h1 := HX0.out.2.2.1.ca
    have h2 := HX0.out.2.2.1.cb
    rw [HX0.out.2.2.2.2.2.2.2.2.2.1] at h1
    rw [HX0.out.2.2.2.2.2.2.2.2.1] at h2
    exact ⟨HX0.out.2.2.2.2.2.2.2.2.1, HX0.out.2.2.2.2.2.2.2.2.2.1, h2.1, h2.2, h1.1, h1.2, HN.out⟩
  clear hx0 HI HN H1 hs han
  obtain ⟨ws0, hws0⟩ : ∃ ws0, ws0 = ws := ⟨_, rfl⟩
  rw [← hws0] at HS HB3 HW3
  clear hws0
  have HMO : Hid (∀ u, Calls Tryz.prog 12 #[cfgV a b c e] u fun r w' => r = .returned (.int .i64 (c * 4 + 6)) ∧ Below u.heap.size u w') := fun u => most_any a b c e u ⟨by have := HFU.out; omega, by have := HFU.out; omega⟩
  go_upto_region 8 with fail
  clear x5' xb' ht2' ht2 HBZ
  go_wp2_with fail
  go_loopw [8] (fun vi wr => ∃ i : Nat, vi = .int .i64 i ∧ Hid (∃ x ws o n, QtI x0 x ws0 ws s N i n ∧ Both w1 wr bx z mb mg x ws o n bd zd bw gw x0 ws0 0)) (fun vi _ => (c * 4 + 6).toNat - (intOf vi).toNat)
  case atStart => exact ⟨0, rfl, x0, ws0, false, 0, ⟨⟨HX0.out.2.2.1, by rw [HX0.out.2.2.2.1]; omega, HX0.out.2.2.2.2.1, Alike.refl _, HW3.out.2, HW3.out.1, by omega⟩, qt_new HX0.out.2.2.2.1 HX0.out.2.2.2.2.2.2.2.1 rfl⟩, HB3.out⟩
  case round =>
    obtain ⟨i, rfl, HR⟩ := hrel
    clear HB3
    obtain ⟨x, ws, o, n0, hI, hB⟩ := HR.out
    have HQ := Lib.hid hI
    have HB := Lib.hid hB
    obtain ⟨x0', x1', x2', x3', x4', x5', x6', x7', x8', x9', xb'⟩ := HRC.out _ hB.below
    clear HR hI hB x4' x5' x6' x7' x8' x9'
    have hb := HQ.out.wt.bound
    rw [HX0.out.1] at hb
    have hlt : (i : Int) < c * 4 + 6 := by omega
    obtain ⟨y, ws2, ac, hy⟩ : ∃ y ws2 ac, stepX x ws = (y, ws2, ac) := ⟨_, _, _, rfl⟩
    obtain ⟨n', hn'⟩ : ∃ n', (if ac then up n0 else n0) = n' := ⟨_, rfl⟩
    have HSP := Lib.hid (HQ.out.step (by rw [HX0.out.1]; exact HFU.out.2) HS.out.2 hy hn')
    have c4 : c ≤ 100000 := HFU.out.2
    by_cases hov : y.part = 4
    · have HST : Hid (∀ u, Both w1 u bx z mb mg x ws o n0 bd zd bw gw x0 ws0 0 → Calls Tryz.prog 14 #[.pointer (some ⟨bx, 0, none⟩), .pointer (some ⟨mb, 0, none⟩)] u fun r w' => r = .returned (.tuple #[.bool true, .int .i64 0]) ∧ Both w1 w' bx z mb mg y ws2 (!ac) n' bd zd bw gw x0 ws0 0) := fun u q => q.step HX.out.at_.sh HQ.out.wt.inx HQ.out.wt.part (by rw [plW_alike HQ.out.wt.al, HX0.out.2.1, HQ.out.wt.len]; omega) HQ.out.wt.ok hy hn' (by rw [hov]; decide)
      have HRS : Hid (∀ t ∈ y.m.reads, (0 ≤ t.1 ∧ t.1 < a) ∧ t.2 = seenW ws0 b (wordAt ws0 2) t.1) := fun t ht => by
        have q := HSP.out.2.2.1.readsAre HSP.out.1 hov HX0.out.2.2.2.2.2.2.2.2.2.2.2 HS.out.1 HX0.out.2.2.2.2.2.1 HX0.out.2.2.2.2.2.2.1 t ht
        rw [HX0.out.2.2.2.2.2.2.2.2.2.2.1] at q
        refine ⟨q.1, ?_⟩
        rw [q.2, HS.out.2 t.1 q.1.1 (by rw [HBB.out.2.1]; exact q.1.2), HBB.out.1]
        unfold seenW
        split <;> exact fixB_fixB _
      obtain ⟨m, hm⟩ : ∃ m, y.m = m := ⟨_, rfl⟩
      obtain ⟨lr, hlr⟩ : ∃ lr, m.reads = lr := ⟨_, rfl⟩
      obtain ⟨nr, hnr⟩ : ∃ nr, lr.length = nr := ⟨_, rfl⟩
      rw [hm, hlr] at HRS
      have HDE : Hid (∀ u, Both w1 u bx z mb mg y ws2 (!ac) n' bd zd bw gw x0 ws0 0 → Calls Tryz.prog 20 #[.pointer (some ⟨bx, 0, none⟩)] u fun r w' => ∃ tg na D mk e0 e1 e2 st, r = .returned (.agg (dC tg na m D mk e0 e1 e2 st)) ∧ TRow w' D.pr D.cr lr ∧ Below u.heap.size u w') := fun u q => (q.deedF HSP.out.1.toIn0 rfl rfl rfl rfl hm rfl rfl rfl rfl).mono (by
        rintro r w' ⟨D, q1, q2, q3⟩
        rw [← hlr]
        exact ⟨_, _, D, _, _, _, _, _, q1, q2.r, q3⟩)
      have hfl : nr ≤ 9223372036854775807 := by
        have := (few_lists HSP.out.1.toIn0).2.1
        rw [hm, hlr, hnr] at this
        exact this
      clear hy hn' hov hb hm
      go_upto_region 15 with (first
        | (go_at_call 12; refine (HMO.out _).mono ?_; rintro r u4 ⟨rfl, q⟩; have H4 := Lib.hid (HB.out.on q); clear q HMO)
        | (go_at_call 14; refine (HST.out _ H4.out).mono ?_; rintro r u5 ⟨rfl, q⟩; have H5 := Lib.hid q; clear q HST H4))
      clear x0' x1' x2' x3' xb' HB HQ hlt
      have HCD : Hid (∀ u, Both w1 u bx z mb mg y ws2 (!ac) n' bd zd bw gw x0 ws0 0 → (u.cell? ⟨bd, 2, none⟩ = some (.int .i64 2) ∧ u.cell? ⟨bd, 4, none⟩ = some (.int .i64 (3 + b)) ∧ bd < u.heap.size) ∧ (u.cell? ⟨bw, 0, none⟩ = some (.slice (some ⟨gw, 0, none⟩) N N) ∧ bw < u.heap.size ∧ gw < u.heap.size) ∧ ∀ k, k < N → u.cell? ⟨gw, k, none⟩ = some (.int .u64 (ws0.getD k 0))) := fun u q => by
        obtain ⟨d2, _, d4, d5⟩ := q.plan
        rw [HBB.out.1] at d4
        have c0 := q.words.cell0
        rw [HW3.out.1] at c0
        exact ⟨⟨d2, d4, d5⟩, ⟨c0, q.words.ltB, q.words.ltG⟩, fun k hk => q.words.word (by rw [HW3.out.1]; exact hk)⟩
      obtain ⟨⟨d2, _, d5⟩, ⟨c0, cb, cg⟩, cw⟩ := HCD.out _ H5.out
      have N3 : 2 < N := by have := HBB.out; omega
      have g2 := cw 2 N3
      obtain ⟨sp, hsp⟩ : ∃ sp, ws0.getD 2 0 = sp := ⟨_, rfl⟩
      rw [hsp] at g2
      have hN2 : (2 : Int) < (N : Int) := by omega
      go_cut [11] (fun v11 wc => v11 = .int .u64 sp ∧ Hid (Both w1 wc bx z mb mg y ws2 (!ac) n' bd zd bw gw x0 ws0 0))
      case first =>
        refine wp_region_seq (fun u => u.cell? ⟨bd, 2, none⟩ = some (.int .i64 2) ∧ u.cell? ⟨bw, 0, none⟩ = some (.slice (some ⟨gw, 0, none⟩) N N) ∧ u.cell? ⟨gw, 2, none⟩ = some (.int .u64 sp) )  ((0, true) :: (1, true) :: (2, true) :: (3, true) :: (4, true) :: (5, true) :: (6, true) :: (7, true) :: (8, true) :: (9, true) :: (10, true) :: (11, true) :: [])  Md.Cv.follows13 (by kernel_rfl) (fun _ _ _ _ _ h => h)  ⟨d2, c0, g2⟩ ?_
        (repeat (first | (refine wpSeq_take (v := ?_) rfl (by rfl) (fun wq hSq => ?_) ?_; rotate_left; (focus ((try dsimp only at hSq); go_simp; try with_reducible rfl)); simp only [Act.put, List.setIfInBounds_toArray, List.set_cons_zero, List.set_cons_succ]) | (refine wpSeq_skip rfl (by rfl) ?_; simp only [Act.put, List.setIfInBounds_toArray, List.set_cons_zero, List.set_cons_succ])))
        refine wpSeq_nil ?_
        go_wp2_with fail
        go_meet
        exact ⟨rfl, H5.out.on ((Same.drew _).below _)⟩
      case rest =>
        obtain ⟨rfl, H6⟩ := hcut
        clear H5 d2 d5 c0 cb cg cw g2 hN2
        go_wp2_with (go_at_call 20; refine (HDE.out _ H6.out).mono ?_; rintro r u8 ⟨tg, na, D, mk, e0, e1, e2, st, rfl, q1, q2⟩; have H8 := Lib.hid (And.intro (H6.out.on q2) q1); clear q1 q2 HDE)
        obtain ⟨pr, hpr⟩ : ∃ pr, D.pr = pr := ⟨_, rfl⟩
        obtain ⟨cr, hcr⟩ : ∃ cr, D.cr = cr := ⟨_, rfl⟩
        rw [hpr, hcr] at H8
        rw [hpr, hcr]
        have HBI : Hid (∀ v, u64B v → ∀ u, Calls Tryz.prog 26 #[.int .u64 v] u fun e w' => e = .returned (.int .u64 (fixB v.toNat : Nat)) ∧ w' = u) := fun v hv u => lawBits_any hv u
        have HNR := Lib.hid hnr
        clear hpr hcr hlr hnr H6
        go_loopw [90] (fun vi wr => ∃ k : Nat, vi = .int .i64 k ∧ k ≤ nr ∧ Hid (Below u8.heap.size u8 wr)) (fun vi _ => nr - (intOf vi).toNat)
        case atStart => exact ⟨0, rfl, Nat.zero_le _, Below.refl _ _⟩
        case round =>
          obtain ⟨kk, rfl, hk, HR⟩ := hrel
          obtain ⟨wo, hwo⟩ : ∃ wo, wo = wr := ⟨_, rfl⟩
          by_cases hlt : kk < nr
          · have hlt' : (kk : Int) < (nr : Int) := by omega
            have HT := (H8.out.2.on HR.out)
            obtain ⟨g, hp, hg, q1, q2⟩ := trow_at HT HNR.out kk hlt
            have hmem : lr.getD kk (0, 0) ∈ lr := by
              have hl : kk < lr.length := by rw [HNR.out]; exact hlt
              rw [show lr.getD kk (0, 0) = lr[kk] by simp [hl]]
              exact List.getElem_mem hl
            obtain ⟨⟨z0, z1⟩, z2⟩ := HRS.out _ hmem
            generalize (lr.getD kk (0, 0)).1 = cc at q1 z0 z1 z2
            generalize (lr.getD kk (0, 0)).2 = vv at q2 z2
            subst hp
            clear HT hmem
            obtain ⟨A, hA⟩ : ∃ A : Nat, (A : Int) = 3 + b + 3 * cc := ⟨(3 + b + 3 * cc).toNat, by have := HBB.out; omega⟩
            have hA2 : A + 2 < N := by have := HBB.out; omega
            have HAN : Hid (vv = if sp < ws0.getD A 0 then fixB (ws0.getD (A + 2) 0).toNat else fixB (ws0.getD (A + 1) 0).toNat) := by
              rw [z2]
              unfold seenW
              rw [← hA, show wordAt ws0 2 = sp from hsp]
              rfl
            have HBO := Lib.hid (H8.out.1.on HR.out)
            have HW1 : Hid (IntKind.i64.wrap (3 * cc) = 3 * cc ∧ IntKind.i64.wrap (3 + b + 3 * cc) = (A : Int)) := by
              have h1 := HBB.out
              exact ⟨Go.IntWalk.i64_in _ ⟨by omega, by omega⟩, (Go.IntWalk.i64_in _ ⟨by omega, by omega⟩).trans hA.symm⟩
            have z0' : ¬ cc < 0 := by omega
            have hNb : N ≤ 4096 := by have := HBO.out.words.many; rw [HW3.out.1] at this; exact this
            clear z2 z1 hA
            go_upto_region 19 with fail
            obtain ⟨w9, hw9⟩ : ∃ w9, w9 = wr.alloc (.cells #[.int .i64 cc, .float .f64 vv] 73) := ⟨_, rfl⟩
            have H9 : Hid (Both w1 w9 bx z mb mg y ws2 (!ac) n' bd zd bw gw x0 ws0 0 ∧ w9.heap[wr.heap.size]? = some (.cells #[.int .i64 cc, .float .f64 vv] 73) ∧ Below u8.heap.size u8 w9) := by rw [hw9]; exact ⟨HBO.out.on (below_alloc _ _), heap_alloc_new _ _, HR.out.trans ((below_alloc _ _).mono HR.out.size)⟩
            rw [← hw9]
            clear hw9 HBO q1 q2 hg
            obtain ⟨⟨_, d4, d5⟩, ⟨c0, cb, cg⟩, cw⟩ := HCD.out _ H9.out.1
            obtain ⟨t0, t1, tl⟩ := cells2 H9.out.2.1
            go_cut [14] (fun v14 wc => v14 = .int .i64 (A : Int) ∧ Hid (Same w9 wc))
            case first =>
              refine wp_region_seq (fun u => u.cell? ⟨bd, 4, none⟩ = some (.int .i64 (3 + b)) ∧ u.cell? ⟨wr.heap.size, 0, none⟩ = some (.int .i64 cc) )  ((0, true) :: (1, true) :: (2, true) :: (3, true) :: (4, true) :: (5, true) :: (6, true) :: (7, true) :: (8, true) :: (9, true) :: [])  Md.Cv.follows13 (by kernel_rfl) (fun _ _ _ _ _ h => h)  ⟨d4, t0⟩ ?_
              (repeat (first | (refine wpSeq_take (v := ?_) rfl (by rfl) (fun wq hSq => ?_) ?_; rotate_left; (focus ((try dsimp only at hSq); go_simp; try with_reducible rfl)); simp only [Act.put, List.setIfInBounds_toArray, List.set_cons_zero, List.set_cons_succ]) | (refine wpSeq_skip rfl (by rfl) ?_; simp only [Act.put, List.setIfInBounds_toArray, List.set_cons_zero, List.set_cons_succ])))
              refine wpSeq_nil ?_
              rw [HW1.out.1, HW1.out.2]
              go_wp2_with fail
              go_meet
              exact ⟨rfl, Same.drew _⟩
            case rest =>
              obtain ⟨rfl, HSM⟩ := hcut
              have HZ : Hid (Both w1 wc bx z mb mg y ws2 (!ac) n' bd zd bw gw x0 ws0 0 ∧ wc.heap[wr.heap.size]? = some (.cells #[.int .i64 cc, .float .f64 vv] 73) ∧ Below u8.heap.size u8 wc) := ⟨H9.out.1.on (HSM.out.below _), by rw [HSM.out.heap]; exact H9.out.2.1, H9.out.2.2.trans (HSM.out.below _)⟩
              clear d4 d5 c0 cb cg cw t0 t1 tl H9 HSM HW1 HR
              obtain ⟨⟨_, _, _⟩, ⟨c0, cb, cg⟩, cw⟩ := HCD.out _ HZ.out.1
              obtain ⟨t0, t1, tl⟩ := cells2 HZ.out.2.1
              have a0 := cw A (by omega)
              have a1 := cw (A + 1) (by omega)
              have a2 := cw (A + 2) hA2
              obtain ⟨A1, hA1⟩ : ∃ A1 : Nat, A + 1 = A1 := ⟨_, rfl⟩
              obtain ⟨A2, hA2'⟩ : ∃ A2 : Nat, A + 2 = A2 := ⟨_, rfl⟩
              have HU : Hid (u64B (ws0.getD A1 0) ∧ u64B (ws0.getD A2 0)) := ⟨getD_ok HW3.out.2 _, getD_ok HW3.out.2 _⟩
              rw [hA1] at a1 HAN
              rw [hA2'] at a2 HAN
              generalize ws0.getD A 0 = ver at a0 HAN
              generalize ws0.getD A1 0 = now at a1 HAN HU
              generalize ws0.getD A2 0 = was at a2 HAN HU
              have s1 : IntKind.i64.wrap ((A : Int) + 1) = (A1 : Int) := (Go.IntWalk.i64_in _ ⟨by omega, by omega⟩).trans (by omega)
              have s2 : IntKind.i64.wrap ((A : Int) + 2) = (A2 : Int) := (Go.IntWalk.i64_in _ ⟨by omega, by omega⟩).trans (by omega)
              have l0 : (A : Int) < (N : Int) := by omega
              have l1 : (A1 : Int) < (N : Int) := by omega
              have l2 : (A2 : Int) < (N : Int) := by omega
              have l3 : ¬ (N : Int) ≤ (A2 : Int) := by omega
              clear hA1 hA2' hA2 cw
              by_cases hvs : sp < ver
              · have hvv := HAN.out
                rw [if_pos hvs] at hvv
                have nn : (((vv : Nat) : Int) != ((fixB was.toNat : Nat) : Int)) = false := by rw [hvv]; simp
                clear HAN hvv
                go_wp2_with (first
                  | (go_at_call 26; refine (HBI.out now HU.out.1 _).mono ?_; rintro r u9 ⟨rfl, hw⟩; subst u9)
                  | (go_at_call 26; refine (HBI.out was HU.out.2 _).mono ?_; rintro r u9 ⟨rfl, hw⟩; subst u9))
                exact ⟨⟨kk + 1, by first | rfl | (congr 1), by omega, HZ.out.2.2⟩, by simp [intOf]; omega⟩
              · have hvv := HAN.out
                rw [if_neg hvs] at hvv
                have nn : (((vv : Nat) : Int) != ((fixB now.toNat : Nat) : Int)) = false := by rw [hvv]; simp
                clear HAN hvv
                go_wp2_with (go_at_call 26; refine (HBI.out now HU.out.1 _).mono ?_; rintro r u9 ⟨rfl, hw⟩; subst u9)
                exact ⟨⟨kk + 1, by first | rfl | (congr 1), by omega, HZ.out.2.2⟩, by simp [intOf]; omega⟩
          · have hlt' : ¬ (kk : Int) < (nr : Int) := by omega
            have HZ : Hid (Below W.heap.size W wr) := H0.out.1.trans (((H8.out.1.on HR.out).below).mono H0.out.1.size)
            go_wp2_with fail
            go_ret
            exact ⟨rfl, HZ.out⟩
    · have HST : Hid (∀ u, Both w1 u bx z mb mg x ws o n0 bd zd bw gw x0 ws0 0 → Calls Tryz.prog 14 #[.pointer (some ⟨bx, 0, none⟩), .pointer (some ⟨mb, 0, none⟩)] u fun r w' => r = .returned (.tuple #[.bool false, .int .i64 0]) ∧ Both w1 w' bx z mb mg y ws2 (!ac) n' bd zd bw gw x0 ws0 0) := fun u q => q.step HX.out.at_.sh HQ.out.wt.inx HQ.out.wt.part (by rw [plW_alike HQ.out.wt.al, HX0.out.2.1, HQ.out.wt.len]; omega) HQ.out.wt.ok hy hn' (decide_eq_false (by omega))
      have HN := Lib.hid (HSP.out.2.2.2 hov)
      clear hy hn' hov hb
      go_wp2_with (first
        | (go_at_call 12; refine (HMO.out _).mono ?_; rintro r u4 ⟨rfl, q⟩; have H4 := Lib.hid (HB.out.on q); clear q HMO)
        | (go_at_call 14; refine (HST.out _ H4.out).mono ?_; rintro r u5 ⟨rfl, q⟩; have H5 := Lib.hid q; clear q HST H4))
      exact ⟨⟨i + 1, by first | rfl | (congr 1), y, ws2, _, n', HN.out, H5.out⟩, by simp [intOf]; omega⟩
end
end Go.Proofs.YtninicfnhoediaaGreatDoor.Rr
