/- stage 19 (asm): Program -/
import Derived.Test.YtaliehikdidiaaaDoorN6
import Derived.Deep.RegionHeld
import Derived.Deep.CutBlock
import Derived.Deep.DeepCutAuto
import Derived.Laws.ResultCell
namespace Go.Proofs.YtaliehikdidiaaaDoor.As
open Go.ChangeShapes Go.WideShapes Go.ChangeAt Go.RowKit Num Go.Maps
attribute [local go_sem] run_store_float frombits_run bits_run

section
variable {w w' u w3 : World} {b : Nat} {s : Bs} {v : Bv} {F : List Nat}
theorem cloneI_nil (w : World) : Calls Tryd.prog 50 #[.slice none 0 0] w fun e w' => e = .returned (.slice none 0 0) ∧ w' = w := by
  have hq := fun w => Lib.run_eql_slice_nil (P := Tryd.prog) w 22 63 none 0 0 0 0 Tryd.underlying22
  go_enter Tryd.func50, Tryd.ntmps50
  go_wp2
  go_ret
  exact ⟨rfl, rfl⟩
set_option maxRecDepth 100000 in
theorem cloneI_some {g c n : Nat} {xs : List Value} (hn : xs.length = n * 3) (hx : ∀ j y, xs[j]? = some y → w.cell? ((⟨g, 0, none⟩ : Addr).add j) = some y) (h1 : ∀ y ∈ xs, y.oneCell' = true) (hz : n ≤ 5864062014805) : Calls Tryd.prog 50 #[.slice (some ⟨g, 0, none⟩) n c] w fun e w' => ∃ p' c', e = .returned (.slice p' n c') ∧ w'.ownsRow w.heap.size 63 3 (.slice p' n c') n xs ∧ Below w.heap.size w w' := by
  have hq := fun w c => Lib.run_eql_slice_nil (P := Tryd.prog) w 22 63 (some ⟨g, 0, none⟩) n c 0 0 Tryd.underlying22
  have HX : Hid (∀ j y, xs[j]? = some y → (w.alloc (.cells #[] 63)).cell? ((⟨g, 0, none⟩ : Addr).add j) = some y) := fun j y hj => ((bl1 w _).cell (World.block_lt_of_cell? w _ (hx j y hj))).trans (hx j y hj)
  have H1 := Lib.hid (And.intro h1 (And.intro hn hz))
  have HO : Hid ((w.alloc (.cells #[] 63)).ownsRow w.heap.size 63 3 (.slice (some ⟨w.heap.size, 0, none⟩) 0 0) 0 []) := ⟨rfl, .inr ⟨w.heap.size, 0, #[], rfl, Nat.le_refl _, heap_alloc_new _ _, Nat.le_refl _, Nat.zero_le _, by simp, by simp⟩⟩
  obtain ⟨i0, hi, hz0, hz1, hz2⟩ := info_parts insInfo
  have HZI := Lib.hid (And.intro hi (And.intro hz0 (And.intro hz1 hz2)))
  clear hi hz0 hz1 hz2 hx h1 hz hn
  go_enter Tryd.func50, Tryd.ntmps50
  go_wp2_with (at_builtin; refine wpList_append_own_at _ rfl _ _ 22 rfl w.heap.size 63 i0 _ 3 24 Tryd.underlying22 HZI.out.1 HZI.out.2.1 HZI.out.2.2.1 HZI.out.2.2.2 rfl (by decide) _ 0 [] rfl HO.out ⟨g, 0, none⟩ n _ xs rfl H1.out.2.1 HX.out H1.out.1 (by have := H1.out.2.2; unfold maxLen; omega) (by have := H1.out.2.2; omega) (by simp) ?_; intro v w3 hown hgrow hnil hloc; have HS := Lib.hid (And.intro hown hgrow); clear hown hgrow hnil hloc)
  have ho3 := HS.out.1
  rw [List.nil_append, Nat.zero_add] at ho3
  obtain ⟨p', c', hv⟩ : ∃ p' c', v = .slice p' n c' := by
    rcases ho3.2 with ⟨rfl, h0⟩ | ⟨g, cap, cur, rfl, _⟩
    · exact ⟨none, 0, by rw [h0]⟩
    · exact ⟨_, cap, rfl⟩
  subst hv
  have hb3 : Below w.heap.size w w3 := (bl1 w _).grown HS.out.2 (by simp) (fun j hj => by
    have := hj
    simp [Act.eval, Value.ownBlock] at this
    omega)
  have HF := Lib.hid (And.intro ho3 hb3)
  clear ho3 hb3 HS H1
  go_wp2
  go_ret
  exact ⟨_, _, rfl, HF.out.1, HF.out.2⟩
/-- a copy of a row of instructions -/
theorem clone_any {p : Option Addr} {c n : Nat} {l : List Ins} (h : RowW 63 3 w p c n (codC l)) (hn : n < lim) : Calls Tryd.prog 50 #[.slice p n c] w fun e w' => ∃ p' c', e = .returned (.slice p' n c') ∧ Hid (RowW 63 3 w' p' c' n (codC l) ∧ Abv w.heap.size (fpR p') ∧ Below w.heap.size w w') := by
  unfold lim at hn
  rcases h.own.2 with ⟨q, h0⟩ | ⟨g, cap, cur, hv, _, hg, hc, hm, hs, ht⟩
  · cases q
    refine (cloneI_nil w).mono ?_
    rintro e w' ⟨rfl, rfl⟩
    exact ⟨none, 0, rfl, h, fun k hk => by simp [fpR] at hk, Below.refl _ _⟩
  · cases hv
    refine (cloneI_some h.len (fun j y hj => ?_) (codC_one l) (by omega)).mono ?_
    · rw [Go.WideShapes.add_plain, cell_of_row _ _ _ _ _ _ hg, Nat.zero_add]
      have h1 : cur.toList[j]? = (cur.toList.take (n * 3))[j]? := by
        have := (List.getElem?_eq_some_iff.1 hj).1
        rw [h.len] at this
        rw [List.getElem?_take, if_pos this]
      rw [ht, hj] at h1
      simpa using h1
    · rintro e w' ⟨p', c', rfl, k1, k2⟩
      exact ⟨p', c', rfl, ⟨⟨k1.1, k1.2.imp id (fun ⟨g, cap, cur, a1, _, a3⟩ => ⟨g, cap, cur, a1, Nat.zero_le _, a3⟩)⟩⟩, fun k hk => (k1.lt k (own_fpR.1 hk)).1, k2⟩
theorem prog_back {fn : Func} {p r : Tmp} (h : fn.results = #[.cell p 24, .tmp r]) {Q : Ending → World → Prop} {a : Act} {w : World} (g : Nat) (t : Int) (po : Option Addr) (n c : Nat) (e : Int) (hp : a.tmps.getD p undef = .pointer (some ⟨g, 0, none⟩)) (hu : a.tmps.getD r undef = .int .i64 e)
    (hg : w.heap[g]? = some (.cells #[.int .i64 t, .slice po n c] 24 (0, 0))) (hd : a.defers = []) (hR : Q (.returned (.tuple #[.agg #[.int .i64 t, .slice po n c], .int .i64 e])) w) : bodyPost Tryd.prog fn Q .ret a w := by
  refine bodyPost_ret (v := .tuple #[.agg #[.int .i64 t, .slice po n c], .int .i64 e]) ?_ hd hR
  rw [results_cell_tmp h, hp, hu]
  have hl := run_loadVar_row (P := Tryd.prog) w g 24 24 #[.int .i64 t, .slice po n c] (0, 0) _ hg Tryd.underlying24 rfl (by kernel_rfl)
  simp [asAddr, hl, Result.andThen]
/-- Program under way: the copy is made, in a box of its own (q), beside the box of the results (r) -/
structure PrC (w wc : World) (b : Nat) (F : List Nat) (s : Bs) (r q : Nat) (p : Option Addr) (c n : Nat) (cl : List Ins) : Prop where
  bel : Below w.heap.size w wc
  bld : Bld wc b F s
  row : RowW 63 3 wc p c n (codC cl)
  abv : Abv w.heap.size (fpR p)
  res : wc.heap[r]? = some (.cells #[.int .i64 0, .slice none 0 0] 24 (0, 0))
  box : wc.heap[q]? = some (.cells #[.int .i64 s.tag, .slice p n c] 24 (0, 0))
  ne : r ≠ q
  lr : w.heap.size ≤ r
  lq : w.heap.size ≤ q
theorem PrC.on {r q : Nat} {p : Option Addr} {c n : Nat} {cl : List Ins} {wc wd : World} (h : PrC w wc b F s r q p c n cl) (k : Below wc.heap.size wc wd) : PrC w wd b F s r q p c n cl :=
  ⟨h.bel.trans (k.mono h.bel.size), h.bld.on k, h.row.keep (kept_below k h.row.blw), h.abv, (k.block _ (lt_of_block h.res)).trans h.res, (k.block _ (lt_of_block h.box)).trans h.box, h.ne, h.lr, h.lq⟩
theorem PrC.fill {r q : Nat} {p : Option Addr} {c n : Nat} {cl cl' : List Ins} {wc wd : World} (h : PrC w wc b F s r q p c n cl) (hb : Blw w F) (k : Turn (fpR p) (fpR p) wc wd) (hr : RowW 63 3 wd p c n (codC cl')) : PrC w wd b F s r q p c n cl' := by
  have nr : ∀ {x : Nat} {a : Array Value}, wc.heap[x]? = some (.cells a 24 (0, 0)) → wd.heap[x]? = some (.cells a 24 (0, 0)) := fun {x a} e => (k.block _ (lt_of_block e) fun z => by obtain ⟨arr, e2⟩ := h.row.blk z; exact ne_ty e e2 (by decide) rfl).trans e
  exact ⟨h.bel.trans (k.below h.abv h.bel.size), h.bld.turn k (fun x hx z => absurd (hb x hx) (Nat.not_lt.2 (h.abv x z))), hr, h.abv, nr h.res, nr h.box, h.ne, h.lr, h.lq⟩
/-- what Program tells -/
def PrE (w w' : World) (s : Bs) (t : Int) (p : Option Addr) (n c : Nat) : Prop := Below w.heap.size w w' ∧ Abv w.heap.size (fpR p) ∧ ((s.ans = 0 ∧ t = s.tag ∧ n = s.code.length ∧ RowW 63 3 w' p c n (codC (s.filled.map fixI))) ∨ (s.ans ≠ 0 ∧ t = 0 ∧ p = none ∧ n = 0 ∧ c = 0))
set_option maxRecDepth 100000 in
set_option maxHeartbeats 1000000 in
theorem prog_any (h : Bld w b F s) (hT : Shaped5 w) (hl : s.code.length < lim) (hwf : ∀ l, hasM s.marks l = true → Wf l) : Calls Tryd.prog 45 #[.pointer (some ⟨b, 0, none⟩)] w fun e w' => ∃ t p n c, e = .returned (.tuple #[.agg #[.int .i64 t, .slice p n c], .int .i64 s.ans]) ∧ Hid (PrE w w' s t p n c) := by
  have ok := h.ok
  have HB := Lib.hid h
  have HT := Lib.hid hT
  have HL := Lib.hid hl
  have HBW := Lib.hid h.blw
  have HMK : Hid (∀ u, Bld u b F s → Calls Tryd.prog 51 #[.pointer (some ⟨b, 0, none⟩)] u fun e w' => e = .returned (.bool (okM s.many s.marks)) ∧ Below u.heap.size u w') := fun u hu => marks_any hu hwf
  obtain ⟨v, h, rfl⟩ := h
  obtain ⟨hb, h0, h1, _⟩ := h.cells
  have HCL : Hid (∀ u, Below w.heap.size w u → Calls Tryd.prog 50 #[.slice v.pi s.code.length v.ci] u fun e w' => ∃ p' c', e = .returned (.slice p' s.code.length c') ∧ Hid (RowW 63 3 w' p' c' s.code.length (codC (s.code.map fixI)) ∧ Abv u.heap.size (fpR p') ∧ Below u.heap.size u w')) := fun u hu => clone_any (h.ins.keep (kept_below hu h.ins.blw)) hl
  obtain ⟨n, hn⟩ : ∃ n, s.code.length = n := ⟨_, rfl⟩
  have HN := Lib.hid hn
  rw [hn] at HCL h1
  clear h hT hl hwf hn
  go_enter Tryd.func45, Tryd.ntmps45
  have HA : Hid (Below w.heap.size w (w.alloc (.cells #[.int .i64 0, .slice none 0 0] 24)).drew ∧ b < (w.alloc (.cells #[.int .i64 0, .slice none 0 0] 24)).drew.heap.size) := ⟨(bl1 w _).trans ((Same.drew _).below _), by show b < (w.alloc _).heap.size; simp; omega⟩
  have HCE : Hid (∀ u u3, b < u.heap.size → u.cell? ⟨b, 0, none⟩ = some (.int .i64 s.tag) → u.cell? ⟨b, 1, none⟩ = some (.slice v.pi n v.ci) → Below u.heap.size u u3 → u3.cell? ⟨b, 0, none⟩ = some (.int .i64 s.tag) ∧ u3.cell? ⟨b, 1, none⟩ = some (.slice v.pi n v.ci)) := fun u u3 hb c0 c1 k => ⟨(k.cell (p := ⟨b, 0, none⟩) hb).trans c0, (k.cell (p := ⟨b, 1, none⟩) hb).trans c1⟩
  go_upto_region 1 with fail
  obtain ⟨w1, hw1⟩ : ∃ w1, w1 = w.alloc (.cells #[.int .i64 0, .slice none 0 0] 24) := ⟨_, rfl⟩
  have g0 : w1.cell? ⟨b, 0, none⟩ = some (.int .i64 s.tag) := by rw [hw1]; exact (World.cell?_alloc_old _ _ _ (Nat.ne_of_lt hb)).trans h0
  have g1 : w1.cell? ⟨b, 1, none⟩ = some (.slice v.pi n v.ci) := by rw [hw1]; exact (World.cell?_alloc_old _ _ _ (Nat.ne_of_lt hb)).trans h1
  have HR1 : Hid (w1.heap[w.heap.size]? = some (.cells #[.int .i64 0, .slice none 0 0] 24 (0, 0)) ∧ w1.heap.size = w.heap.size + 1) := ⟨by rw [hw1]; exact heap_alloc_new _ _, by rw [hw1]; simp⟩
  rw [← hw1] at HA ⊢
  clear hw1
  have gb : b < w1.heap.size := HA.out.2
  have gn := Nat.ne_of_lt gb
  have gn' := gn.symm
  go_cut [4] (fun x wc => ∃ q p c, x = .pointer (some ⟨q, 0, none⟩) ∧ Hid (PrC w wc b (fpB b v) s w.heap.size q p c n (s.code.map fixI)))
  case first =>
    have HG1 : Hid (Below w.heap.size w (w1.drew.alloc (.cells #[.int .i64 0, .slice none 0 0] 24))) := HA.out.1.alloc (by show _ ≤ w1.heap.size; rw [HR1.out.2]; omega) _
    go_region_held (fun u => u.cell? ⟨b, 0, none⟩ = some (.int .i64 s.tag) ∧ u.cell? ⟨b, 1, none⟩ = some (.slice v.pi n v.ci)) (go_keep) (first
      | (go_at_call 50; refine (HCL.out (w1.drew.alloc (.cells #[.int .i64 0, .slice none 0 0] 24)) HG1.out).mono ?_; rintro e u3 ⟨p', c', rfl, q⟩; obtain ⟨y0, y1⟩ := HCE.out (w1.drew.alloc (.cells #[.int .i64 0, .slice none 0 0] 24)) u3 (by simp; omega) ((World.cell?_alloc_old w1.drew _ _ (Nat.ne_of_lt gb)).trans g0) ((World.cell?_alloc_old w1.drew _ _ (Nat.ne_of_lt gb)).trans g1) q.out.2.2; have z := (q.out.2.2.block w1.heap.size (by simp)).trans (heap_alloc_new w1.drew _); obtain ⟨z0, z1, zl⟩ := cells2_of z; have zf0 := frozen_of_row _ _ 0 _ _ z; have zf1 := frozen_of_row _ _ 1 _ _ z; have KB := Lib.hid (And.intro q.out z); clear z q)
      | (go_at_call 50; refine (HCL.out w1.drew HA.out.1).mono ?_; rintro e u3 ⟨p', c', rfl, q⟩; obtain ⟨y0, y1⟩ := HCE.out w1.drew u3 gb g0 g1 q.out.2.2; have yb : b < u3.heap.size := Nat.lt_of_lt_of_le gb q.out.2.2.size; have yn := Nat.ne_of_lt yb; have yn' := yn.symm; have KA := Lib.hid q.out; clear q))
    all_goals go_wp2_with fail
    all_goals go_meet
    · refine ⟨_, p', c', rfl, ?_⟩
      have k := bl1 u3 (.cells #[.int .i64 s.tag, .slice p' n c'] 24)
      have hAS := HA.out.1.size
      have e3 : w1.heap.size ≤ u3.heap.size := KA.out.2.2.size
      have b3 : Below w.heap.size w u3 := HA.out.1.trans (KA.out.2.2.mono hAS)
      exact PrC.mk (b3.trans (k.mono b3.size)) (HB.out.on (b3.trans (k.mono b3.size))) (KA.out.1.keep (kept_below k KA.out.1.blw)) (KA.out.2.1.mono hAS) ((k.block _ (by have := HR1.out.2; omega)).trans ((KA.out.2.2.block _ (by show _ < w1.heap.size; have := HR1.out.2; omega)).trans HR1.out.1)) (heap_alloc_new _ _) (by have := HR1.out.2; omega) (Nat.le_refl _) b3.size
    · refine ⟨_, p', c', rfl, ?_⟩
      have t4 : Turn [w1.heap.size] [w1.heap.size] u3 ((u3.setCell ⟨w1.heap.size, 0, none⟩ (.int .i64 s.tag)).setCell ⟨w1.heap.size, 1, none⟩ (.slice p' n c')) := (turn_set w1.heap.size 0 _ u3).trans (turn_set w1.heap.size 1 _ _)
      have hAS := HA.out.1.size
      have hBS := HG1.out.size
      have e3 : w1.heap.size + 1 ≤ u3.heap.size := by have := KB.out.1.2.2.size; simp at this; exact this
      have b3 : Below w.heap.size w u3 := HG1.out.trans (KB.out.1.2.2.mono hBS)
      have b4 : Below w.heap.size w ((u3.setCell ⟨w1.heap.size, 0, none⟩ (.int .i64 s.tag)).setCell ⟨w1.heap.size, 1, none⟩ (.slice p' n c')) := b3.trans (t4.below (fun k hk => by simp at hk; have := HR1.out.2; omega) b3.size)
      have e1 : ((w1.drew.alloc (.cells #[.int .i64 0, .slice none 0 0] 24)).heap[w.heap.size]? = some (.cells #[.int .i64 0, .slice none 0 0] 24 (0, 0))) := (Below.heap_alloc _ _ _ (by show _ < w1.heap.size; have := HR1.out.2; omega)).trans HR1.out.1
      refine PrC.mk b4 (HB.out.on b4) (KB.out.1.1.keep (t4.kept (fun k hk z => ?_) KB.out.1.1.blw)) (KB.out.1.2.1.mono hBS) ((t4.block _ (by have := HR1.out.2; omega) (by simp; have := HR1.out.2; omega)).trans ((KB.out.1.2.2.block _ (by simp; have := HR1.out.2; omega)).trans e1)) ?_ (by have := HR1.out.2; omega) (Nat.le_refl _) (by have := HR1.out.2; omega)
      · have := KB.out.1.2.1 k hk
        simp at this z
        omega
      · exact (heap_setCell_same _ _ 1 _ _ _ (heap_setCell_same _ _ 0 _ _ _ KB.out.2)).trans rfl
  case rest =>
    obtain ⟨q, p, c, rfl, HK⟩ := hcut
    clear HA HCE HR1 HCL g0 g1 gb gn gn' h0 h1
    have HC2 : Hid (∀ u cl, PrC w u b (fpB b v) s w.heap.size q p c n cl → (u.cell? ⟨q, 0, none⟩ = some (.int .i64 s.tag) ∧ u.cell? ⟨q, 1, none⟩ = some (.slice p n c) ∧ q < u.heap.size) ∧ u.cell? ⟨w.heap.size, 0, none⟩ = some (.int .i64 0) ∧ u.cell? ⟨w.heap.size, 1, none⟩ = some (.slice none 0 0) ∧ w.heap.size < u.heap.size ∧ (∀ j, u.frozen? ⟨w.heap.size, j, none⟩ = false) ∧ w.heap.size ≠ q ∧ q ≠ w.heap.size) := fun u cl k => ⟨cells2_of k.box, (cells2_of k.res).1, (cells2_of k.res).2.1, (cells2_of k.res).2.2, fun j => frozen_of_row _ _ _ _ _ k.res, k.ne, k.ne.symm⟩
    have HEND : Hid (∀ u (cl : List Ins) t x y, PrC w u b (fpB b v) s w.heap.size q p c n cl → Below w.heap.size w ((u.setCell ⟨w.heap.size, 0, none⟩ t).setCell ⟨w.heap.size, 1, none⟩ x) ∧ ((u.setCell ⟨w.heap.size, 0, none⟩ t).setCell ⟨w.heap.size, 1, none⟩ x).heap[w.heap.size]? = some (.cells #[t, x] 24 (0, 0)) ∧ (y = cl → RowW 63 3 ((u.setCell ⟨w.heap.size, 0, none⟩ t).setCell ⟨w.heap.size, 1, none⟩ x) p c n (codC y))) := fun u cl t x y k => by
      have t4 := (turn_set w.heap.size 0 t u).trans (turn_set w.heap.size 1 x _)
      refine ⟨k.bel.trans (t4.below (fun i hi => by simp at hi; omega) k.bel.size), (heap_setCell_same _ _ 1 _ _ _ (heap_setCell_same _ _ 0 _ _ _ k.res)).trans rfl, ?_⟩
      rintro rfl
      refine k.row.keep (t4.kept (fun i hi z => ?_) k.row.blw)
      obtain ⟨arr, e⟩ := k.row.blk hi
      simp at z
      subst z
      exact ne_ty e k.res (by decide) rfl
    obtain ⟨⟨c0, c1, cq⟩, r0, r1, lr, fr, ne1, ne2⟩ := HC2.out _ _ HK.out
    have fr0 := fr 0
    have fr1 := fr 1
    clear fr
    cases hm : okM s.many s.marks
    · have HE : Hid (s.ans = 190) := by
        show s.ans = 190
        unfold Bs.ans Bs.ok
        rw [hm]
        rfl
      rw [hm] at HMK
      clear hm
      go_wp2_with (go_at_call 51; refine (HMK.out _ HK.out.bld).mono ?_; rintro e u2 ⟨rfl, hb2⟩; have K2 := Lib.hid (HK.out.on hb2); obtain ⟨⟨c0, c1, cq⟩, r0, r1, lr, fr, ne1, ne2⟩ := HC2.out _ _ K2.out; have fr0 := fr 0; have fr1 := fr 1; clear fr hb2)
      exact prog_back rfl w.heap.size 0 none 0 0 190 rfl rfl (HEND.out _ _ _ _ [] K2.out).2.1 rfl ⟨0, none, 0, 0, by rw [HE.out], (HEND.out _ _ _ _ [] K2.out).1, fun k hk => by simp [fpR] at hk, .inr ⟨by rw [HE.out]; decide, rfl, rfl, rfl, rfl⟩⟩
    · have HFL : Hid (∀ u, PrC w u b (fpB b v) s w.heap.size q p c n (s.code.map fixI) → Calls Tryd.prog 52 #[.pointer (some ⟨b, 0, none⟩), .slice p n c] u fun e w' => e = .returned (.bool (s.lat.all fun t => hasM s.marks t.1)) ∧ Hid (∃ cl, ((s.lat.all fun t => hasM s.marks t.1) = true → cl = s.filled.map fixI) ∧ PrC w w' b (fpB b v) s w.heap.size q p c n cl)) := fun u k => by
        refine (fillIn_any k.bld HN.out (by rw [← HN.out]; exact HL.out) k.row (fun x hx z => absurd (HBW.out x hx) (Nat.not_lt.2 (k.abv x z)))).mono ?_
        rintro e w' ⟨rfl, z⟩
        obtain ⟨cl, _, z2, z3, z4⟩ := z.out
        exact ⟨rfl, cl, z3, k.fill HBW.out z4 z2⟩
      have HALL : Hid ((s.lat.all fun t => hasM s.marks t.1) = s.ok) := by
        show _ = s.ok
        unfold Bs.ok
        rw [hm, Bool.true_and, Bool.eq_iff_iff, all_range, List.all_eq_true]
        exact (ok_lat ok).symm
      rw [HALL.out] at HFL
      rw [hm] at HMK
      clear hm HALL
      cases hk : s.ok
      · have HE : Hid (s.ans = 190) := by
          show s.ans = 190
          unfold Bs.ans
          rw [hk]
          rfl
        rw [hk] at HFL
        clear hk
        go_wp2_with (first
          | (go_at_call 51; refine (HMK.out _ HK.out.bld).mono ?_; rintro e u2 ⟨rfl, hb2⟩; have K2 := Lib.hid (HK.out.on hb2); obtain ⟨⟨c0, c1, cq⟩, r0, r1, lr, fr, ne1, ne2⟩ := HC2.out _ _ K2.out; have fr0 := fr 0; have fr1 := fr 1; clear fr hb2 HMK)
          | (go_at_call 52; refine (HFL.out _ K2.out).mono ?_; rintro e u3 ⟨rfl, z⟩; obtain ⟨cl, _, K3⟩ := z.out; have K3 := Lib.hid K3; obtain ⟨⟨c0, c1, cq⟩, r0, r1, lr, fr, ne1, ne2⟩ := HC2.out _ _ K3.out; have fr0 := fr 0; have fr1 := fr 1; clear fr z HFL))
        exact prog_back rfl w.heap.size 0 none 0 0 190 rfl rfl (HEND.out _ _ _ _ [] K3.out).2.1 rfl ⟨0, none, 0, 0, by rw [HE.out], (HEND.out _ _ _ _ [] K3.out).1, fun k hk => by simp [fpR] at hk, .inr ⟨by rw [HE.out]; decide, rfl, rfl, rfl, rfl⟩⟩
      · have HE : Hid (s.ans = checkE s.tag s.filled) := by
          show s.ans = _
          unfold Bs.ans
          rw [hk]
          rfl
        have HCK : Hid (∀ u, PrC w u b (fpB b v) s w.heap.size q p c n (s.filled.map fixI) → Calls Tryd.prog 53 #[.agg #[.int .i64 s.tag, .slice p n c]] u fun e w' => e = .returned (.int .i64 (checkE s.tag s.filled)) ∧ Below u.heap.size u w') := fun u k => by
          have hln : (s.filled.map fixI).length = n := by rw [List.length_map, filled_len]; exact HN.out
          have := check_any s.tag c (HT.out.on k.bel) (RowW.code hln k.row) (by rw [hln, ← HN.out]; have := HL.out; unfold lim at this; omega)
          rw [hln, checkE_fix] at this
          exact this
        rw [hk] at HFL
        clear hk
        rcases checkE_ways s.tag s.filled with h5 | h5
        · rw [h5] at HE HCK
          clear h5
          go_wp2_with (first
            | (go_at_call 51; refine (HMK.out _ HK.out.bld).mono ?_; rintro e u2 ⟨rfl, hb2⟩; have K2 := Lib.hid (HK.out.on hb2); obtain ⟨⟨c0, c1, cq⟩, r0, r1, lr, fr, ne1, ne2⟩ := HC2.out _ _ K2.out; have fr0 := fr 0; have fr1 := fr 1; clear fr hb2 HMK)
            | (go_at_call 52; refine (HFL.out _ K2.out).mono ?_; rintro e u3 ⟨rfl, z⟩; obtain ⟨cl, zz, K3⟩ := z.out; obtain rfl := zz (by trivial); have K3 := Lib.hid K3; obtain ⟨⟨c0, c1, cq⟩, r0, r1, lr, fr, ne1, ne2⟩ := HC2.out _ _ K3.out; have fr0 := fr 0; have fr1 := fr 1; clear fr z HFL)
            | (go_at_call 53; refine (HCK.out _ K3.out).mono ?_; rintro e u4 ⟨rfl, hb4⟩; have K4 := Lib.hid (K3.out.on hb4); obtain ⟨⟨c0, c1, cq⟩, r0, r1, lr, fr, ne1, ne2⟩ := HC2.out _ _ K4.out; have fr0 := fr 0; have fr1 := fr 1; clear fr hb4 HCK))
          exact prog_back rfl w.heap.size s.tag p n c 0 rfl rfl (HEND.out _ _ _ _ [] K4.out).2.1 rfl ⟨s.tag, p, n, c, by rw [HE.out], (HEND.out _ _ _ _ [] K4.out).1, K4.out.abv, .inl ⟨HE.out, rfl, HN.out.symm, (HEND.out _ _ _ _ _ K4.out).2.2 rfl⟩⟩
        · rw [h5] at HE HCK
          clear h5
          go_wp2_with (first
            | (go_at_call 51; refine (HMK.out _ HK.out.bld).mono ?_; rintro e u2 ⟨rfl, hb2⟩; have K2 := Lib.hid (HK.out.on hb2); obtain ⟨⟨c0, c1, cq⟩, r0, r1, lr, fr, ne1, ne2⟩ := HC2.out _ _ K2.out; have fr0 := fr 0; have fr1 := fr 1; clear fr hb2 HMK)
            | (go_at_call 52; refine (HFL.out _ K2.out).mono ?_; rintro e u3 ⟨rfl, z⟩; obtain ⟨cl, zz, K3⟩ := z.out; obtain rfl := zz (by trivial); have K3 := Lib.hid K3; obtain ⟨⟨c0, c1, cq⟩, r0, r1, lr, fr, ne1, ne2⟩ := HC2.out _ _ K3.out; have fr0 := fr 0; have fr1 := fr 1; clear fr z HFL)
            | (go_at_call 53; refine (HCK.out _ K3.out).mono ?_; rintro e u4 ⟨rfl, hb4⟩; have K4 := Lib.hid (K3.out.on hb4); obtain ⟨⟨c0, c1, cq⟩, r0, r1, lr, fr, ne1, ne2⟩ := HC2.out _ _ K4.out; have fr0 := fr 0; have fr1 := fr 1; clear fr hb4 HCK))
          exact prog_back rfl w.heap.size 0 none 0 0 50 rfl rfl (HEND.out _ _ _ _ [] K4.out).2.1 rfl ⟨0, none, 0, 0, by rw [HE.out], (HEND.out _ _ _ _ [] K4.out).1, fun k hk => by simp [fpR] at hk, .inr ⟨by rw [HE.out]; decide, rfl, rfl, rfl, rfl⟩⟩
end
end Go.Proofs.YtaliehikdidiaaaDoor.As
