import Derived.Test.YtninicfnhoediaaGreatDoorRJ
import Derived.Test.YtninicfnhoediaaGreatDoorKU
import Derived.Laws.MakeOwn
import Derived.Deep.AppendSrc
import Derived.Deep.MidRow
import Derived.Deep.RegionLaw
namespace Go.Proofs.YtninicfnhoediaaGreatDoor
open Go.ChangeShapes Go.WideShapes Go.ChangeAt Go.RowKit Num
attribute [local go_sem] run_store_float

/-- a list of touches, wherever it lies -/
def TlAt (w : World) (p : Option Addr) (l : Wr) : Prop := ∀ k, k < l.length → ∃ g o, p = some ⟨g, o, none⟩ ∧ g < w.heap.size ∧ w.cell? ⟨g, o + k * 2, none⟩ = some (.int .i64 (l.getD k (0, 0)).1) ∧ w.cell? ⟨g, o + k * 2 + 1, none⟩ = some (.float .f64 (l.getD k (0, 0)).2)
theorem Ro.fl {w : World} {p : Option Addr} {l : List Nat} (h : Ro w p (fls l)) : FlAt w p l := fun k hk => by
  obtain ⟨g, o, e, c, hg⟩ := h.get (j := k) (v := .float .f64 (l.getD k 0)) (by unfold fls; rw [List.getElem?_map, List.getD_eq_getElem?_getD, List.getElem?_eq_getElem hk]; rfl)
  exact ⟨g, o, e, hg, c⟩
theorem Ro.tl {w : World} {p : Option Addr} {l : Wr} (h : Ro w p (l.flatMap tchC)) : TlAt w p l := fun k hk => by
  obtain ⟨a1, a2⟩ := tch_at l hk
  obtain ⟨g, o, e, c, hg⟩ := h.get a1
  obtain ⟨g', o', e', c', _⟩ := h.get a2
  rw [e] at e'
  cases e'
  exact ⟨g, o, e, hg, c, c'⟩
theorem RowAt.fl {w : World} {p : Option Addr} {c : Nat} {l : List Nat} (h : RowAt 71 w p c (fls l)) : FlAt w p l := fun k hk => by
  obtain ⟨g, e, hg, c⟩ := row_at h rfl k hk
  exact ⟨g, 0, e, hg, by rw [Nat.zero_add]; exact c⟩
theorem TRow.tl {w : World} {p : Option Addr} {c : Nat} {l : Wr} (h : TRow w p c l) : TlAt w p l := fun k hk => by
  obtain ⟨g, e, hg, c0, c1⟩ := trow_at h rfl k hk
  exact ⟨g, 0, e, hg, by rw [Nat.zero_add]; exact c0, by rw [Nat.zero_add]; exact c1⟩
theorem TlAt.on {w w' : World} {p : Option Addr} {l : Wr} (h : TlAt w p l) (hb : Below w.heap.size w w') : TlAt w' p l := fun k hk => by
  obtain ⟨g, o, e, hlt, c0, c1⟩ := h k hk
  exact ⟨g, o, e, Nat.lt_of_lt_of_le hlt hb.size, (hb.cell (p := ⟨g, o + k * 2, none⟩) hlt).trans c0, (hb.cell (p := ⟨g, o + k * 2 + 1, none⟩) hlt).trans c1⟩
/-- a row that may be written over, all its room: its block is new since B -/
def Wide (B w : World) (T : TypeId) (sz : Nat) (t : Option Addr × Nat × Nat) : Prop := (t.1 = none ∧ t.2.2 = 0) ∨ ∃ g arr, t.1 = some ⟨g, 0, none⟩ ∧ B.heap.size ≤ g ∧ w.heap[g]? = some (.cells arr T (0, 0)) ∧ arr.size = t.2.2 * sz ∧ t.2.2 ≤ 9223372036854775807
theorem RowAt.wide {B w : World} {p : Option Addr} {c : Nat} {l : List Nat} (h : RowAt 71 w p c (fls l)) (hA : Abv B.heap.size (fpR p)) : Wide B w 71 1 (p, l.length, c) := by
  rcases h.own.2 with ⟨e, _⟩ | ⟨g, cap, cur, e, _, hg, _, hm, hs, _⟩
  · injection e with e1 _ e3
    exact .inl ⟨e1, e3⟩
  · injection e with e1 _ e3
    subst e1 e3
    exact .inr ⟨g, cur, rfl, hA g (by simp [fpR]), hg, hs, by unfold maxLen at hm; exact Nat.le_trans hm (by decide)⟩
theorem TRow.wide {B w : World} {p : Option Addr} {c : Nat} {l : Wr} (h : TRow w p c l) (hA : Abv B.heap.size (fpR p)) : Wide B w 73 2 (p, l.length, c) := by
  rcases h.own.2 with ⟨e, _⟩ | ⟨g, cap, cur, e, _, hg, _, hm, hs, _⟩
  · injection e with e1 _ e3
    exact .inl ⟨e1, e3⟩
  · injection e with e1 _ e3
    subst e1 e3
    exact .inr ⟨g, cur, rfl, hA g (by simp [fpR]), hg, hs, by unfold maxLen at hm; exact Nat.le_trans hm (by decide)⟩
theorem Wide.on {B w w' : World} {T : TypeId} {sz : Nat} {t : Option Addr × Nat × Nat} (h : Wide B w T sz t) (k : Below w.heap.size w w') : Wide B w' T sz t := by
  rcases h with h | ⟨g, arr, h1, h2, h3, h4⟩
  · exact .inl h
  · exact .inr ⟨g, arr, h1, h2, (k.block g (lt_of_block h3)).trans h3, h4⟩
theorem Wide.put {B w : World} {T : TypeId} {sz : Nat} {t : Option Addr × Nat × Nat} (h : Wide B w T sz t) (g i : Nat) (v : Value) : Wide B (w.setCell ⟨g, i, none⟩ v) T sz t := by
  rcases h with h | ⟨g', arr, h1, h2, h3, h4⟩
  · exact .inl h
  · by_cases e : g' = g
    · subst e
      exact .inr ⟨g', _, h1, h2, heap_setCell_same w g' i _ _ v h3, by simpa using h4⟩
    · exact .inr ⟨g', arr, h1, h2, (heap_setCell_other _ _ _ _ (by simpa using e)).trans h3, h4⟩
end Go.Proofs.YtninicfnhoediaaGreatDoor
namespace Go.Proofs.YtninicfnhoediaaGreatDoor
open Go.ChangeShapes Go.WideShapes Go.ChangeAt Go.RowKit Num
attribute [local go_sem] run_store_float

section
variable {N wr : World} {bp bm br bl : Nat} {K KR : List Nat} {g : Nat} {m : Mac} {cs : List Ins}
/-- a new block beside them -/
theorem Half.wider {X : List Nat} {m m' : Mac} (h : Half N wr bm br bl K KR X m m' cs) (o : Obj) : Half N (wr.alloc o) bm br bl K KR (wr.heap.size :: X) m m' cs := by
  obtain ⟨F, q, h1⟩ := h
  have k := below_alloc wr o
  refine ⟨F, q, { h1 with mc := h1.mc.on k, rf := h1.rf.on k, bel := h1.bel.trans (k.mono h1.bel.size), x1 := ?_, x2 := ?_, x3 := ?_, ax := ?_, lx := ?_ }⟩
  · intro x hx y
    rcases List.mem_cons.1 hx with rfl | hx
    · exact absurd (h1.mc.blw _ y) (Nat.lt_irrefl _)
    · exact h1.x1 x hx y
  · intro x hx y
    rcases List.mem_cons.1 hx with rfl | hx
    · exact absurd (h1.rf.lt _ y) (Nat.lt_irrefl _)
    · exact h1.x2 x hx y
  · intro x hx y
    rcases List.mem_cons.1 hx with rfl | hx
    · exact absurd (h1.mc.blwK _ y) (Nat.lt_irrefl _)
    · exact h1.x3 x hx y
  · intro x hx
    rcases List.mem_cons.1 hx with rfl | hx
    · exact h1.bel.size
    · exact h1.ax x hx
  · intro x hx
    rcases List.mem_cons.1 hx with rfl | hx
    · simp
    · exact Nat.lt_of_lt_of_le (h1.lx x hx) k.size
theorem Half.narrow {X Y : List Nat} {m m' : Mac} (h : Half N wr bm br bl K KR X m m' cs) (hy : ∀ x ∈ Y, x ∈ X) : Half N wr bm br bl K KR Y m m' cs := by
  obtain ⟨F, q, h⟩ := h
  exact ⟨F, q, { h with x1 := fun x hx => h.x1 x (hy x hx), x2 := fun x hx => h.x2 x (hy x hx), x3 := fun x hx => h.x3 x (hy x hx), ax := fun x hx => h.ax x (hy x hx), lx := fun x hx => h.lx x (hy x hx) }⟩
/-- what a step of both comes to -/
def nextM (f : List Nat) (g : Nat) (m : Mac) : Mac := if (stepM m).2.kind = 1 then giveM (stepM m).1 (fedV f g) else (stepM m).1
def nextG (g : Nat) (m : Mac) : Nat := if (stepM m).2.kind = 1 then g + 1 else g
theorem box_kept {u v : World} {o : Obj} {X : List Nat} {b : Nat} (h : u.heap[b]? = some o) (k : Kept X u v) (hb : b ∈ X) : v.heap[b]? = some o := (k.2 b hb).trans h
end
end Go.Proofs.YtninicfnhoediaaGreatDoor
namespace Go.Proofs.YtninicfnhoediaaGreatDoor
open Go.ChangeShapes Go.WideShapes Go.ChangeAt Go.RowKit Num
attribute [local go_sem] run_store_float

/-! a copy with room for two things behind it -/
theorem turn_setCells (b : Nat) : ∀ (vs : List Value) (o : Nat) (w : World), Turn [b] [b] w (w.setCells b o vs)
  | [], _, w => Turn.refl _ w
  | v :: r, o, w => (turn_set w b o v).trans (turn_setCells b r (o + 1) _)
theorem block_setCells (b : Nat) (T : TypeId) : ∀ (vs : List Value) (o : Nat) (w : World) (arr : Array Value), w.heap[b]? = some (.cells arr T (0, 0)) → ∃ arr', (w.setCells b o vs).heap[b]? = some (.cells arr' T (0, 0)) ∧ arr'.size = arr.size
  | [], _, _, arr, h => ⟨arr, h, rfl⟩
  | v :: r, o, w, arr, h => by
    obtain ⟨arr', h1, h2⟩ := block_setCells b T r (o + 1) (w.setCell ⟨b, o, none⟩ v) _ (heap_setCell_same w b o _ _ v h)
    exact ⟨arr', h1, by rw [h2]; simp⟩
structure Len (w u : World) (g : Nat) (T : TypeId) (sz n : Nat) (vs : List Value) : Prop where
  bl : Below w.heap.size w u
  blk : ∃ arr, u.heap[g]? = some (.cells arr T (0, 0)) ∧ arr.size = (n + 2) * sz
  got : u.rangeAt g 0 vs
  lo : w.heap.size ≤ g
theorem Len.on {w u u' : World} {g n sz : Nat} {T : TypeId} {vs : List Value} (h : Len w u g T sz n vs) (k : Below u.heap.size u u') : Len w u' g T sz n vs := by
  obtain ⟨arr, h1, h2⟩ := h.blk
  have hg := lt_of_block h1
  exact ⟨h.bl.trans (k.mono h.bl.size), ⟨arr, (k.block g hg).trans h1, h2⟩, fun j v hv => (k.cell (p := ⟨g, 0 + j, none⟩) hg).trans (h.got j v hv), h.lo⟩
theorem Len.there {w u : World} {g n sz : Nat} {T : TypeId} {vs : List Value} (h : Len w u g T sz n vs) {j : Nat} (hj : j < (n + 2) * sz) : (u.cell? ⟨g, j, none⟩).isSome = true ∧ u.frozen? ⟨g, j, none⟩ = false := by
  obtain ⟨arr, h1, h2⟩ := h.blk
  refine ⟨?_, frozen_of_row u g j _ _ h1⟩
  rw [cell_of_row _ _ _ _ _ _ h1, Array.getElem?_eq_getElem (by omega)]
  rfl
/-- there is room: what is appended stands behind -/
theorem Len.app {w u : World} {g n k j : Nat} {t e ty : TypeId} {i : TypeInfo} {vs news : List Value} {x : Value} (ht : Tryz.prog.underlying t = some (.slice e)) (hi : Tryz.prog.info? e = some i) (h : Len w u g e i.size n vs) (hv : vs.length = k * i.size) (hs : Src Tryz.prog i.size t x j news u) (hr : k + j ≤ n + 2) :
    ∃ v u', (Builtin.append_ #[t, t] ty #[.slice (some ⟨g, 0, none⟩) k (n + 2), x]).run Tryz.prog u = .ok v u' ∧ (v = .slice (some ⟨g, 0, none⟩) (k + j) (n + 2) ∧ Len w u' g e i.size n (vs ++ news)) := by
  have hin : ∀ a, a < news.length → k * i.size + a < (n + 2) * i.size := fun a ha => by
    rw [hs.newsLen] at ha
    have : (k + j) * i.size ≤ (n + 2) * i.size := Nat.mul_le_mul_right _ hr
    rw [Nat.add_mul] at this
    omega
  have r := run_append_room_src (P := Tryz.prog) u t t ty e i ht hi g 0 k (n + 2) x j news hs hr (fun a ha => by rw [Nat.zero_add]; exact (h.there (hin a ha)).1) (fun a ha => by rw [Nat.zero_add]; exact (h.there (hin a ha)).2)
  rw [Nat.zero_add] at r
  obtain ⟨arr, h1, h2⟩ := h.blk
  obtain ⟨arr', h3, h4⟩ := block_setCells g e news (k * i.size) u arr h1
  have t3 := turn_setCells g news (k * i.size) u
  have hth : u.there g (k * i.size) news.length := fun a ha => h.there (hin a ha)
  refine ⟨_, _, r, rfl, h.bl.trans (t3.below (B := w.heap.size) (fun x hx => by simp at hx; subst hx; exact h.lo) h.bl.size), ⟨arr', h3, by rw [h4]; exact h2⟩, fun a v hv2 => ?_, h.lo⟩
  by_cases ha : a < vs.length
  · rw [List.getElem?_append_left ha] at hv2
    exact World.rangeAt_setCells_apart h.got g (k * i.size) news (.inr (.inl (by omega))) a v hv2
  · rw [List.getElem?_append_right (by omega)] at hv2
    have := World.rangeAt_setCells_same u g (k * i.size) news hth (a - vs.length) v hv2
    rw [show k * i.size + (a - vs.length) = 0 + a by omega] at this
    exact this
theorem len_made {w : World} {arr : Array Value} {e : TypeId} {sz n : Nat} (h : arr.size = (n + 2) * sz) : Len w (w.alloc (.cells arr e)) w.heap.size e sz n [] := ⟨below_alloc _ _, ⟨arr, heap_alloc_new _ _, h⟩, fun j v hv => by simp at hv, Nat.le_refl _⟩
end Go.Proofs.YtninicfnhoediaaGreatDoor
namespace Go.Proofs.YtninicfnhoediaaGreatDoor
open Go.ChangeShapes Go.WideShapes Go.ChangeAt Go.RowKit Num

/-! both machines, new -/
theorem RowAt.ro {E : TypeId} {w : World} {p : Option Addr} {c : Nat} {xs : List Value} (h : RowAt E w p c xs) : Ro w p xs := by
  rcases h.own.2 with ⟨q, hn⟩ | ⟨g, cap, cur, hv, _, hg, _, _, hsz, hx⟩
  · exact .inl ⟨(Value.slice.inj q).1, List.length_eq_zero_iff.1 hn⟩
  · refine .inr ⟨g, 0, (Value.slice.inj hv).1, fun j v hv => ?_⟩
    rw [← hx, List.getElem?_take] at hv
    split at hv
    · show w.cell? ⟨g, 0 + j, none⟩ = some v
      rw [Nat.zero_add, cell_of_row w g j _ _ _ hg]
      simpa using hv
    · cases hv
theorem loc_row {w : World} {b : Nat} (h : w.heap[b]? = some locO) : RowAt 71 w (some ⟨b, 0, none⟩) 8 (fls (eight fun _ => 0)) :=
  ⟨⟨rfl, .inr ⟨b, 8, _, rfl, Nat.zero_le _, h, Nat.le_refl _, by unfold maxLen; omega, rfl, rfl⟩⟩⟩
theorem fpK_blw {w : World} {q : Rp} {cs : List Ins} (h : CodeAt w q.pk cs) : Blw w (fpK q cs) := fun x hx => by
  unfold fpK at hx
  split at hx
  · cases hx
  · obtain ⟨a, ha, rfl⟩ := mem_fpR.1 hx
    obtain ⟨g, o, e, hlt, _⟩ := h 0 (List.length_pos_iff.2 (by assumption))
    rw [ha] at e
    cases e
    exact hlt
theorem RNew.ref {N w wr : World} {a b c e t : Int} {ao : Option Addr} {n cap : Nat} {l : List Nat} {br bl ca : Nat} {pa : Option Addr} {cs : List Ins} (h : RNew w wr (newM a c e t cs l) { rq0 b t ao n cap (!checkB t cs) bl with pa := pa, na := 8, ca := ca } br (eight (argF l))) (hN : Below N.heap.size N w) (hC : CodeAt N ao cs) (hn : cs.length = n) : RefAt wr br { rq0 b t ao n cap (!checkB t cs) bl with pa := pa, na := 8, ca := ca } (newM a c e t cs l) cs := by
  have hk : Blw N (fpK { rq0 b t ao n cap (!checkB t cs) bl with pa := pa, na := 8, ca := ca } cs) := fpK_blw hC
  have hs := hN.size
  exact {
    box := h.box
    loc := loc_row h.loc
    arg := h.row.ro
    st := Ro.nil _
    cal := Ro.nil _
    out := Ro.nil _
    rds := Ro.nil _
    buf := Ro.nil _
    cod := (hC.on hN).on h.bl
    na := rfl
    nk := hn.symm
    bad := by
      by_cases q : checkB t cs = true
      · exact .inl ⟨by simp [rq0, q], by simp [newM, q]⟩
      · exact .inr ⟨by simp [rq0, q], by simp [newM, q]⟩
    tag := rfl
    zc := fun _ => rfl
    ne := h.ne
    ap := fun p hp => by
      simp only [Rp.rows, rq0, List.mem_cons, List.not_mem_nil, or_false] at hp
      rcases hp with rfl | rfl | rfl | rfl | rfl | rfl
      · exact ⟨h.n1, h.n2⟩
      all_goals exact ⟨by simp [fpR], by simp [fpR]⟩
    apk := ⟨fun x => absurd (hk _ x) (Nat.not_lt.2 (Nat.le_trans hs h.a1)), fun x => absurd (hk _ x) (Nat.not_lt.2 (Nat.le_trans hs h.a2))⟩
    lt := fun x hx => by
      simp only [Fr, Rp.rows, rq0, List.flatMap_cons, List.flatMap_nil, List.mem_cons, List.mem_append] at hx
      rcases hx with rfl | rfl | hx
      · exact lt_of_block h.box
      · exact lt_of_block h.loc
      · exact h.row.blw x (by simpa [fpR] using hx)
    ltk := fun x hx => Nat.lt_of_lt_of_le (hk x hx) (Nat.le_trans hs h.bl.size)
    c1 := Nat.le_refl _
    c2 := Nat.le_refl _
    c3 := Nat.le_refl _
    c4 := Nat.le_refl _
    c5 := Nat.le_refl _
    nd := List.nodup_nil }
theorem RNew.abv {w wr : World} {b t : Int} {ao : Option Addr} {n cap : Nat} {l : List Nat} {br bl ca : Nat} {pa : Option Addr} {m : Mac} {bad : Bool} (h : RNew w wr m { rq0 b t ao n cap bad bl with pa := pa, na := 8, ca := ca } br l) : Abv w.heap.size (Fr br { rq0 b t ao n cap bad bl with pa := pa, na := 8, ca := ca }) := fun x hx => by
  simp only [Fr, Rp.rows, rq0, List.flatMap_cons, List.flatMap_nil, List.mem_cons, List.mem_append] at hx
  rcases hx with rfl | rfl | hx
  · exact h.a1
  · exact h.a2
  · exact h.a3 x (by simpa [fpR] using hx)
/-- first the program's, then the document's -/
theorem duo_new {N v1 v2 v3 : World} {a b c e t : Int} {ao : Option Addr} {n cap : Nat} {l : List Nat} {bm br bl ca : Nat} {pa : Option Addr} {cs : List Ins} {K X : List Nat} (hN : Below N.heap.size N v1) (hT : Shaped5 N) (hC : CodeAt N ao cs) (hn : cs.length = n) (g : Gm v1 [] bm K v2 (newM a c e t cs l)) (hK : Abv v1.heap.size K) (r : RNew v2 v3 (newM a c e t cs l) { rq0 b t ao n cap (!checkB t cs) bl with pa := pa, na := 8, ca := ca } br (eight (argF l))) (hX : Abv N.heap.size X) (hX2 : Blw v1 X) :
    ∃ KR, Duo N v3 bm br bl K KR X (newM a c e t cs l) cs := by
  obtain ⟨F, hM, tn⟩ := g.mc
  have h12 : Below v1.heap.size v1 v2 := tn.below (fun x hx => by cases hx) (Nat.le_refl _)
  have hF : Abv v1.heap.size F := fun x hx => (tn.own x hx).elim (fun z => by cases z) id
  have hA := r.abv
  have N2 : Below N.heap.size N v2 := below_chain hN h12
  exact ⟨_, F, _, {
    mc := hM.on r.bl
    rf := r.ref N2 hC hn
    at_ := ⟨rfl, rfl⟩
    s1 := fun x hx y => absurd (hM.blw x hx) (Nat.not_lt.2 (hA x y))
    s2 := fun x hx y => absurd (hM.blwK x hx) (Nat.not_lt.2 (hA x y))
    a1 := hF.mono hN.size
    a2 := fun x hx => Nat.le_trans N2.size (hA x (by simp at hx; rcases hx with rfl | rfl <;> simp [Fr, rq0]))
    x1 := fun x hx y => absurd (hX2 x hx) (Nat.not_lt.2 (hF x y))
    x2 := fun x hx y => absurd (Nat.lt_of_lt_of_le (hX2 x hx) h12.size) (Nat.not_lt.2 (hA x y))
    x3 := fun x hx y => absurd (hX2 x hx) (Nat.not_lt.2 (hK x y))
    ax := hX
    lx := fun x hx => Nat.lt_of_lt_of_le (hX2 x hx) (Nat.le_trans h12.size r.bl.size)
    bk := fpK_blw (q := { rq0 b t ao n cap (!checkB t cs) bl with pa := pa, na := 8, ca := ca }) hC
    bel := below_chain N2 r.bl
    sh := hT }⟩
end Go.Proofs.YtninicfnhoediaaGreatDoor
namespace Go.Proofs.YtninicfnhoediaaGreatDoor
open Go.ChangeShapes Go.WideShapes Go.ChangeAt Go.RowKit Num
attribute [local go_sem] run_store_float

/-! what is handed in, copied with two marked things behind it -/
def insC (i : Ins) : List Value := [.int .i64 i.op, .int .i64 i.n, .float .f64 i.x]
theorem flat_at {α : Type} (f : α → List Value) (s : Nat) (hf : ∀ a, (f a).length = s) : ∀ (n : Nat) (l : List α) (m : α), l[n]? = some m → ∀ j, j < s → (l.flatMap f)[n * s + j]? = (f m)[j]?
  | 0, l, m, hm, j, hj => by
    cases l with
    | nil => simp at hm
    | cons a t =>
      simp at hm
      subst hm
      rw [List.flatMap_cons, Nat.zero_mul, Nat.zero_add, List.getElem?_append_left (by rw [hf]; exact hj)]
  | n + 1, l, m, hm, j, hj => by
    cases l with
    | nil => simp at hm
    | cons a t =>
      rw [List.flatMap_cons, List.getElem?_append_right (by rw [hf, Nat.add_mul]; omega)]
      have e : (n + 1) * s + j - (f a).length = n * s + j := by rw [hf, Nat.add_mul]; omega
      rw [e]
      exact flat_at f s hf n t m (by simpa using hm) j hj
theorem insC_len (c : List Ins) : (c.flatMap insC).length = c.length * 3 := by
  induction c with
  | nil => rfl
  | cons i c ih => rw [List.flatMap_cons, List.length_append, ih]; simp [insC]; omega
theorem insC_one (c : List Ins) : ∀ u ∈ c.flatMap insC, u.oneCell' = true := by
  intro u hu
  obtain ⟨i, _, h⟩ := List.mem_flatMap.1 hu
  simp [insC] at h
  rcases h with rfl | rfl | rfl <;> rfl
theorem codeAt_range {w : World} {g off : Nat} {c : List Ins} (hg : g < w.heap.size) (h : w.rangeAt g off (c.flatMap insC)) : CodeAt w (some ⟨g, off, none⟩) c := fun k hk => by
  have e : ∀ j, j < 3 → w.cell? ⟨g, off + (k * 3 + j), none⟩ = (insC (ci c k))[j]? := fun j hj => by
    have h2 := flat_at insC 3 (fun _ => rfl) k c (ci c k) (ci_lt hk) j hj
    cases hq : (insC (ci c k))[j]? with
    | none =>
      rw [List.getElem?_eq_none_iff] at hq
      simp [insC] at hq
      omega
    | some v => exact h _ _ (h2.trans hq)
  exact ⟨g, off, rfl, hg, e 0 (by decide), e 1 (by decide), e 2 (by decide)⟩
theorem range_codeAt {w : World} {b off : Nat} {c : List Ins} (h : CodeAt w (some ⟨b, off, none⟩) c) : w.rangeAt b off (c.flatMap insC) := fun j v hv => by
  have hj : j < c.length * 3 := by
    have := (List.getElem?_eq_some_iff.1 hv).1
    rwa [insC_len] at this
  have hk : j / 3 < c.length := by omega
  obtain ⟨b', off', e, _, c0, c1, c2⟩ := h (j / 3) hk
  cases e
  have hr : j % 3 < 3 := Nat.mod_lt _ (by decide)
  have e2 := flat_at insC 3 (fun _ => rfl) (j / 3) c (ci c (j / 3)) (ci_lt hk) (j % 3) hr
  rw [show j / 3 * 3 + j % 3 = j by omega, hv] at e2
  have h3 : j % 3 = 0 ∨ j % 3 = 1 ∨ j % 3 = 2 := by omega
  rcases h3 with q | q | q
  · rw [show off + j = off + j / 3 * 3 by omega, c0, e2, q]; rfl
  · rw [show off + j = off + j / 3 * 3 + 1 by omega, c1, e2, q]; rfl
  · rw [show off + j = off + j / 3 * 3 + 2 by omega, c2, e2, q]; rfl
theorem src_code {w : World} {ao : Option Addr} {c : List Ins} (cap : Nat) (h : CodeAt w ao c) : Src Tryz.prog 3 24 (.slice ao c.length cap) c.length (c.flatMap insC) w := by
  cases ao with
  | none =>
    cases c with
    | nil => exact Src.ofNil w Tryz.underlying24 cap
    | cons i c =>
      obtain ⟨b, off, e, _⟩ := h 0 (by simp)
      cases e
  | some a =>
    refine Src.ofSlice w Tryz.underlying24 a c.length cap _ (insC_len c) (fun j u hu => ?_) (insC_one c)
    cases c with
    | nil => simp at hu
    | cons i c =>
      obtain ⟨b, off, e, _⟩ := h 0 (by simp)
      cases e
      rw [Addr.add_mid]
      exact range_codeAt h j u hu
theorem fls_get {l : List Nat} {j : Nat} (hj : j < l.length) : (fls l)[j]? = some (.float .f64 (l.getD j 0)) := by
  unfold fls
  rw [List.getElem?_map, List.getElem?_eq_getElem hj, List.getD_eq_getElem?_getD, List.getElem?_eq_getElem hj]
  rfl
theorem fl_range {w : World} {g : Nat} {l : List Nat} {r : List Value} (hg : g < w.heap.size) (h : w.rangeAt g 0 (fls l ++ r)) : FlAt w (some ⟨g, 0, none⟩) l := fun k hk =>
  ⟨g, 0, rfl, hg, h k _ (by rw [List.getElem?_append_left (by rw [fls_len]; exact hk)]; exact fls_get hk)⟩
theorem code_range {w : World} {g : Nat} {c : List Ins} {r : List Value} (hg : g < w.heap.size) (h : w.rangeAt g 0 (c.flatMap insC ++ r)) : CodeAt w (some ⟨g, 0, none⟩) c :=
  codeAt_range hg fun j v hv => h j v (by rw [List.getElem?_append_left (List.getElem?_eq_some_iff.1 hv).1]; exact hv)
theorem src_fl {w : World} {po : Option Addr} {l : List Nat} (co : Nat) (h : FlAt w po l) : Src Tryz.prog 1 27 (.slice po l.length co) l.length (fls l) w := by
  cases po with
  | none =>
    cases l with
    | nil => exact Src.ofNil w Tryz.underlying27 co
    | cons i c =>
      obtain ⟨b, off, e, _⟩ := h 0 (by simp)
      cases e
  | some a =>
    refine Src.ofSlice w Tryz.underlying27 a l.length co _ (by rw [fls_len, Nat.mul_one]) (fun j u hu => ?_) (fls_one l)
    have hj : j < l.length := by
      have := (List.getElem?_eq_some_iff.1 hu).1
      rwa [fls_len] at this
    obtain ⟨b, off, e, _, c⟩ := h j hj
    cases e
    rw [Addr.add_mid, c, ← hu, fls_get hj]
/-- the room is made, wherever -/
theorem make_room (t : TypeId) {e : TypeId} {z : Value} {sz bt : Nat} (ht : Tryz.prog.underlying t = some (.slice e)) (hI : (Tryz.prog.info? e).map (fun i => (i.zero, i.size, i.bytes)) = some (some z, sz, bt)) (n : Nat) {nn : Nat} (hnn : nn = n + 2) (hn : nn * bt ≤ 281474976710656) (hb : 1 ≤ bt) : ∃ arr : Array Value, arr.size = (n + 2) * sz ∧ ∀ w : World, (Instr.makeSlice t (.int .i64 0) (.int .i64 ((n : Int) + 2))).run Tryz.prog w = .ok (.slice (some ⟨w.heap.size, 0, none⟩) 0 nn) (w.alloc (.cells arr e)) := by
  obtain ⟨i, hi, hz0, hz1, hz2⟩ := info_parts hI
  subst hnn
  have h8 : n + 2 ≤ (n + 2) * bt := Nat.le_mul_of_pos_right _ hb
  refine ⟨madeCells z.cells ((n + 2) * i.size), by rw [size_madeCells, hz1], fun w => ?_⟩
  rw [run_make w t e i z ht hi hz0 .i64 .i64 0 ((n : Int) + 2) (Int.le_refl _) (by omega) (by
    have h9 : i.bytes * (n + 2) ≤ 281474976710656 := by rw [Nat.mul_comm, hz2]; omega
    have h10 : ((i.bytes * (n + 2) : Nat) : Int) ≤ 281474976710656 := by omega
    rw [Int.natCast_mul, Int.natCast_add] at h10
    exact h10) (by omega)]
  rw [show ((n : Int) + 2).toNat = n + 2 by omega]
  rfl
/-- the copy -/
theorem len_first {w1 v : World} {arr : Array Value} {t e ty : TypeId} {z : Value} {sz bt n nn : Nat} (hnn : nn = n + 2) (ht : Tryz.prog.underlying t = some (.slice e)) (hI : (Tryz.prog.info? e).map (fun i => (i.zero, i.size, i.bytes)) = some (some z, sz, bt)) (harr : arr.size = (n + 2) * sz) {news : List Value} {x : Value} (hs : ∀ u, Below w1.heap.size w1 u → Src Tryz.prog sz t x n news u) (hv : Same (w1.alloc (.cells arr e)) v) (g : Nat) (hg : g = w1.heap.size) :
    ∃ y u, (Builtin.append_ #[t, t] ty #[.slice (some ⟨g, 0, none⟩) 0 nn, x]).run Tryz.prog v = .ok y u ∧ (y = .slice (some ⟨g, 0, none⟩) n nn ∧ Len w1 u g e sz n news) := by
  obtain ⟨i, hi, _, hz1, _⟩ := info_parts hI
  subst hnn hg hz1
  have h0 : Len w1 v w1.heap.size e i.size n [] := (len_made (w := w1) harr).on (hv.below _)
  obtain ⟨y, u, r1, r2, r3⟩ := h0.app (k := 0) (ty := ty) ht hi (by simp) (hs v ((below_alloc w1 _).trans (hv.below _))) (by omega)
  rw [Nat.zero_add] at r2
  exact ⟨y, u, r1, r2, r3⟩
/-- two more behind it -/
theorem len_more {w1 u v : World} {t e ty : TypeId} {z : Value} {sz bt n nn g h : Nat} {vs : List Value} {lit : Array Value} (hnn : nn = n + 2) (ht : Tryz.prog.underlying t = some (.slice e)) (hI : (Tryz.prog.info? e).map (fun i => (i.zero, i.size, i.bytes)) = some (some z, sz, bt)) (h1 : Len w1 u g e sz n vs) (hvs : vs.length = n * sz) (hl : lit.size = 2 * sz) (ho : ∀ x ∈ lit.toList, x.oneCell' = true) (hh : h = u.heap.size) (hv : Same (u.alloc (.cells lit e)) v) :
    ∃ y u', (Builtin.append_ #[t, t] ty #[.slice (some ⟨g, 0, none⟩) n nn, .slice (some ⟨h, 0, none⟩) 2 2]).run Tryz.prog v = .ok y u' ∧ (y = .slice (some ⟨g, 0, none⟩) nn nn ∧ Len w1 u' g e sz n (vs ++ lit.toList)) := by
  obtain ⟨i, hi, _, hz1, _⟩ := info_parts hI
  subst hnn hz1 hh
  have hb : Below u.heap.size u v := (below_alloc u _).trans (hv.below _)
  have hc : v.heap[u.heap.size]? = some (.cells lit e (0, 0)) := by rw [hv.heap]; exact heap_alloc_new _ _
  exact (h1.on hb).app ht hi hvs (Src.ofSlice v ht _ 2 2 _ (by rw [Array.length_toList]; exact hl) (fun j x hx => by
    rw [Addr.add_mid, Nat.zero_add, cell_of_row v _ _ _ _ _ hc, ← hx]
    simp) ho) (Nat.le_refl _)
theorem Len.code {w u : World} {g n : Nat} {c : List Ins} {r : List Value} (h : Len w u g 91 3 n (c.flatMap insC ++ r)) : CodeAt u (some ⟨g, 0, none⟩) c := by
  obtain ⟨arr, h1, _⟩ := h.blk
  exact code_range (lt_of_block h1) h.got
theorem Len.fl {w u : World} {g n : Nat} {l : List Nat} {r : List Value} (h : Len w u g 71 1 n (fls l ++ r)) : FlAt u (some ⟨g, 0, none⟩) l := by
  obtain ⟨arr, h1, _⟩ := h.blk
  exact fl_range (lt_of_block h1) h.got
/-- both machines beside the two copies -/
structure Beg (N wr : World) (bm br bl : Nat) (K KR : List Nat) (g1 g2 k2 n2 : Nat) (m : Mac) (cs : List Ins) : Prop where
  duo : Duo N wr bm br bl K KR [g1, g2] m cs
  b1 : ∃ arr, wr.heap[g1]? = some (.cells arr 71 (0, 0)) ∧ arr.size = k2
  b2 : ∃ arr, wr.heap[g2]? = some (.cells arr 91 (0, 0)) ∧ arr.size = n2 * 3
  ne : g1 ≠ g2
section
variable {N wr : World} {bm br bl : Nat} {K KR : List Nat} {g1 g2 k2 n2 : Nat} {m : Mac} {cs : List Ins}
theorem Beg.same (h : Beg N wr bm br bl K KR g1 g2 k2 n2 m cs) {u : World} (k : Same wr u) : Beg N u bm br bl K KR g1 g2 k2 n2 m cs := ⟨h.duo.same k, by rw [k.heap]; exact h.b1, by rw [k.heap]; exact h.b2, h.ne⟩
theorem Beg.put1 (h : Beg N wr bm br bl K KR g1 g2 k2 n2 m cs) (i : Nat) (v : Value) : Beg N (wr.setCell ⟨g1, i, none⟩ v) bm br bl K KR g1 g2 k2 n2 m cs := by
  obtain ⟨arr, h1, h2⟩ := h.b1
  obtain ⟨arr', h3, h4⟩ := h.b2
  exact ⟨h.duo.put (by simp) i v, ⟨_, heap_setCell_same _ _ _ _ _ _ h1, by simpa using h2⟩, ⟨arr', (heap_setCell_other _ _ _ _ (by simpa using h.ne.symm)).trans h3, h4⟩, h.ne⟩
theorem Beg.put2 (h : Beg N wr bm br bl K KR g1 g2 k2 n2 m cs) (i : Nat) (v : Value) : Beg N (wr.setCell ⟨g2, i, none⟩ v) bm br bl K KR g1 g2 k2 n2 m cs := by
  obtain ⟨arr, h1, h2⟩ := h.b1
  obtain ⟨arr', h3, h4⟩ := h.b2
  exact ⟨h.duo.put (by simp) i v, ⟨arr, (heap_setCell_other _ _ _ _ (by simpa using h.ne)).trans h1, h2⟩, ⟨_, heap_setCell_same _ _ _ _ _ _ h3, by simpa using h4⟩, h.ne⟩
theorem Beg.at1 (h : Beg N wr bm br bl K KR g1 g2 k2 n2 m cs) {i : Nat} (hi : i < k2) : ∃ y, wr.cell? ⟨g1, i, none⟩ = some y ∧ wr.frozen? ⟨g1, i, none⟩ = false := by
  obtain ⟨arr, h1, h2⟩ := h.b1
  exact ⟨_, by rw [cell_of_row _ _ _ _ _ _ h1, Array.getElem?_eq_getElem (by omega)], frozen_of_row _ _ _ _ _ h1⟩
theorem Beg.at2 (h : Beg N wr bm br bl K KR g1 g2 k2 n2 m cs) {i : Nat} (hi : i < n2 * 3) : ∃ y, wr.cell? ⟨g2, i, none⟩ = some y ∧ wr.frozen? ⟨g2, i, none⟩ = false := by
  obtain ⟨arr, h1, h2⟩ := h.b2
  exact ⟨_, by rw [cell_of_row _ _ _ _ _ _ h1, Array.getElem?_eq_getElem (by omega)], frozen_of_row _ _ _ _ _ h1⟩
end
theorem beg_new {w w0 u2 u4 v1 v2 v3 : World} {a b c e t : Int} {ao : Option Addr} {n cap k k2 n2 : Nat} {l : List Nat} {bm br bl ca g1 g2 : Nat} {pa : Option Addr} {cs : List Ins} {K : List Nat} {vs1 vs2 : List Value} (hb0 : Below w.heap.size w w0) (hT : Shaped5 w) (hC : CodeAt w ao cs) (hn : cs.length = n) (hk2 : k2 = k + 2) (hn2 : n2 = n + 2) (L1 : Len w0 u2 g1 71 1 k vs1) (L2 : Len u2 u4 g2 91 3 n vs2) (hs : Same u4 v1) (g : Gm v1 [] bm K v2 (newM a c e t cs l)) (hK : Abv v1.heap.size K) (r : RNew v2 v3 (newM a c e t cs l) { rq0 b t ao n cap (!checkB t cs) bl with pa := pa, na := 8, ca := ca } br (eight (argF l))) :
    ∃ KR, Beg w v3 bm br bl K KR g1 g2 k2 n2 (newM a c e t cs l) cs := by
  obtain ⟨a1, x1, y1⟩ := L1.blk
  obtain ⟨a2, x2, y2⟩ := L2.blk
  have l1 := lt_of_block x1
  have l2 := lt_of_block x2
  have s4 : Below u4.heap.size u4 v1 := hs.below _
  have c4 : Below u4.heap.size u4 v3 := below_chain (below_chain s4 g.fresh) r.bl
  have c2 : Below u2.heap.size u2 v3 := below_chain L2.bl c4
  have hw : Below w.heap.size w v1 := below_chain (below_chain (below_chain hb0 L1.bl) L2.bl) s4
  have z1 := hb0.size
  have z2 := L1.bl.size
  have z3 := L2.bl.size
  have z4 := s4.size
  have z5 := L1.lo
  have z6 := L2.lo
  obtain ⟨KR, hD⟩ := duo_new (X := [g1, g2]) hw hT hC hn g hK r (fun x hx => by simp at hx; omega) (fun x hx => by simp at hx; omega)
  exact ⟨KR, hD, ⟨a1, (c2.block _ l1).trans x1, by rw [y1, hk2, Nat.mul_one]⟩, ⟨a2, (c4.block _ l2).trans x2, by rw [y2, hn2]⟩, by omega⟩
end Go.Proofs.YtninicfnhoediaaGreatDoor
