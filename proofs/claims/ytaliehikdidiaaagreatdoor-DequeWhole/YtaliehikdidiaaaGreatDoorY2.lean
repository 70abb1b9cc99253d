import Derived.Test.YtaliehikdidiaaaGreatDoorY1
namespace Go.Proofs.YtaliehikdidiaaaGreatDoor
open Go.ChangeShapes Go.WideShapes Go.ChangeAt Go.RowKit Num Go.Maps
attribute [local go_sem] run_store_float frombits_run bits_run

theorem Below.turn {w w' : World} (k : Below w.heap.size w w') (F : List Nat) : Turn F F w w' := ⟨k.os, k.tape, k.output, k.size, fun i hi _ => k.block i hi, fun _ h => .inl h⟩
theorem below_alloc (w : World) (x : Obj) : Below w.heap.size w (w.alloc x) := (Below.refl _ _).alloc (Nat.le_refl _) x
theorem turn_chain {W w w' : World} {F F' : List Nat} (h : Below W.heap.size W w) (k : Turn F F' w w') (a : Abv W.heap.size F) : Below W.heap.size W w' := h.trans (k.below a h.size)
theorem grown_turn {w w' : World} {g : Nat} (h : w.grownBy w' (some g)) : Turn [g] [g] w w' :=
  ⟨h.os, h.tape, h.output, h.size, fun k hk hn => h.block k hk (by simp at hn ⊢; omega), fun k hk => .inl hk⟩
theorem RowAt.on {E : TypeId} {w w' : World} {p : Option Addr} {c : Nat} {xs : List Value} (h : RowAt E w p c xs) (k : Below w.heap.size w w') : RowAt E w' p c xs := h.keep (kept_below k h.blw)
/-- a turn of part of the blocks is a turn of all -/
theorem Turn.wide {F G : List Nat} {w w' : World} (k : Turn F F w w') (h : ∀ i, i ∈ F → i ∈ G) : Turn G G w w' :=
  ⟨k.os, k.tape, k.output, k.size, fun i hi hn => k.block i hi (fun q => hn (h i q)), fun _ q => .inl q⟩
/-- a buffer: b the block of its fields, bm its map's, p where its cells lie -/
structure BufAt (w : World) (b bm : Nat) (p : Option Addr) (c : Nat) (m : Int) (l : Wr) : Prop where
  box : w.heap[b]? = some (.cells #[.int .i64 m, .map (some bm), .slice p l.length c] 165 (0, 0))
  row : RowAt 3 w p c (i64s (cellsOfL l))
  map : MapAt w bm l
  n1 : b ∉ fpR p
  n2 : bm ∉ fpR p
  n3 : b ≠ bm
  fits : (l.length : Int) ≤ m
  most : m ≤ 32
  nod : (cellsOfL l).Nodup
  wfs : ∀ t ∈ l, (Lit.int .i64 t.1).wf = true
def Buf (w : World) (b : Nat) (F : List Nat) (m : Int) (l : Wr) : Prop := ∃ bm p c, BufAt w b bm p c m l ∧ F = b :: bm :: fpR p
section
variable {w w' : World} {b bm c : Nat} {p : Option Addr} {m : Int} {l : Wr} {F : List Nat}
theorem BufAt.ltB (h : BufAt w b bm p c m l) : b < w.heap.size := lt_of_block h.box
theorem BufAt.cell0 (h : BufAt w b bm p c m l) : w.cell? ⟨b, 0, none⟩ = some (.int .i64 m) := by rw [cell_of_row w b 0 _ _ _ h.box]; rfl
theorem BufAt.cell1 (h : BufAt w b bm p c m l) : w.cell? ⟨b, 1, none⟩ = some (.map (some bm)) := by rw [cell_of_row w b 1 _ _ _ h.box]; rfl
theorem BufAt.cell2 (h : BufAt w b bm p c m l) : w.cell? ⟨b, 2, none⟩ = some (.slice p l.length c) := by rw [cell_of_row w b 2 _ _ _ h.box]; rfl
theorem BufAt.free (h : BufAt w b bm p c m l) (j : Nat) : w.frozen? ⟨b, j, none⟩ = false := frozen_of_row w b j _ _ h.box
theorem BufAt.blw (h : BufAt w b bm p c m l) : Blw w (b :: bm :: fpR p) := fun k hk => by
  rcases List.mem_cons.1 hk with rfl | q
  · exact h.ltB
  · rcases List.mem_cons.1 q with rfl | q
    · exact h.map.lt
    · exact h.row.blw k q
theorem BufAt.keep (h : BufAt w b bm p c m l) (k : Kept (b :: bm :: fpR p) w w') : BufAt w' b bm p c m l :=
  ⟨(k.2 b (by simp)).trans h.box, h.row.keep ⟨k.1, fun i hi => k.2 i (by simp [hi])⟩, h.map.keep (k.2 bm (by simp)), h.n1, h.n2, h.n3, h.fits, h.most, h.nod, h.wfs⟩
theorem BufAt.same (h : BufAt w b bm p c m l) (k : Same w w') : BufAt w' b bm p c m l := h.keep (k.kept _)
theorem BufAt.buf (h : BufAt w b bm p c m l) : Buf w b (b :: bm :: fpR p) m l := ⟨bm, p, c, h, rfl⟩
theorem Buf.blw (h : Buf w b F m l) : Blw w F := by obtain ⟨bm, p, c, hs, rfl⟩ := h; exact hs.blw
theorem Buf.keep (h : Buf w b F m l) (k : Kept F w w') : Buf w' b F m l := by
  obtain ⟨bm, p, c, hs, rfl⟩ := h
  exact ⟨bm, p, c, hs.keep k, rfl⟩
theorem Buf.same (h : Buf w b F m l) (k : Same w w') : Buf w' b F m l := h.keep (k.kept F)
theorem Buf.on (h : Buf w b F m l) (k : Below w.heap.size w w') : Buf w' b F m l := h.keep (kept_below k h.blw)
theorem Buf.turn {G G' : List Nat} (h : Buf w b F m l) (k : Turn G G' w w') (s : Sep F G) : Buf w' b F m l := h.keep (k.kept s h.blw)
theorem Buf.alloc (h : Buf w b F m l) (x : Obj) : Buf (w.alloc x) b F m l := h.on (below_alloc _ x)
theorem Buf.few (h : Buf w b F m l) : (l.length : Int) ≤ m ∧ m ≤ 32 := by obtain ⟨bm, p, c, hs, rfl⟩ := h; exact ⟨hs.fits, hs.most⟩
theorem Buf.nod (h : Buf w b F m l) : (cellsOfL l).Nodup := by obtain ⟨bm, p, c, hs, rfl⟩ := h; exact hs.nod
theorem Buf.wfs (h : Buf w b F m l) : ∀ t ∈ l, (Lit.int .i64 t.1).wf = true := by obtain ⟨bm, p, c, hs, rfl⟩ := h; exact hs.wfs
end
/-- is there room for it -/
def mayP (m : Int) (l : Wr) (c : Int) : Bool := hasC l c || decide ((l.length : Int) < m)
def putL (m : Int) (l : Wr) (c : Int) (x : Nat) : Wr := if mayP m l c then putC l c (fixB x) else l
def putF (m : Int) (l : Wr) (c : Int) : Bool := !hasC l c && decide ((l.length : Int) < m)
def putE (m : Int) (l : Wr) (c : Int) : Int := if mayP m l c then 0 else 70
def mayM (m : Int) : Bool := decide (1 ≤ m) && decide (m ≤ 32)
theorem wfs_put {l : Wr} (h : ∀ t ∈ l, (Lit.int .i64 t.1).wf = true) {c : Int} (hc : (Lit.int .i64 c).wf = true) (y : Nat) : ∀ t ∈ putC l c y, (Lit.int .i64 t.1).wf = true := by
  intro t ht
  have h1 : t.1 ∈ cellsOfL (putC l c y) := List.mem_map.2 ⟨t, ht, rfl⟩
  have h2 : ∀ d, d ∈ cellsOfL l → (Lit.int .i64 d).wf = true := fun d hd => by
    obtain ⟨u, hu, rfl⟩ := List.mem_map.1 hd
    exact h u hu
  rw [cells_put] at h1
  split at h1
  · exact h2 _ h1
  · rcases List.mem_append.1 h1 with q | q
    · exact h2 _ q
    · simp at q
      rw [q]
      exact hc
section
variable {w w' : World} {b bm c : Nat} {p : Option Addr} {m : Int} {l : Wr} {F : List Nat}
/-- its map is written at a cell that is there -/
theorem BufAt.laid (h : BufAt w b bm p c m l) {d : Int} (hd : hasC l d = true) {y : Nat} (hm : MapAt w' bm (putC l d y)) (hg : w.grownBy w' (some bm)) : BufAt w' b bm p c m (putC l d y) ∧ Turn (b :: bm :: fpR p) (b :: bm :: fpR p) w w' := by
  have hl : (putC l d y).length = l.length := by rw [putC_len, if_pos hd]
  have hcl : cellsOfL (putC l d y) = cellsOfL l := by rw [cells_put, if_pos hd]
  have ht := grown_turn hg
  refine ⟨⟨?_, ?_, hm, h.n1, h.n2, h.n3, by rw [hl]; exact h.fits, h.most, by rw [hcl]; exact h.nod, ?_⟩, ht.wide (by simp)⟩
  · rw [hl, hg.block b h.ltB (by simp [h.n3])]
    exact h.box
  · rw [hcl]
    exact h.row.keep (ht.kept (fun k hk q => h.n2 (by simp at q; rw [← q]; exact hk)) h.row.blw)
  · intro t ht
    have h1 : t.1 ∈ cellsOfL (putC l d y) := List.mem_map.2 ⟨t, ht, rfl⟩
    rw [hcl] at h1
    obtain ⟨u, hu, e⟩ := List.mem_map.1 h1
    rw [← e]
    exact h.wfs u hu
/-- a cell more: behind append and the store of its field, ahead of the map's -/
theorem BufAt.more {w3 : World} {v : Value} {d : Int} {o : Obj} (h : BufAt w b bm p c m l) (hown : w3.ownsRow 0 3 1 v (l.length + 1) (i64s (cellsOfL l) ++ [.int .i64 d])) (hg : (w.alloc o).grownBy w3 (Value.slice p l.length c).ownBlock) (hat : v.ownBlock = (Value.slice p l.length c).ownBlock ∨ v.ownBlock = some (w.alloc o).heap.size) (hd : hasC l d = false) (hw : (Lit.int .i64 d).wf = true) (hf : (l.length : Int) < m) (y : Nat) :
    ∃ p' c', v = .slice p' (l.length + 1) c' ∧ w3.cell? ⟨b, 1, none⟩ = some (.map (some bm)) ∧ w3.cell? ⟨b, 2, none⟩ = some (.slice p l.length c) ∧ w3.frozen? ⟨b, 2, none⟩ = false ∧ b < w3.heap.size ∧
      ∃ w4, (Instr.mapUpdate 162 (.map (some bm)) (.int .i64 d) (.float .f64 y)).run Tryz.prog (w3.setCell ⟨b, 2, none⟩ (.slice p' (l.length + 1) c')).drew = .ok () w4 ∧ BufAt w4 b bm p' c' m (putC l d y) ∧ Turn (b :: bm :: fpR p) (b :: bm :: fpR p') w w4 := by
  obtain ⟨p', c', rfl, hr⟩ := ownsRow_slice hown
  have hl : (i64s (cellsOfL l) ++ [Value.int .i64 d]).length = l.length + 1 := by simp [i64s_len, cells_len]
  have hl2 : (putC l d y).length = l.length + 1 := by rw [putC_len, hd]; rfl
  have hcl : cellsOfL (putC l d y) = cellsOfL l ++ [d] := by rw [cells_put, hd]; rfl
  have g : w.grownBy w3 (Value.slice p l.length c).ownBlock := (World.grownBy_alloc w o _).trans hg
  have ho : ∀ k, k ∈ fpR p' → k ∈ fpR p ∨ w.heap.size ≤ k := own_at hat (by simp)
  have hbox : w3.heap[b]? = some (.cells #[.int .i64 m, .map (some bm), .slice p l.length c] 165 (0, 0)) := (g.block b h.ltB (fun q => h.n1 (own_fpR.2 q.symm))).trans h.box
  have hne : b ∉ fpR p' := fun q => (ho b q).elim h.n1 (fun z => absurd h.ltB (Nat.not_lt.2 z))
  have hne2 : bm ∉ fpR p' := fun q => (ho bm q).elim h.n2 (fun z => absurd h.map.lt (Nat.not_lt.2 z))
  rw [hl]
  refine ⟨p', c', rfl, by rw [cell_of_row w3 b 1 _ _ _ hbox]; rfl, by rw [cell_of_row w3 b 2 _ _ _ hbox]; rfl, frozen_of_row w3 b 2 _ _ hbox, lt_of_block hbox, ?_⟩
  have hm1 : MapAt (w3.setCell ⟨b, 2, none⟩ (.slice p' (l.length + 1) c')) bm l := h.map.keep ((heap_setCell_other _ _ _ _ (Ne.symm h.n3)).trans (g.block bm h.map.lt (fun q => h.n2 (own_fpR.2 q.symm))))
  have hmost := h.most
  obtain ⟨w4, hrun, hm4, hg4⟩ := (hm1.keep (w' := (w3.setCell ⟨b, 2, none⟩ (.slice p' (l.length + 1) c')).drew) rfl).lay hw y (by unfold maxLen; omega)
  have ht4 := grown_turn hg4
  have hr2 : RowAt 3 (w3.setCell ⟨b, 2, none⟩ (.slice p' (l.length + 1) c')) p' c' (i64s (cellsOfL l) ++ [Value.int .i64 d]) := hr.keep ⟨by simp, fun k hk => heap_setCell_other _ _ _ _ (by rintro rfl; exact hne hk)⟩
  refine ⟨w4, hrun, ⟨?_, ?_, hm4, hne, hne2, h.n3, by rw [hl2]; omega, h.most, nodup_put h.nod, wfs_put h.wfs hw y⟩, ?_⟩
  · rw [hg4.block b (by simpa using lt_of_block hbox) (by simp [h.n3]), hl2]
    exact (heap_setCell_same w3 b 2 _ _ _ hbox).trans rfl
  · rw [hcl, i64s_snoc]
    exact (hr2.keep ((Same.drew _).kept _)).keep (ht4.kept (fun k hk q => hne2 (by simp at q; rw [← q]; exact hk)) hr2.blw)
  · refine ⟨hg4.os.trans g.os, hg4.tape.trans g.tape, hg4.output.trans g.output, Nat.le_trans g.size (by simpa using hg4.size), fun k hk hn => ?_, fun k hk => ?_⟩
    · simp only [List.mem_cons, not_or] at hn
      exact (hg4.block k (by simpa using Nat.lt_of_lt_of_le hk g.size) (by simp [hn.2.1])).trans ((heap_setCell_other _ _ _ _ (by simpa using hn.1)).trans (g.block k hk (fun q => hn.2.2 (own_fpR.2 q.symm))))
    · simp only [List.mem_cons] at hk ⊢
      rcases hk with q | q | q
      · exact .inl (.inl q)
      · exact .inl (.inr (.inl q))
      · exact (ho k q).imp (fun z => .inr (.inr z)) id
end
theorem new_none {n : Int} (hn : mayM n = false) (w : World) : Calls Tryz.prog 86 #[.int .i64 n] w fun e w' => e = .returned (.tuple #[.pointer none, .int .i64 1]) ∧ w' = w := by
  unfold mayM at hn
  simp at hn
  by_cases h1 : n < 1
  · go_enter Tryz.func86, Tryz.ntmps86
    go_wp2
    go_ret2
    exact ⟨rfl, rfl⟩
  · have h2 : 32 < n := hn (by omega)
    clear hn
    go_enter Tryz.func86, Tryz.ntmps86
    go_wp2
    go_ret2
    exact ⟨rfl, rfl⟩
set_option maxRecDepth 100000 in
theorem new_some {n : Int} (hn : mayM n = true) (w : World) : Calls Tryz.prog 86 #[.int .i64 n] w fun e w' => ∃ b F, e = .returned (.tuple #[.pointer (some ⟨b, 0, none⟩), .int .i64 0]) ∧ Buf w' b F n [] ∧ Abv w.heap.size F ∧ Below w.heap.size w w' := by
  have h0 : 1 ≤ n ∧ n ≤ 32 := by unfold mayM at hn; simpa using hn
  have h1 : ¬ n < 1 := by omega
  have h2 : ¬ 32 < n := by omega
  have HN := Lib.hid h0
  have hmm := @run_makeMap Tryz.prog
  clear hn h0
  go_enter Tryz.func86, Tryz.ntmps86
  go_wp2
  go_ret2
  refine ⟨w.heap.size + 1, by simp, [w.heap.size + 1, w.heap.size], ⟨w.heap.size, none, 0, ⟨?_, ⟨World.ownsRow_nil _ _ _ _⟩, ?_, by simp [fpR], by simp [fpR], by omega, by have := HN.out; simp; omega, HN.out.2, by simp [cellsOfL], by simp⟩, by simp [fpR]⟩, fun k hk => by simp at hk; omega, ((Below.refl _ _).alloc (Nat.le_refl _) _).alloc (by simp) _⟩
  · have := heap_alloc_new (w.alloc (.map #[] 0)) (.cells #[.int .i64 n, .map (some w.heap.size), .slice none 0 0] 165)
    simpa using this
  · exact (map_new w).keep (Below.heap_alloc _ _ _ (by simp))
section
variable {w : World} {b : Nat} {F : List Nat} {m : Int} {l : Wr}
theorem get_any (h : Buf w b F m l) {d : Int} (hd : (Lit.int .i64 d).wf = true) : Calls Tryz.prog 158 #[.pointer (some ⟨b, 0, none⟩), .int .i64 d] w fun e w' => e = .returned (.tuple #[.float .f64 (getC l d), .bool (hasC l d)]) ∧ w' = w := by
  obtain ⟨bm, p, c, hs, rfl⟩ := h
  have h0 := hs.cell1
  have hb := hs.ltB
  have hlk := hs.map.look hd
  clear hs hd
  go_enter Tryz.func158, Tryz.ntmps158
  go_wp2
  go_ret2
  exact ⟨rfl, rfl⟩
end
end Go.Proofs.YtaliehikdidiaaaGreatDoor
