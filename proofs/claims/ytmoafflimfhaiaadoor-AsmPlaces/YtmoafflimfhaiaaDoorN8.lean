/- stage 19 (asm): the document's builder in memory; its calls but Program (made by mkN8.py) -/
import Derived.Test.YtmoafflimfhaiaaDoorN7
namespace Go.Proofs.YtmoafflimfhaiaaDoor.As
open Go.ChangeShapes Go.WideShapes Go.ChangeAt Go.RowKit Num Go.Maps
attribute [local go_sem] run_store_float frombits_run bits_run

theorem iInfo : (Tryd.prog.info? 3).map (fun i => (i.zero, i.size, i.bytes)) = some (some (.int .i64 0), 1, 8) := by kernel_rfl
theorem bInfo : (Tryd.prog.info? 4).map (fun i => (i.zero, i.size, i.bytes)) = some (some (.bool false), 1, 1) := by kernel_rfl
theorem mInfo : (Tryd.prog.info? 67).map (fun i => (i.zero, i.size, i.bytes)) = some (some (.agg #[.int .i64 0, .int .i64 0]), 2, 16) := by kernel_rfl
/-- where its rows lie -/
structure Rv where
  pc : Option Addr
  cc : Nat
  pl : Option Addr
  cl : Nat
  pt : Option Addr
  ct : Nat
  pm : Option Addr
  cm : Nat
def fpQ (b : Nat) (v : Rv) : List Nat := b :: (fpR v.pc ++ (fpR v.pl ++ (fpR v.pt ++ fpR v.pm)))
theorem mem_fpQ {b k : Nat} {v : Rv} : k ∈ fpQ b v ↔ k = b ∨ k ∈ fpR v.pc ∨ k ∈ fpR v.pl ∨ k ∈ fpR v.pt ∨ k ∈ fpR v.pm := by simp [fpQ]
def rboxA (tag many : Int) (nc nl nt nm : Nat) (v : Rv) : Array Value := #[.int .i64 tag, .slice v.pc nc v.cc, .slice v.pl nl v.cl, .slice v.pt nt v.ct, .int .i64 many, .slice v.pm nm v.cm]
/-- its box and its rows, each with a length of its own -/
structure RRaw (w : World) (b : Nat) (tag many : Int) (C L T M : List Value) (nc nl nt nm : Nat) (v : Rv) : Prop where
  box : w.heap[b]? = some (.cells (rboxA tag many nc nl nt nm v) 59 (0, 0))
  c : RowW 42 3 w v.pc v.cc nc C
  l : RowW 3 1 w v.pl v.cl nl L
  t : RowW 4 1 w v.pt v.ct nt T
  m : RowW 67 2 w v.pm v.cm nm M
section
variable {w w' u w3 : World} {b : Nat} {tag many : Int} {C L T M : List Value} {nc nl nt nm : Nat} {v : Rv}
theorem RRaw.blw (h : RRaw w b tag many C L T M nc nl nt nm v) : Blw w (fpQ b v) := fun k hk => by
  rcases mem_fpQ.1 hk with rfl | q | q | q | q
  · exact lt_of_block h.box
  · exact h.c.blw k q
  · exact h.l.blw k q
  · exact h.t.blw k q
  · exact h.m.blw k q
theorem RRaw.keep (h : RRaw w b tag many C L T M nc nl nt nm v) (k : Kept (fpQ b v) w w') : RRaw w' b tag many C L T M nc nl nt nm v :=
  ⟨(k.2 b (mem_fpQ.2 (.inl rfl))).trans h.box, h.c.keep (kept_sub k fun _ hi => mem_fpQ.2 (.inr (.inl hi))), h.l.keep (kept_sub k fun _ hi => mem_fpQ.2 (.inr (.inr (.inl hi)))), h.t.keep (kept_sub k fun _ hi => mem_fpQ.2 (.inr (.inr (.inr (.inl hi))))), h.m.keep (kept_sub k fun _ hi => mem_fpQ.2 (.inr (.inr (.inr (.inr hi)))))⟩
theorem RRaw.cells (h : RRaw w b tag many C L T M nc nl nt nm v) : b < w.heap.size ∧ w.cell? ⟨b, 0, none⟩ = some (.int .i64 tag) ∧ w.cell? ⟨b, 1, none⟩ = some (.slice v.pc nc v.cc) ∧ w.cell? ⟨b, 2, none⟩ = some (.slice v.pl nl v.cl) ∧ w.cell? ⟨b, 3, none⟩ = some (.slice v.pt nt v.ct) ∧ w.cell? ⟨b, 4, none⟩ = some (.int .i64 many) ∧ w.cell? ⟨b, 5, none⟩ = some (.slice v.pm nm v.cm) ∧ ∀ j, w.frozen? ⟨b, j, none⟩ = false := by
  have c : ∀ j, w.cell? ⟨b, j, none⟩ = (rboxA tag many nc nl nt nm v)[j]? := fun j => cell_of_row w b j _ _ _ h.box
  exact ⟨lt_of_block h.box, c 0, c 1, c 2, c 3, c 4, c 5, fun j => frozen_of_row w b j _ _ h.box⟩
set_option maxRecDepth 100000 in
theorem RRaw.app_c (h : RRaw u b tag many C L T M nc nl nt nm v) {gx : Nat} {arr : Array Value} (hx : u.heap[gx]? = some (.cells arr 42 (0, 0))) (ha : arr.size = 3) (h1 : ∀ y ∈ arr.toList, y.oneCell' = true) (hl : nc < lim) (ty : TypeId) :
    ∃ r w3, (Builtin.append_ #[35, 35] ty #[.slice v.pc nc v.cc, .slice (some ⟨gx, 0, none⟩) 1 1]).run Tryd.prog u = .ok r w3 ∧ (b < w3.heap.size ∧ w3.cell? ⟨b, 0, none⟩ = some (.int .i64 tag) ∧ w3.cell? ⟨b, 1, none⟩ = some (.slice v.pc nc v.cc) ∧ w3.cell? ⟨b, 2, none⟩ = some (.slice v.pl nl v.cl) ∧ w3.cell? ⟨b, 3, none⟩ = some (.slice v.pt nt v.ct) ∧ w3.cell? ⟨b, 4, none⟩ = some (.int .i64 many) ∧ w3.cell? ⟨b, 5, none⟩ = some (.slice v.pm nm v.cm) ∧ ∀ j, w3.frozen? ⟨b, j, none⟩ = false) ∧ (∃ g c', r = .slice (some ⟨g, 0, none⟩) (nc + 1) c') ∧ Hid (∃ v', RRaw (w3.setCell ⟨b, 1, none⟩ r) b tag many (C ++ arr.toList) L T M (nc + 1) nl nt nm v' ∧ Turn (fpQ b v) (fpQ b v') u (w3.setCell ⟨b, 1, none⟩ r)) ∧ ∀ k, k < u.heap.size → k ∉ fpR v.pc → w3.heap[k]? = u.heap[k]? := by
  unfold lim at hl
  obtain ⟨r, w3, e1, g, c', rfl, h2, ht⟩ := h.c.app Tryd.underlying35 insInfo rfl (by decide) hx ha h1 (by unfold maxLen; omega) (by omega) ty
  have kept : ∀ (k : Nat) (a : Array Value) (S : TypeId), (S == 42) = false → u.heap[k]? = some (.cells a S (0, 0)) → w3.heap[k]? = some (.cells a S (0, 0)) := fun k a S hS e => (ht.block k (lt_of_block e) fun q => by obtain ⟨arr', e2⟩ := h.c.blk q; exact ne_ty e e2 hS rfl).trans e
  have hbox := kept b _ _ (by decide) h.box
  have hgo := ht.own g (by simp)
  have gb : g ≠ b := by
    rintro rfl
    rcases hgo with q | q
    · obtain ⟨arr', e2⟩ := h.c.blk q
      exact ne_ty h.box e2 (by decide) rfl
    · exact absurd (lt_of_block h.box) (Nat.not_lt.2 q)
  have nb : ∀ {S : TypeId} {s2 : Nat} {p2 : Option Addr} {c2 n2 : Nat} {x2 : List Value}, (59 == S) = false → RowW S s2 u p2 c2 n2 x2 → b ∉ fpR p2 := fun hS hr q => by
    obtain ⟨arr', e2⟩ := hr.blk q
    exact ne_ty h.box e2 hS rfl
  have kp : ∀ {S : TypeId} {s2 : Nat} {p2 : Option Addr} {c2 n2 : Nat} {x2 : List Value}, (S == 42) = false → RowW S s2 u p2 c2 n2 x2 → b ∉ fpR p2 → Kept (fpR p2) u (w3.setCell ⟨b, 1, none⟩ (.slice (some ⟨g, 0, none⟩) (nc + 1) c')) := fun hS hr hb => ⟨by simpa using ht.size, fun k hk => by
    obtain ⟨arr', e2⟩ := hr.blk hk
    exact (heap_setCell_other _ _ _ _ (by rintro rfl; exact hb hk)).trans ((kept k _ _ hS e2).trans e2.symm)⟩
  have c : ∀ j, w3.cell? ⟨b, j, none⟩ = (rboxA tag many nc nl nt nm v)[j]? := fun j => cell_of_row w3 b j _ _ _ hbox
  refine ⟨_, w3, e1, ⟨lt_of_block hbox, c 0, c 1, c 2, c 3, c 4, c 5, fun j => frozen_of_row w3 b j _ _ hbox⟩, ⟨g, c', rfl⟩, ⟨{ v with pc := some ⟨g, 0, none⟩, cc := c' }, ⟨(heap_setCell_same w3 b 1 _ _ _ hbox).trans rfl, ?_, ?_, ?_, ?_⟩, ⟨ht.os, ht.tape, ht.output, by simpa using ht.size, fun k hk hn => ?_, fun k hk => ?_⟩⟩, ht.block⟩
  · exact h2.keep ⟨by simp, fun k hk => heap_setCell_other _ _ _ _ (by
      obtain rfl : k = g := by simpa [fpR] using hk
      exact gb)⟩
  · exact h.l.keep (kp (by decide) h.l (nb (by decide) h.l))
  · exact h.t.keep (kp (by decide) h.t (nb (by decide) h.t))
  · exact h.m.keep (kp (by decide) h.m (nb (by decide) h.m))
  · have hn1 : k ≠ b := by rintro rfl; exact hn (mem_fpQ.2 (.inl rfl))
    exact (heap_setCell_other _ _ _ _ hn1).trans (ht.block k hk fun q => hn (mem_fpQ.2 (.inr (.inl q))))
  · rcases mem_fpQ.1 hk with q | q | q | q | q
    · exact .inl (mem_fpQ.2 (.inl q))
    · obtain rfl : k = g := by simpa [fpR] using q
      exact hgo.imp (fun z => mem_fpQ.2 (.inr (.inl z))) id
    · exact .inl (mem_fpQ.2 (.inr (.inr (.inl q))))
    · exact .inl (mem_fpQ.2 (.inr (.inr (.inr (.inl q)))))
    · exact .inl (mem_fpQ.2 (.inr (.inr (.inr (.inr q)))))
set_option maxRecDepth 100000 in
theorem RRaw.app_l (h : RRaw u b tag many C L T M nc nl nt nm v) {gx : Nat} {arr : Array Value} (hx : u.heap[gx]? = some (.cells arr 3 (0, 0))) (ha : arr.size = 1) (h1 : ∀ y ∈ arr.toList, y.oneCell' = true) (hl : nl < lim) (ty : TypeId) :
    ∃ r w3, (Builtin.append_ #[55, 55] ty #[.slice v.pl nl v.cl, .slice (some ⟨gx, 0, none⟩) 1 1]).run Tryd.prog u = .ok r w3 ∧ (b < w3.heap.size ∧ w3.cell? ⟨b, 0, none⟩ = some (.int .i64 tag) ∧ w3.cell? ⟨b, 1, none⟩ = some (.slice v.pc nc v.cc) ∧ w3.cell? ⟨b, 2, none⟩ = some (.slice v.pl nl v.cl) ∧ w3.cell? ⟨b, 3, none⟩ = some (.slice v.pt nt v.ct) ∧ w3.cell? ⟨b, 4, none⟩ = some (.int .i64 many) ∧ w3.cell? ⟨b, 5, none⟩ = some (.slice v.pm nm v.cm) ∧ ∀ j, w3.frozen? ⟨b, j, none⟩ = false) ∧ (∃ g c', r = .slice (some ⟨g, 0, none⟩) (nl + 1) c') ∧ Hid (∃ v', RRaw (w3.setCell ⟨b, 2, none⟩ r) b tag many C (L ++ arr.toList) T M nc (nl + 1) nt nm v' ∧ Turn (fpQ b v) (fpQ b v') u (w3.setCell ⟨b, 2, none⟩ r)) ∧ ∀ k, k < u.heap.size → k ∉ fpR v.pl → w3.heap[k]? = u.heap[k]? := by
  unfold lim at hl
  obtain ⟨r, w3, e1, g, c', rfl, h2, ht⟩ := h.l.app Tryd.underlying55 iInfo rfl (by decide) hx ha h1 (by unfold maxLen; omega) (by omega) ty
  have kept : ∀ (k : Nat) (a : Array Value) (S : TypeId), (S == 3) = false → u.heap[k]? = some (.cells a S (0, 0)) → w3.heap[k]? = some (.cells a S (0, 0)) := fun k a S hS e => (ht.block k (lt_of_block e) fun q => by obtain ⟨arr', e2⟩ := h.l.blk q; exact ne_ty e e2 hS rfl).trans e
  have hbox := kept b _ _ (by decide) h.box
  have hgo := ht.own g (by simp)
  have gb : g ≠ b := by
    rintro rfl
    rcases hgo with q | q
    · obtain ⟨arr', e2⟩ := h.l.blk q
      exact ne_ty h.box e2 (by decide) rfl
    · exact absurd (lt_of_block h.box) (Nat.not_lt.2 q)
  have nb : ∀ {S : TypeId} {s2 : Nat} {p2 : Option Addr} {c2 n2 : Nat} {x2 : List Value}, (59 == S) = false → RowW S s2 u p2 c2 n2 x2 → b ∉ fpR p2 := fun hS hr q => by
    obtain ⟨arr', e2⟩ := hr.blk q
    exact ne_ty h.box e2 hS rfl
  have kp : ∀ {S : TypeId} {s2 : Nat} {p2 : Option Addr} {c2 n2 : Nat} {x2 : List Value}, (S == 3) = false → RowW S s2 u p2 c2 n2 x2 → b ∉ fpR p2 → Kept (fpR p2) u (w3.setCell ⟨b, 2, none⟩ (.slice (some ⟨g, 0, none⟩) (nl + 1) c')) := fun hS hr hb => ⟨by simpa using ht.size, fun k hk => by
    obtain ⟨arr', e2⟩ := hr.blk hk
    exact (heap_setCell_other _ _ _ _ (by rintro rfl; exact hb hk)).trans ((kept k _ _ hS e2).trans e2.symm)⟩
  have c : ∀ j, w3.cell? ⟨b, j, none⟩ = (rboxA tag many nc nl nt nm v)[j]? := fun j => cell_of_row w3 b j _ _ _ hbox
  refine ⟨_, w3, e1, ⟨lt_of_block hbox, c 0, c 1, c 2, c 3, c 4, c 5, fun j => frozen_of_row w3 b j _ _ hbox⟩, ⟨g, c', rfl⟩, ⟨{ v with pl := some ⟨g, 0, none⟩, cl := c' }, ⟨(heap_setCell_same w3 b 2 _ _ _ hbox).trans rfl, ?_, ?_, ?_, ?_⟩, ⟨ht.os, ht.tape, ht.output, by simpa using ht.size, fun k hk hn => ?_, fun k hk => ?_⟩⟩, ht.block⟩
  · exact h.c.keep (kp (by decide) h.c (nb (by decide) h.c))
  · exact h2.keep ⟨by simp, fun k hk => heap_setCell_other _ _ _ _ (by
      obtain rfl : k = g := by simpa [fpR] using hk
      exact gb)⟩
  · exact h.t.keep (kp (by decide) h.t (nb (by decide) h.t))
  · exact h.m.keep (kp (by decide) h.m (nb (by decide) h.m))
  · have hn1 : k ≠ b := by rintro rfl; exact hn (mem_fpQ.2 (.inl rfl))
    exact (heap_setCell_other _ _ _ _ hn1).trans (ht.block k hk fun q => hn (mem_fpQ.2 (.inr (.inr (.inl q)))))
  · rcases mem_fpQ.1 hk with q | q | q | q | q
    · exact .inl (mem_fpQ.2 (.inl q))
    · exact .inl (mem_fpQ.2 (.inr (.inl q)))
    · obtain rfl : k = g := by simpa [fpR] using q
      exact hgo.imp (fun z => mem_fpQ.2 (.inr (.inr (.inl z)))) id
    · exact .inl (mem_fpQ.2 (.inr (.inr (.inr (.inl q)))))
    · exact .inl (mem_fpQ.2 (.inr (.inr (.inr (.inr q)))))
set_option maxRecDepth 100000 in
theorem RRaw.app_t (h : RRaw u b tag many C L T M nc nl nt nm v) {gx : Nat} {arr : Array Value} (hx : u.heap[gx]? = some (.cells arr 4 (0, 0))) (ha : arr.size = 1) (h1 : ∀ y ∈ arr.toList, y.oneCell' = true) (hl : nt < lim) (ty : TypeId) :
    ∃ r w3, (Builtin.append_ #[56, 56] ty #[.slice v.pt nt v.ct, .slice (some ⟨gx, 0, none⟩) 1 1]).run Tryd.prog u = .ok r w3 ∧ (b < w3.heap.size ∧ w3.cell? ⟨b, 0, none⟩ = some (.int .i64 tag) ∧ w3.cell? ⟨b, 1, none⟩ = some (.slice v.pc nc v.cc) ∧ w3.cell? ⟨b, 2, none⟩ = some (.slice v.pl nl v.cl) ∧ w3.cell? ⟨b, 3, none⟩ = some (.slice v.pt nt v.ct) ∧ w3.cell? ⟨b, 4, none⟩ = some (.int .i64 many) ∧ w3.cell? ⟨b, 5, none⟩ = some (.slice v.pm nm v.cm) ∧ ∀ j, w3.frozen? ⟨b, j, none⟩ = false) ∧ (∃ g c', r = .slice (some ⟨g, 0, none⟩) (nt + 1) c') ∧ Hid (∃ v', RRaw (w3.setCell ⟨b, 3, none⟩ r) b tag many C L (T ++ arr.toList) M nc nl (nt + 1) nm v' ∧ Turn (fpQ b v) (fpQ b v') u (w3.setCell ⟨b, 3, none⟩ r)) ∧ ∀ k, k < u.heap.size → k ∉ fpR v.pt → w3.heap[k]? = u.heap[k]? := by
  unfold lim at hl
  obtain ⟨r, w3, e1, g, c', rfl, h2, ht⟩ := h.t.app Tryd.underlying56 bInfo rfl (by decide) hx ha h1 (by unfold maxLen; omega) (by omega) ty
  have kept : ∀ (k : Nat) (a : Array Value) (S : TypeId), (S == 4) = false → u.heap[k]? = some (.cells a S (0, 0)) → w3.heap[k]? = some (.cells a S (0, 0)) := fun k a S hS e => (ht.block k (lt_of_block e) fun q => by obtain ⟨arr', e2⟩ := h.t.blk q; exact ne_ty e e2 hS rfl).trans e
  have hbox := kept b _ _ (by decide) h.box
  have hgo := ht.own g (by simp)
  have gb : g ≠ b := by
    rintro rfl
    rcases hgo with q | q
    · obtain ⟨arr', e2⟩ := h.t.blk q
      exact ne_ty h.box e2 (by decide) rfl
    · exact absurd (lt_of_block h.box) (Nat.not_lt.2 q)
  have nb : ∀ {S : TypeId} {s2 : Nat} {p2 : Option Addr} {c2 n2 : Nat} {x2 : List Value}, (59 == S) = false → RowW S s2 u p2 c2 n2 x2 → b ∉ fpR p2 := fun hS hr q => by
    obtain ⟨arr', e2⟩ := hr.blk q
    exact ne_ty h.box e2 hS rfl
  have kp : ∀ {S : TypeId} {s2 : Nat} {p2 : Option Addr} {c2 n2 : Nat} {x2 : List Value}, (S == 4) = false → RowW S s2 u p2 c2 n2 x2 → b ∉ fpR p2 → Kept (fpR p2) u (w3.setCell ⟨b, 3, none⟩ (.slice (some ⟨g, 0, none⟩) (nt + 1) c')) := fun hS hr hb => ⟨by simpa using ht.size, fun k hk => by
    obtain ⟨arr', e2⟩ := hr.blk hk
    exact (heap_setCell_other _ _ _ _ (by rintro rfl; exact hb hk)).trans ((kept k _ _ hS e2).trans e2.symm)⟩
  have c : ∀ j, w3.cell? ⟨b, j, none⟩ = (rboxA tag many nc nl nt nm v)[j]? := fun j => cell_of_row w3 b j _ _ _ hbox
  refine ⟨_, w3, e1, ⟨lt_of_block hbox, c 0, c 1, c 2, c 3, c 4, c 5, fun j => frozen_of_row w3 b j _ _ hbox⟩, ⟨g, c', rfl⟩, ⟨{ v with pt := some ⟨g, 0, none⟩, ct := c' }, ⟨(heap_setCell_same w3 b 3 _ _ _ hbox).trans rfl, ?_, ?_, ?_, ?_⟩, ⟨ht.os, ht.tape, ht.output, by simpa using ht.size, fun k hk hn => ?_, fun k hk => ?_⟩⟩, ht.block⟩
  · exact h.c.keep (kp (by decide) h.c (nb (by decide) h.c))
  · exact h.l.keep (kp (by decide) h.l (nb (by decide) h.l))
  · exact h2.keep ⟨by simp, fun k hk => heap_setCell_other _ _ _ _ (by
      obtain rfl : k = g := by simpa [fpR] using hk
      exact gb)⟩
  · exact h.m.keep (kp (by decide) h.m (nb (by decide) h.m))
  · have hn1 : k ≠ b := by rintro rfl; exact hn (mem_fpQ.2 (.inl rfl))
    exact (heap_setCell_other _ _ _ _ hn1).trans (ht.block k hk fun q => hn (mem_fpQ.2 (.inr (.inr (.inr (.inl q))))))
  · rcases mem_fpQ.1 hk with q | q | q | q | q
    · exact .inl (mem_fpQ.2 (.inl q))
    · exact .inl (mem_fpQ.2 (.inr (.inl q)))
    · exact .inl (mem_fpQ.2 (.inr (.inr (.inl q))))
    · obtain rfl : k = g := by simpa [fpR] using q
      exact hgo.imp (fun z => mem_fpQ.2 (.inr (.inr (.inr (.inl z))))) id
    · exact .inl (mem_fpQ.2 (.inr (.inr (.inr (.inr q)))))
set_option maxRecDepth 100000 in
theorem RRaw.app_m (h : RRaw u b tag many C L T M nc nl nt nm v) {gx : Nat} {arr : Array Value} (hx : u.heap[gx]? = some (.cells arr 67 (0, 0))) (ha : arr.size = 2) (h1 : ∀ y ∈ arr.toList, y.oneCell' = true) (hl : nm < lim) (ty : TypeId) :
    ∃ r w3, (Builtin.append_ #[57, 57] ty #[.slice v.pm nm v.cm, .slice (some ⟨gx, 0, none⟩) 1 1]).run Tryd.prog u = .ok r w3 ∧ (b < w3.heap.size ∧ w3.cell? ⟨b, 0, none⟩ = some (.int .i64 tag) ∧ w3.cell? ⟨b, 1, none⟩ = some (.slice v.pc nc v.cc) ∧ w3.cell? ⟨b, 2, none⟩ = some (.slice v.pl nl v.cl) ∧ w3.cell? ⟨b, 3, none⟩ = some (.slice v.pt nt v.ct) ∧ w3.cell? ⟨b, 4, none⟩ = some (.int .i64 many) ∧ w3.cell? ⟨b, 5, none⟩ = some (.slice v.pm nm v.cm) ∧ ∀ j, w3.frozen? ⟨b, j, none⟩ = false) ∧ (∃ g c', r = .slice (some ⟨g, 0, none⟩) (nm + 1) c') ∧ Hid (∃ v', RRaw (w3.setCell ⟨b, 5, none⟩ r) b tag many C L T (M ++ arr.toList) nc nl nt (nm + 1) v' ∧ Turn (fpQ b v) (fpQ b v') u (w3.setCell ⟨b, 5, none⟩ r)) ∧ ∀ k, k < u.heap.size → k ∉ fpR v.pm → w3.heap[k]? = u.heap[k]? := by
  unfold lim at hl
  obtain ⟨r, w3, e1, g, c', rfl, h2, ht⟩ := h.m.app Tryd.underlying57 mInfo rfl (by decide) hx ha h1 (by unfold maxLen; omega) (by omega) ty
  have kept : ∀ (k : Nat) (a : Array Value) (S : TypeId), (S == 67) = false → u.heap[k]? = some (.cells a S (0, 0)) → w3.heap[k]? = some (.cells a S (0, 0)) := fun k a S hS e => (ht.block k (lt_of_block e) fun q => by obtain ⟨arr', e2⟩ := h.m.blk q; exact ne_ty e e2 hS rfl).trans e
  have hbox := kept b _ _ (by decide) h.box
  have hgo := ht.own g (by simp)
  have gb : g ≠ b := by
    rintro rfl
    rcases hgo with q | q
    · obtain ⟨arr', e2⟩ := h.m.blk q
      exact ne_ty h.box e2 (by decide) rfl
    · exact absurd (lt_of_block h.box) (Nat.not_lt.2 q)
  have nb : ∀ {S : TypeId} {s2 : Nat} {p2 : Option Addr} {c2 n2 : Nat} {x2 : List Value}, (59 == S) = false → RowW S s2 u p2 c2 n2 x2 → b ∉ fpR p2 := fun hS hr q => by
    obtain ⟨arr', e2⟩ := hr.blk q
    exact ne_ty h.box e2 hS rfl
  have kp : ∀ {S : TypeId} {s2 : Nat} {p2 : Option Addr} {c2 n2 : Nat} {x2 : List Value}, (S == 67) = false → RowW S s2 u p2 c2 n2 x2 → b ∉ fpR p2 → Kept (fpR p2) u (w3.setCell ⟨b, 5, none⟩ (.slice (some ⟨g, 0, none⟩) (nm + 1) c')) := fun hS hr hb => ⟨by simpa using ht.size, fun k hk => by
    obtain ⟨arr', e2⟩ := hr.blk hk
    exact (heap_setCell_other _ _ _ _ (by rintro rfl; exact hb hk)).trans ((kept k _ _ hS e2).trans e2.symm)⟩
  have c : ∀ j, w3.cell? ⟨b, j, none⟩ = (rboxA tag many nc nl nt nm v)[j]? := fun j => cell_of_row w3 b j _ _ _ hbox
  refine ⟨_, w3, e1, ⟨lt_of_block hbox, c 0, c 1, c 2, c 3, c 4, c 5, fun j => frozen_of_row w3 b j _ _ hbox⟩, ⟨g, c', rfl⟩, ⟨{ v with pm := some ⟨g, 0, none⟩, cm := c' }, ⟨(heap_setCell_same w3 b 5 _ _ _ hbox).trans rfl, ?_, ?_, ?_, ?_⟩, ⟨ht.os, ht.tape, ht.output, by simpa using ht.size, fun k hk hn => ?_, fun k hk => ?_⟩⟩, ht.block⟩
  · exact h.c.keep (kp (by decide) h.c (nb (by decide) h.c))
  · exact h.l.keep (kp (by decide) h.l (nb (by decide) h.l))
  · exact h.t.keep (kp (by decide) h.t (nb (by decide) h.t))
  · exact h2.keep ⟨by simp, fun k hk => heap_setCell_other _ _ _ _ (by
      obtain rfl : k = g := by simpa [fpR] using hk
      exact gb)⟩
  · have hn1 : k ≠ b := by rintro rfl; exact hn (mem_fpQ.2 (.inl rfl))
    exact (heap_setCell_other _ _ _ _ hn1).trans (ht.block k hk fun q => hn (mem_fpQ.2 (.inr (.inr (.inr (.inr q))))))
  · rcases mem_fpQ.1 hk with q | q | q | q | q
    · exact .inl (mem_fpQ.2 (.inl q))
    · exact .inl (mem_fpQ.2 (.inr (.inl q)))
    · exact .inl (mem_fpQ.2 (.inr (.inr (.inl q))))
    · exact .inl (mem_fpQ.2 (.inr (.inr (.inr (.inl q)))))
    · obtain rfl : k = g := by simpa [fpR] using q
      exact hgo.imp (fun z => mem_fpQ.2 (.inr (.inr (.inr (.inr z))))) id
end
/-! the document's builder -/
def labC (l : List (Option Int)) : List Value := l.map fun o => .int .i64 (o.getD 0)
def tooC (l : List (Option Int)) : List Value := l.map fun o => .bool o.isSome
def mkC (r : Mk) : List Value := r.reverse.flatMap fun m => [.int .i64 m.1, .int .i64 (m.2 : Nat)]
def RAt (w : World) (b : Nat) (F : List Nat) (s : Bs) : Prop := ∃ v, RRaw w b s.tag s.many (codC s.code) (labC s.tos) (tooC s.tos) (mkC s.marks) s.code.length s.code.length s.code.length s.marks.length v ∧ F = fpQ b v ∧ Ok s
section
variable {w w' u w3 : World} {b : Nat} {s : Bs} {F : List Nat}
theorem RAt.blw (h : RAt w b F s) : Blw w F := by obtain ⟨v, h, rfl, _⟩ := h; exact h.blw
theorem RAt.keep (h : RAt w b F s) (k : Kept F w w') : RAt w' b F s := by obtain ⟨v, h, rfl, ok⟩ := h; exact ⟨v, h.keep k, rfl, ok⟩
theorem RAt.on (h : RAt w b F s) (k : Below w.heap.size w w') : RAt w' b F s := h.keep (kept_below k h.blw)
theorem RAt.turn {G G' : List Nat} (h : RAt w b F s) (k : Turn G G' w w') (q : Sep F G) : RAt w' b F s := h.keep (k.kept q h.blw)
theorem RAt.ok (h : RAt w b F s) : Ok s := by obtain ⟨v, _, _, ok⟩ := h; exact ok
theorem rnew_at (t : Int) (w : World) : ∃ F, RAt (w.alloc (.cells #[.int .i64 t, .slice none 0 0, .slice none 0 0, .slice none 0 0, .int .i64 0, .slice none 0 0] 59)) w.heap.size F (new t) ∧ Abv w.heap.size F :=
  ⟨_, ⟨⟨none, 0, none, 0, none, 0, none, 0⟩, ⟨heap_alloc_new _ _, rowW_nil _ _ _, rowW_nil _ _ _, rowW_nil _ _ _, rowW_nil _ _ _⟩, rfl, ok_new t⟩, fun k hk => by simp [fpQ, fpR] at hk; omega⟩
set_option maxRecDepth 100000 in
theorem rnew_any (t : Int) (w : World) : Calls Tryd.prog 8 #[.int .i64 t] w fun e w' => ∃ b F, e = .returned (.pointer (some ⟨b, 0, none⟩)) ∧ RAt w' b F (new t) ∧ Abv w.heap.size F ∧ Below w.heap.size w w' := by
  have HN := Lib.hid (rnew_at t w)
  go_enter Tryd.func8, Tryd.ntmps8
  go_wp2
  go_ret
  obtain ⟨F, h1, h2⟩ := HN.out
  exact ⟨_, F, rfl, h1, h2, bl1 _ _⟩
set_option maxRecDepth 100000 in
theorem rlabel_any (h : RAt w b F s) : Calls Tryd.prog 23 #[.pointer (some ⟨b, 0, none⟩)] w fun e w' => ∃ F', e = .returned (.int .i64 s.labV) ∧ RAt w' b F' s.lab ∧ Turn F F' w w' := by
  have H0 := h
  obtain ⟨v, h, rfl, ok⟩ := h
  obtain ⟨hb, _, _, _, _, h4, _, hf⟩ := h.cells
  have hf4 := hf 4
  have hm := ok.many
  unfold Bs.labV
  by_cases h256 : s.many = 256
  · have e1 : s.lab = s := by unfold Bs.lab; rw [if_pos h256]
    rw [if_pos h256, e1]
    rw [h256] at h4
    have HF := Lib.hid H0
    clear h H0 hf hm ok
    go_enter Tryd.func23, Tryd.ntmps23
    go_wp2
    go_ret
    exact ⟨_, rfl, HF.out, Turn.refl _ _⟩
  · rw [if_neg h256]
    have e : s.lab = { s with many := s.many + 1 } := by unfold Bs.lab; rw [if_neg h256]
    have HB : Hid (RAt (w.setCell ⟨b, 4, none⟩ (.int .i64 ((s.many : Int) + 1))) b (fpQ b v) s.lab) := by
      have nb : ∀ {S : TypeId} {s2 : Nat} {p2 : Option Addr} {c2 n2 : Nat} {x2 : List Value}, (59 == S) = false → RowW S s2 w p2 c2 n2 x2 → Kept (fpR p2) w (w.setCell ⟨b, 4, none⟩ (.int .i64 ((s.many : Int) + 1))) := fun hS hr => ⟨by simp, fun k hk => heap_setCell_other _ _ _ _ (by
        rintro rfl
        obtain ⟨arr', e2⟩ := hr.blk hk
        exact ne_ty h.box e2 hS rfl)⟩
      refine ⟨v, ?_, rfl, ok.lab⟩
      rw [e]
      exact ⟨(heap_setCell_same w b 4 _ _ _ h.box).trans (by simp [rboxA]), h.c.keep (nb (by decide) h.c), h.l.keep (nb (by decide) h.l), h.t.keep (nb (by decide) h.t), h.m.keep (nb (by decide) h.m)⟩
    have HT : Hid (Turn (fpQ b v) (fpQ b v) w (w.setCell ⟨b, 4, none⟩ (.int .i64 ((s.many : Int) + 1)))) := Turn.widen (turn_set b 4 _ w) (fun k hk => mem_fpQ.2 (.inl (by simpa using hk))) (fun _ hk => .inl hk)
    have hne : ((s.many : Int) == 256) = false := by simp; omega
    clear e
    generalize s.lab = sl at *
    generalize s.many = m at *
    clear h H0 hf ok
    go_enter Tryd.func23, Tryd.ntmps23
    go_wp2
    go_ret
    exact ⟨_, by simp, HB.out, HT.out⟩
end
end Go.Proofs.YtmoafflimfhaiaaDoor.As
