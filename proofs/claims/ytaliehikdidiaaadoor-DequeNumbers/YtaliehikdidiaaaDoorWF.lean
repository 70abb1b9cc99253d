/- stage 22 (deque): a dial; the row of pieces -/
import Derived.Test.YtaliehikdidiaaaDoorWE
namespace Go.Proofs.YtaliehikdidiaaaDoor.Dq
open Go.ChangeShapes Go.WideShapes Go.ChangeAt Go.RowKit Num Go.Maps As
open Go.ChangeMaps Go.MapKept
attribute [local go_sem] run_store_float frombits_run bits_run

theorem Acc.n0 {W u : World} {L : List (Value × List O)} {t : Value × List O} (h : Acc W u (t :: L)) : Does u t.1 t.2 := h.it _ (List.mem_cons_self ..)
theorem Acc.n1 {W u : World} {L : List (Value × List O)} {s t : Value × List O} (h : Acc W u (s :: t :: L)) : Does u t.1 t.2 := h.it _ (by simp)
theorem Acc.n2 {W u : World} {L : List (Value × List O)} {r s t : Value × List O} (h : Acc W u (r :: s :: t :: L)) : Does u t.1 t.2 := h.it _ (by simp)
theorem dialInfo : (Tryd.prog.info? 35).map (·.size) = some 3 := by kernel_rfl
theorem rowInfo : (Tryd.prog.info? 37).map (·.size) = some 9 := by kernel_rfl
def loadO (c l : Int) : List O := [⟨1, 0, c⟩, ⟨0, 16, 0⟩, ⟨0, 8, l⟩]
abbrev dlA (f g h : Nat × Array Value) : Array Value := #[fv f.1 f.2, fv g.1 g.2, fv h.1 h.2]
theorem dl_one (f g h : Nat × Array Value) : (dlA f g h).all (·.oneCell') = true := by simp [Value.oneCell']
abbrev dlZ : Obj := .cells #[.nilFunc, .nilFunc, .nilFunc] 35
theorem dial_back {fn : Func} {p : Tmp} (h : fn.results = #[.cell p 35]) {Q : Ending → World → Prop} {a : Act} {w : World} (g : Nat) (arr : Array Value) (h3 : arr.size = 3) (hp : a.tmps.getD p undef = .pointer (some ⟨g, 0, none⟩))
    (hg : w.heap[g]? = some (.cells arr 35 (0, 0))) (hd : a.defers = []) (hR : Q (.returned (.agg arr)) w) : bodyPost Tryd.prog fn Q .ret a w :=
  bodyPost_ret (results_cell_row h _ _ g _ _ _ _ hp hg Tryd.underlying35 rfl (by rw [h3]; kernel_rfl)) hd hR
theorem row_back {fn : Func} {p : Tmp} (h : fn.results = #[.cell p 37]) {Q : Ending → World → Prop} {a : Act} {w : World} (g : Nat) (arr : Array Value) (h3 : arr.size = 9) (hp : a.tmps.getD p undef = .pointer (some ⟨g, 0, none⟩))
    (hg : w.heap[g]? = some (.cells arr 37 (0, 0))) (hd : a.defers = []) (hR : Q (.returned (.agg arr)) w) : bodyPost Tryd.prog fn Q .ret a w :=
  bodyPost_ret (results_cell_row h _ _ g _ _ _ _ hp hg Tryd.underlying37 rfl (by rw [h3]; kernel_rfl)) hd hR
/-- the world in which a dial is made -/
def dlW (w : World) (c size l : Int) : World := (((w.alloc (iO c)).alloc (iO size)).alloc (iO l)).alloc dlZ
theorem dl_facts {w u : World} {c size l : Int} (k : Below (dlW w c size l).heap.size (dlW w c size l) u) : ((u.cell? ⟨w.heap.size + 2, 0, none⟩ = some (.int .i64 l) ∧ u.cell? ⟨w.heap.size + 1, 0, none⟩ = some (.int .i64 size) ∧ u.cell? ⟨w.heap.size, 0, none⟩ = some (.int .i64 c)) ∧ w.heap.size + 2 < u.heap.size ∧ w.heap.size + 1 < u.heap.size ∧ w.heap.size < u.heap.size) ∧ u.heap[w.heap.size + 3]? = some dlZ ∧ Below w.heap.size w u := by
  have k0 : Below (((w.alloc (iO c)).alloc (iO size)).alloc (iO l)).heap.size (((w.alloc (iO c)).alloc (iO size)).alloc (iO l)) u := (bl1 _ _).trans (k.mono (by simp [dlW]))
  obtain ⟨⟨a1, a2, a3⟩, a4⟩ := capt3 k0
  have e := heap_alloc_new (((w.alloc (iO c)).alloc (iO size)).alloc (iO l)) dlZ
  rw [World.size_alloc, World.size_alloc, World.size_alloc] at e
  have hb : Below w.heap.size w (((w.alloc (iO c)).alloc (iO size)).alloc (iO l)) := (bl2 _ _ _).trans ((bl1 _ _).mono (by simp; omega))
  exact ⟨⟨⟨a3, a2, a1⟩, a4, by omega, by omega⟩, (k.block _ (lt_of_block e)).trans e, hb.trans (k0.mono hb.size)⟩
set_option maxRecDepth 100000 in
set_option maxHeartbeats 1000000 in
theorem c_dialAt (c size l : Int) (hs : IntKind.i64.wrap (size - 1) = size - 1) (w : World) : Calls Tryd.prog 15 #[.int .i64 c, .int .i64 size, .int .i64 l] w fun e w' => ∃ f g h : Nat × Array Value, e = .returned (.agg (dlA f g h)) ∧ Hid (Does w' (fv f.1 f.2) (loadO c l) ∧ Does w' (fv g.1 g.2) (turnO c size l 1) ∧ Does w' (fv h.1 h.2) (turnO c size l (size - 1)) ∧ Below w.heap.size w w') := by
  have hmf : ∀ (fn : Fn) (first cap : Array Value) (w : World), (Instr.makeFunc fn first cap).run Tryd.prog w = .ok (.func fn first cap) w := fun _ _ _ _ => rfl
  have HX : Hid (∀ u, Below (dlW w c size l).heap.size (dlW w c size l) u → _) := fun u k => (dl_facts k).1
  have HX2 : Hid (∀ u, Below (dlW w c size l).heap.size (dlW w c size l) u → _) := fun u k => (dl_facts k).2
  have A : Hid (Acc (dlW w c size l) (dlW w c size l).drew []) := acc_nil ((Same.drew _).below _)
  have HT : Hid (∀ (u : World) (n : Int), Below (dlW w c size l).heap.size (dlW w c size l) u → Calls Tryd.prog 31 #[.int .i64 n, .pointer (some ⟨w.heap.size + 2, 0, none⟩), .pointer (some ⟨w.heap.size + 1, 0, none⟩), .pointer (some ⟨w.heap.size, 0, none⟩)] u fun e w' => Gv u (turnO c size l n) e w') := fun u n k => c_turn n (fun v q => (dl_facts (k.trans (q.mono k.size))).1)
  have hcall : ∀ (args : Array Value) (u : World), (callFunc 31 args).run Tryd.prog u = .ok (.enter 31 args) u := fun args u => enter_run Tryd.func31 (by kernel_rfl) (by kernel_rfl) args u
  go_enter Tryd.func15, Tryd.ntmps15
  go_upto_region 2 with fail
  refine wp_region_seqE (fun v => (v.cell? ⟨w.heap.size + 2, 0, none⟩ = some (.int .i64 l) ∧ v.cell? ⟨w.heap.size + 1, 0, none⟩ = some (.int .i64 size) ∧ v.cell? ⟨w.heap.size, 0, none⟩ = some (.int .i64 c)) ∧ w.heap.size + 2 < v.heap.size ∧ w.heap.size + 1 < v.heap.size ∧ w.heap.size < v.heap.size) ((0, true) :: (3, true) :: (7, true) :: (9, true) :: (10, true) :: (11, true) :: (1, false) :: (2, false) :: (4, false) :: (5, false) :: (6, false) :: (8, false) :: (12, false) :: (13, true) :: (14, false) :: []) follows (by kernel_rfl) (fun _ _ _ _ _ h => h) (HX.out _ ((Same.drew _).below _)) ?_
  (repeat (refine wpSeqE_take (v := ?_) rfl (by rfl) (fun wq hSq => ?_) ?_; rotate_left; (focus ((try dsimp only at hSq); go_simp; try with_reducible rfl)); simp only [Act.put, List.setIfInBounds_toArray, List.set_cons_zero, List.set_cons_succ]))
  (refine wpSeqE_do rfl (by rfl) (fun KK hK => ?_); go_simp)
  refine (c_push _ _).mono ?_
  rintro e u1 ⟨fn, cp, rfl, h⟩
  replace A := Lib.hid (A.out.more h.out)
  clear h
  refine hK.out _ _ (fun _ => HX.out _ A.out.bl) ?_
  (clear hK KK; try simp only [Act.put, List.setIfInBounds_toArray, List.set_cons_zero, List.set_cons_succ])
  (repeat (refine wpSeqE_take (v := ?_) rfl (by rfl) (fun wq hSq => ?_) ?_; rotate_left; (focus ((try dsimp only at hSq); go_simp; try with_reducible rfl)); simp only [Act.put, List.setIfInBounds_toArray, List.set_cons_zero, List.set_cons_succ]))
  (refine wpSeqE_do rfl (by rfl) (fun KK hK => ?_); go_simp)
  refine (c_read _).mono ?_
  rintro e u1 ⟨fn, cp, rfl, h⟩
  replace A := Lib.hid (A.out.more h.out)
  clear h
  refine hK.out _ _ (fun _ => HX.out _ A.out.bl) ?_
  (clear hK KK; try simp only [Act.put, List.setIfInBounds_toArray, List.set_cons_zero, List.set_cons_succ])
  (repeat (refine wpSeqE_take (v := ?_) rfl (by rfl) (fun wq hSq => ?_) ?_; rotate_left; (focus ((try dsimp only at hSq); go_simp; try with_reducible rfl)); simp only [Act.put, List.setIfInBounds_toArray, List.set_cons_zero, List.set_cons_succ]))
  (refine wpSeqE_do rfl (by rfl) (fun KK hK => ?_); go_simp)
  refine (c_set _ _).mono ?_
  rintro e u1 ⟨fn, cp, rfl, h⟩
  replace A := Lib.hid (A.out.more h.out)
  clear h
  refine hK.out _ _ (fun _ => HX.out _ A.out.bl) ?_
  (clear hK KK; try simp only [Act.put, List.setIfInBounds_toArray, List.set_cons_zero, List.set_cons_succ])
  (repeat (refine wpSeqE_take (v := ?_) rfl (by rfl) (fun wq hSq => ?_) ?_; rotate_left; (focus ((try dsimp only at hSq); go_simp; try with_reducible rfl)); simp only [Act.put, List.setIfInBounds_toArray, List.set_cons_zero, List.set_cons_succ]))
  (refine wpSeqE_do rfl (by rfl) (fun KK hK => ?_); go_simp)
  refine hK.out _ _ (fun _ => HX.out _ (A.out.on (bl1 _ _)).bl) ?_
  (clear hK KK; try simp only [Act.put, List.setIfInBounds_toArray, List.set_cons_zero, List.set_cons_succ])
  (repeat (refine wpSeqE_take (v := ?_) rfl (by rfl) (fun wq hSq => ?_) ?_; rotate_left; (focus ((try dsimp only at hSq); go_simp; try with_reducible rfl)); simp only [Act.put, List.setIfInBounds_toArray, List.set_cons_zero, List.set_cons_succ]))
  (refine wpSeqE_do rfl (by rfl) (fun KK hK => ?_); go_simp)
  refine (join_acc A.out rfl rfl (Nat.le_of_ble_eq_true rfl)).mono ?_
  rintro e u4 ⟨f0, k0, rfl, hZ⟩
  have A2 := Lib.hid (Acc.also (acc_nil hZ.out.2) hZ.out.1)
  clear A hZ
  refine hK.out _ _ (fun _ => HX.out _ A2.out.bl) ?_
  (clear hK KK; try simp only [Act.put, List.setIfInBounds_toArray, List.set_cons_zero, List.set_cons_succ])
  (repeat (refine wpSeqE_take (v := ?_) rfl (by rfl) (fun wq hSq => ?_) ?_; rotate_left; (focus ((try dsimp only at hSq); go_simp; try with_reducible rfl)); simp only [Act.put, List.setIfInBounds_toArray, List.set_cons_zero, List.set_cons_succ]))
  (refine wpSeqE_do rfl (by rfl) (fun KK hK => ?_); go_simp)
  refine (HT.out _ 1 A2.out.bl).mono ?_
  rintro e u5 ⟨f1, k1, rfl, h⟩
  replace A2 := Lib.hid (A2.out.more h.out)
  clear h
  refine hK.out _ _ (fun _ => HX.out _ A2.out.bl) ?_
  (clear hK KK; try simp only [Act.put, List.setIfInBounds_toArray, List.set_cons_zero, List.set_cons_succ])
  (repeat (refine wpSeqE_take (v := ?_) rfl (by rfl) (fun wq hSq => ?_) ?_; rotate_left; (focus ((try dsimp only at hSq); go_simp; try with_reducible rfl)); simp only [Act.put, List.setIfInBounds_toArray, List.set_cons_zero, List.set_cons_succ]))
  (refine wpSeqE_do rfl (by rfl) (fun KK hK => ?_); go_simp)
  refine (HT.out _ (size - 1) A2.out.bl).mono ?_
  rintro e u6 ⟨f2, k2, rfl, h⟩
  replace A2 := Lib.hid (A2.out.more h.out)
  clear h
  refine hK.out _ _ (fun _ => HX.out _ A2.out.bl) ?_
  (clear hK KK; try simp only [Act.put, List.setIfInBounds_toArray, List.set_cons_zero, List.set_cons_succ])
  (repeat (refine wpSeqE_take (v := ?_) rfl (by rfl) (fun wq hSq => ?_) ?_; rotate_left; (focus ((try dsimp only at hSq); go_simp; try with_reducible rfl)); simp only [Act.put, List.setIfInBounds_toArray, List.set_cons_zero, List.set_cons_succ]))
  refine wpSeqE_do rfl (by rfl) (fun KK hK => ?_)
  have hb := (HX2.out _ A2.out.bl).1
  refine wp_store_row 35 _ _ rfl (w.heap.size + 3) (dlA (f0, k0) (f1, k1) (f2, k2)) rfl rfl _ _ hb dialInfo rfl (dl_one _ _ _) ?_
  refine hK.out _ _ (fun hn => absurd rfl hn) ?_
  (clear hK KK; try simp only [Act.put])
  refine wpSeqE_nil ?_
  go_wp2_with fail
  have hag := agree_set (cs := dlA (f0, k0) (f1, k1) (f2, k2)) hb (by decide) (by decide) (by decide)
  have hbl := (HX2.out _ A2.out.bl).2
  refine dial_back rfl (w.heap.size + 3) _ rfl rfl (setRow_heap u6 _ _ _ _ _ hb) rfl ⟨(f0, k0), (f1, k1), (f2, k2), rfl, ?_, ?_, ?_, ?_⟩
  · exact A2.out.n2.ag hag
  · exact A2.out.n1.ag hag
  · exact A2.out.n0.ag hag
  · exact hbl.trans ⟨rfl, rfl, rfl, by simp, fun k hk => setRow_other u6 _ k _ (by omega)⟩
end Go.Proofs.YtaliehikdidiaaaDoor.Dq
