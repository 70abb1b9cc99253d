/- stage 22 (deque): pieces: function values that add to a builder -/
import Derived.Test.YtaliehikdidiaaaDoorWX
import Derived.Test.YtaliehikdidiaaaDoorN14
import Derived.Test.YtaliehikdidiaaaDoorSq
namespace Go.Proofs.YtaliehikdidiaaaDoor.Dq
open Go.ChangeShapes Go.WideShapes Go.ChangeAt Go.RowKit Num Go.Maps As
open Go.ChangeMaps Go.MapKept
attribute [local go_sem] run_store_float frombits_run bits_run

/-- an op: its kind, its code, its number -/
structure O where
  kind : Int
  code : Int
  n : Int
def addB (s : Bs) (o : O) : Bs := if o.kind = 1 then s.add ⟨1, 0, Tr.X o.n⟩ none else if o.kind = 2 then s.add ⟨o.code, 0, 0⟩ (some o.n) else if o.kind = 3 then s.mark o.n else s.add ⟨o.code, o.n, 0⟩ none
def labs : Nat → Bs → Bs
  | 0, s => s
  | k + 1, s => (labs k s).lab
def bsOf (t : Int) (l : List O) : Bs := l.foldl addB (labs 3 (new t))
theorem addB_len (s : Bs) (o : O) : (addB s o).code.length ≤ s.code.length + 1 ∧ (addB s o).marks.length ≤ s.marks.length + 1 := by
  unfold addB
  split
  · exact ⟨by simp [Bs.add], Nat.le_succ _⟩
  · split
    · exact ⟨by simp [Bs.add], Nat.le_succ _⟩
    · split
      · exact ⟨Nat.le_succ _, by simp [Bs.mark]⟩
      · exact ⟨by simp [Bs.add], Nat.le_succ _⟩
theorem foldB_len : ∀ (l : List O) (s : Bs), (l.foldl addB s).code.length ≤ s.code.length + l.length ∧ (l.foldl addB s).marks.length ≤ s.marks.length + l.length
  | [], s => ⟨Nat.le_refl _, Nat.le_refl _⟩
  | o :: l, s => by
    have h1 := foldB_len l (addB s o)
    have h2 := addB_len s o
    simp only [List.foldl_cons, List.length_cons]
    omega
theorem labs_len (k : Nat) (t : Int) : (labs k (new t)).code = [] ∧ (labs k (new t)).marks = [] ∧ (labs k (new t)).tag = t := by
  induction k with
  | zero => exact ⟨rfl, rfl, rfl⟩
  | succ k ih =>
    have e : labs (k + 1) (new t) = (labs k (new t)).lab := rfl
    rw [e]
    unfold Bs.lab
    split <;> exact ih
theorem fold_tag : ∀ (l : List O) (s : Bs), (l.foldl addB s).tag = s.tag
  | [], _ => rfl
  | o :: l, s => by
    refine (fold_tag l (addB s o)).trans ?_
    unfold addB
    split
    · rfl
    · split
      · rfl
      · split <;> rfl
theorem fold_marks : ∀ (l : List O) (s : Bs), (∀ o ∈ l, o.kind = 2 ∨ o.kind = 3 → Wf o.n) → (∀ x, hasM s.marks x = true → Wf x) → ∀ x, hasM (l.foldl addB s).marks x = true → Wf x
  | [], _, _, h => h
  | o :: l, s, hl, h => by
    refine fold_marks l (addB s o) (fun q hq => hl q (List.mem_cons_of_mem _ hq)) ?_
    intro x hx
    unfold addB at hx
    split at hx
    · exact h x hx
    · split at hx
      · exact h x hx
      · split at hx
        · rename_i h3
          rw [show (s.mark o.n).marks = (o.n, s.code.length) :: s.marks from rfl, hasM_cons, Bool.or_eq_true, decide_eq_true_eq] at hx
          rcases hx with hx | hx
          · rw [← hx]; exact hl o (List.mem_cons_self ..) (.inr h3)
          · exact h x hx
        · exact h x hx
/-- the types of what closures capture -/
def Cty (T : TypeId) : Prop := T = 3 ∨ T = 47 ∨ T = 33
/-- all that a closure may have captured is as it was -/
structure Agree (w w' : World) : Prop where
  size : w.heap.size ≤ w'.heap.size
  blk : ∀ (x : Nat) (arr : Array Value) (T : TypeId), w.heap[x]? = some (.cells arr T (0, 0)) → Cty T → w'.heap[x]? = some (.cells arr T (0, 0))
theorem Agree.trans {a b c : World} (h : Agree a b) (k : Agree b c) : Agree a c := ⟨Nat.le_trans h.size k.size, fun x arr T hx hT => k.blk x arr T (h.blk x arr T hx hT) hT⟩
theorem agree_of {w w' : World} (k : Below w.heap.size w w') : Agree w w' := ⟨k.size, fun _ _ _ hx _ => (k.block _ (lt_of_block hx)).trans hx⟩
theorem agree_set {w : World} {g : Nat} {old cs : Array Value} {T : TypeId} {y : Nat × Nat} (hg : w.heap[g]? = some (.cells old T y)) (h1 : (T == 3) = false) (h2 : (T == 47) = false) (h3 : (T == 33) = false) : Agree w (w.setRow g cs) :=
  ⟨by simp, fun x arr S hx hS => (setRow_other w g x cs (fun e => by
    subst e
    rw [hg] at hx
    injection hx with hx
    injection hx with _ h5
    subst h5
    rcases hS with rfl | rfl | rfl <;> simp_all)).trans hx⟩
/-- a function value that adds these ops to each builder that is new -/
def Does (w : World) (v : Value) (l : List O) : Prop := ∃ (fn : Nat) (caps : Array Value), v = .func (.func fn) #[] caps ∧ (∀ (args : Array Value) (u : World), (callFunc fn args).run Tryd.prog u = .ok (.enter fn args) u) ∧ ∀ (B u : World) (b : Nat) (s : Bs), Agree w B → On B u b s → s.code.length + l.length ≤ 4096 → s.marks.length + l.length ≤ 4096 → Calls Tryd.prog fn (#[.pointer (some ⟨b, 0, none⟩)] ++ caps) u fun e w' => e = .returned (.tuple #[]) ∧ Hid (On B w' b (l.foldl addB s))
theorem Does.ag {w w' : World} {v : Value} {l : List O} (h : Does w v l) (k : Agree w w') : Does w' v l := by
  obtain ⟨fn, caps, h1, h2, h3⟩ := h
  exact ⟨fn, caps, h1, h2, fun B u b s q => h3 B u b s (k.trans q)⟩
theorem Does.on {w w' : World} {v : Value} {l : List O} (h : Does w v l) (k : Below w.heap.size w w') : Does w' v l := h.ag (agree_of k)
theorem on_bl {w u : World} {b : Nat} {s : Bs} (h : On w u b s) : Below w.heap.size w u := by obtain ⟨F, _, _, q⟩ := h; exact q
/-- what a maker of pieces answers -/
abbrev fv (fn : Nat) (caps : Array Value) : Value := .func (.func fn) #[] caps
def Gv (W : World) (l : List O) (e : Ending) (w' : World) : Prop := ∃ fn caps, e = .returned (fv fn caps) ∧ Hid (Does w' (fv fn caps) l ∧ Below W.heap.size W w')
theorem bl2 (w : World) (x y : Obj) : Below w.heap.size w ((w.alloc x).alloc y) := (bl1 w x).trans ((bl1 _ y).mono (by simp))
abbrev iO (n : Int) : Obj := .cells #[.int .i64 n] 3
/-- what a closure has captured -/
theorem cap_at {w B u : World} {n : Nat} {x : Int} (e0 : w.heap[n]? = some (iO x)) (h : Agree w B) (k : Below B.heap.size B u) : u.cell? ⟨n, 0, none⟩ = some (.int .i64 x) ∧ n < u.heap.size := by
  have f0 := h.blk _ _ _ e0 (.inl rfl)
  have f1 := (k.block _ (lt_of_block f0)).trans f0
  exact ⟨(cell_of_row u _ 0 _ _ _ f1).trans rfl, lt_of_block f1⟩
theorem cap2 {w B u : World} {x y : Int} (h : Agree ((w.alloc (iO x)).alloc (iO y)) B) (k : Below B.heap.size B u) : (u.cell? ⟨w.heap.size, 0, none⟩ = some (.int .i64 x) ∧ w.heap.size < u.heap.size) ∧ u.cell? ⟨w.heap.size + 1, 0, none⟩ = some (.int .i64 y) ∧ w.heap.size + 1 < u.heap.size := by
  have e0 : ((w.alloc (iO x)).alloc (iO y)).heap[w.heap.size]? = some (iO x) := (heap_alloc_old _ _ (by simp)).trans (heap_alloc_new w _)
  have e1 : ((w.alloc (iO x)).alloc (iO y)).heap[w.heap.size + 1]? = some (iO y) := by have := heap_alloc_new (w.alloc (iO x)) (iO y); rwa [World.size_alloc] at this
  exact ⟨cap_at e0 h k, cap_at e1 h k⟩
theorem cap1 {w B u : World} {x : Int} (h : Agree (w.alloc (iO x)) B) (k : Below B.heap.size B u) : u.cell? ⟨w.heap.size, 0, none⟩ = some (.int .i64 x) ∧ w.heap.size < u.heap.size := cap_at (heap_alloc_new w _) h k
section
variable {w : World}
set_option maxRecDepth 100000 in
theorem c_do (c n : Int) (w : World) : Calls Tryd.prog 21 #[.int .i64 c, .int .i64 n] w fun e w' => Gv w [⟨0, c, n⟩] e w' := by
  have hmf : ∀ (fn : Fn) (first cap : Array Value) (w : World), (Instr.makeFunc fn first cap).run Tryd.prog w = .ok (.func fn first cap) w := fun _ _ _ _ => rfl
  go_enter Tryd.func21, Tryd.ntmps21
  go_wp2
  go_ret
  refine ⟨_, _, rfl, ⟨_, _, rfl, fun args u => enter_run Tryd.func39 (by kernel_rfl) (by kernel_rfl) args u, fun B u b s hB ho h1 h2 => ?_⟩, bl2 _ _ _⟩
  have HC := Lib.hid (ho.add c n (by simp at h1; unfold lim; omega))
  obtain ⟨⟨x0, x1⟩, x2, x3⟩ := cap2 hB (on_bl ho)
  have e1 : List.foldl addB s [⟨0, c, n⟩] = s.add ⟨c, n, 0⟩ none := rfl
  rw [e1]
  clear ho hB h1 h2 hmf e1
  show Calls Tryd.prog 39 #[.pointer (some ⟨b, 0, none⟩), .pointer (some ⟨w.heap.size, 0, none⟩), .pointer (some ⟨w.heap.size + 1, 0, none⟩)] u _
  go_enter Tryd.func39, Tryd.ntmps39
  go_wp2_with (go_at_call 40; refine HC.out.mono ?_; rintro e w2 ⟨rfl, hR⟩; clear HC)
  go_end0
  exact ⟨rfl, hR.out⟩
set_option maxRecDepth 100000 in
theorem c_push (n : Int) (w : World) : Calls Tryd.prog 18 #[.int .i64 n] w fun e w' => Gv w [⟨1, 0, n⟩] e w' := by
  have hmf : ∀ (fn : Fn) (first cap : Array Value) (w : World), (Instr.makeFunc fn first cap).run Tryd.prog w = .ok (.func fn first cap) w := fun _ _ _ _ => rfl
  go_enter Tryd.func18, Tryd.ntmps18
  go_wp2
  go_ret
  refine ⟨_, _, rfl, ⟨_, _, rfl, fun args u => enter_run Tryd.func35 (by kernel_rfl) (by kernel_rfl) args u, fun B u b s hB ho h1 h2 => ?_⟩, bl1 _ _⟩
  have HC := Lib.hid (ho.push (Tr.X n) (by simp at h1; unfold lim; omega))
  obtain ⟨x0, x1⟩ := cap1 hB (on_bl ho)
  have e1 : List.foldl addB s [⟨1, 0, n⟩] = s.add ⟨1, 0, Tr.X n⟩ none := rfl
  rw [e1]
  clear ho hB h1 h2 hmf e1
  show Calls Tryd.prog 35 #[.pointer (some ⟨b, 0, none⟩), .pointer (some ⟨w.heap.size, 0, none⟩)] u _
  go_enter Tryd.func35, Tryd.ntmps35
  go_wp2_with (go_at_call 36; refine HC.out.mono ?_; rintro e w2 ⟨rfl, hR⟩; clear HC)
  go_end0
  exact ⟨rfl, hR.out⟩
set_option maxRecDepth 100000 in
theorem c_to (c n : Int) (hw : Wf n) (w : World) : Calls Tryd.prog 20 #[.int .i64 c, .int .i64 n] w fun e w' => Gv w [⟨2, c, n⟩] e w' := by
  have hmf : ∀ (fn : Fn) (first cap : Array Value) (w : World), (Instr.makeFunc fn first cap).run Tryd.prog w = .ok (.func fn first cap) w := fun _ _ _ _ => rfl
  have HW := Lib.hid hw
  clear hw
  go_enter Tryd.func20, Tryd.ntmps20
  go_wp2
  go_ret
  refine ⟨_, _, rfl, ⟨_, _, rfl, fun args u => enter_run Tryd.func37 (by kernel_rfl) (by kernel_rfl) args u, fun B u b s hB ho h1 h2 => ?_⟩, bl2 _ _ _⟩
  have HC := Lib.hid (ho.to c n HW.out (by simp at h1; unfold lim; omega))
  obtain ⟨⟨x0, x1⟩, x2, x3⟩ := cap2 hB (on_bl ho)
  have e1 : List.foldl addB s [⟨2, c, n⟩] = s.add ⟨c, 0, 0⟩ (some n) := rfl
  rw [e1]
  clear ho hB h1 h2 hmf e1
  show Calls Tryd.prog 37 #[.pointer (some ⟨b, 0, none⟩), .pointer (some ⟨w.heap.size, 0, none⟩), .pointer (some ⟨w.heap.size + 1, 0, none⟩)] u _
  go_enter Tryd.func37, Tryd.ntmps37
  go_wp2_with (go_at_call 38; refine HC.out.mono ?_; rintro e w2 ⟨rfl, hR⟩; clear HC)
  go_end0
  exact ⟨rfl, hR.out⟩
set_option maxRecDepth 100000 in
theorem c_mark (n : Int) (hw : Wf n) (w : World) : Calls Tryd.prog 22 #[.int .i64 n] w fun e w' => Gv w [⟨3, 0, n⟩] e w' := by
  have hmf : ∀ (fn : Fn) (first cap : Array Value) (w : World), (Instr.makeFunc fn first cap).run Tryd.prog w = .ok (.func fn first cap) w := fun _ _ _ _ => rfl
  have HW := Lib.hid hw
  clear hw
  go_enter Tryd.func22, Tryd.ntmps22
  go_wp2
  go_ret
  refine ⟨_, _, rfl, ⟨_, _, rfl, fun args u => enter_run Tryd.func41 (by kernel_rfl) (by kernel_rfl) args u, fun B u b s hB ho h1 h2 => ?_⟩, bl1 _ _⟩
  have HC := Lib.hid (ho.mark HW.out (by simp at h2; unfold maxLen; omega))
  obtain ⟨x0, x1⟩ := cap1 hB (on_bl ho)
  have e1 : List.foldl addB s [⟨3, 0, n⟩] = s.mark n := rfl
  rw [e1]
  clear ho hB h1 h2 hmf e1
  show Calls Tryd.prog 41 #[.pointer (some ⟨b, 0, none⟩), .pointer (some ⟨w.heap.size, 0, none⟩)] u _
  go_enter Tryd.func41, Tryd.ntmps41
  go_wp2_with (go_at_call 42; refine HC.out.mono ?_; rintro e w2 ⟨rfl, hR⟩; clear HC)
  go_end0
  exact ⟨rfl, hR.out⟩
end
/-- pieces that were made since W, the latest first -/
structure Acc (W u : World) (L : List (Value × List O)) : Prop where
  bl : Below W.heap.size W u
  it : ∀ t ∈ L, Does u t.1 t.2
theorem acc_nil {W u : World} (h : Below W.heap.size W u) : Acc W u [] := ⟨h, fun t ht => by cases ht⟩
theorem Acc.on {W u u' : World} {L : List (Value × List O)} (h : Acc W u L) (k : Below u.heap.size u u') : Acc W u' L := ⟨h.bl.trans (k.mono h.bl.size), fun t ht => (h.it t ht).on k⟩
theorem Acc.more {W u u' : World} {L : List (Value × List O)} {v : Value} {l : List O} (h : Acc W u L) (k : Does u' v l ∧ Below u.heap.size u u') : Acc W u' ((v, l) :: L) :=
  ⟨(h.on k.2).bl, fun t ht => by rcases List.mem_cons.1 ht with rfl | ht; exact k.1; exact (h.on k.2).it t ht⟩
theorem Acc.also {W u : World} {L : List (Value × List O)} {v : Value} {l : List O} (h : Acc W u L) (k : Does u v l) : Acc W u ((v, l) :: L) :=
  ⟨h.bl, fun t ht => by rcases List.mem_cons.1 ht with rfl | ht; exact k; exact h.it t ht⟩
/-- laid side by side -/
structure Pcs (w : World) (g : Nat) (L : List (Value × List O)) : Prop where
  blk : w.heap[g]? = some (.cells (L.map (·.1)).toArray 33 (0, 0))
  at_ : ∀ i, i < L.length → Does w (L.getD i (.int .i64 0, [])).1 (L.getD i (.int .i64 0, [])).2
theorem Pcs.ag {w w' : World} {g : Nat} {L : List (Value × List O)} (h : Pcs w g L) (k : Agree w w') : Pcs w' g L := ⟨k.blk _ _ _ h.blk (.inr (.inr rfl)), fun i hi => (h.at_ i hi).ag k⟩
theorem Pcs.cell {w : World} {g : Nat} {L : List (Value × List O)} (h : Pcs w g L) {i : Nat} (hi : i < L.length) : w.cell? ⟨g, i, none⟩ = some (L.getD i (.int .i64 0, [])).1 := by
  rw [cell_of_row _ _ i _ _ _ h.blk, List.getElem?_toArray, List.getElem?_map, List.getElem?_eq_getElem hi, List.getD_eq_getElem?_getD, List.getElem?_eq_getElem hi]
  rfl
theorem Acc.parts {W u : World} {L : List (Value × List O)} (h : Acc W u L) {vs : Array Value} (hv : (L.reverse.map (·.1)).toArray = vs) : Pcs (u.alloc (.cells vs 33)) u.heap.size L.reverse := by
  subst hv
  refine ⟨heap_alloc_new _ _, fun i hi => ?_⟩
  have e : L.reverse.getD i (.int .i64 0, []) = L.reverse[i] := by rw [List.getD_eq_getElem?_getD, List.getElem?_eq_getElem hi]; rfl
  have hm : L.reverse[i] ∈ L := List.mem_reverse.1 (List.getElem_mem hi)
  rw [e]
  exact (h.it _ hm).on (bl1 u _)
def catL (L : List (Value × List O)) : List O := (L.map (·.2)).flatten
theorem catL_take {L : List (Value × List O)} {i : Nat} (h : i < L.length) : catL (L.take (i + 1)) = catL (L.take i) ++ (L.getD i (.int .i64 0, [])).2 := by
  unfold catL
  rw [List.take_succ_eq_append_getElem h, List.map_append, List.flatten_append]
  simp [List.getD_eq_getElem?_getD, h]
theorem catL_le (L : List (Value × List O)) (i : Nat) : (catL (L.take i)).length ≤ (catL L).length := by
  have : catL L = catL (L.take i) ++ catL (L.drop i) := by unfold catL; rw [← List.flatten_append, ← List.map_append, List.take_append_drop]
  rw [this, List.length_append]
  omega
set_option maxRecDepth 100000 in
theorem join_raw (g k cc : Nat) (w : World) : Calls Tryd.prog 16 #[.slice (some ⟨g, 0, none⟩) k cc] w fun e w' => e = .returned (fv 34 #[.pointer (some ⟨w.heap.size, 0, none⟩)]) ∧ w' = w.alloc (.cells #[.slice (some ⟨g, 0, none⟩) k cc] 47) := by
  have hmf : ∀ (fn : Fn) (first cap : Array Value) (w : World), (Instr.makeFunc fn first cap).run Tryd.prog w = .ok (.func fn first cap) w := fun _ _ _ _ => rfl
  go_enter Tryd.func16, Tryd.ntmps16
  go_wp2
  go_ret
  exact ⟨rfl, rfl⟩
theorem join_enter (args : Array Value) (u : World) : (callFunc 34 args).run Tryd.prog u = .ok (.enter 34 args) u := enter_run Tryd.func34 (by kernel_rfl) (by kernel_rfl) args u
set_option maxRecDepth 100000 in
set_option maxHeartbeats 1000000 in
theorem join_call {w B u : World} {x g k cc b : Nat} {s : Bs} {L : List (Value × List O)} (x0 : u.cell? ⟨x, 0, none⟩ = some (.slice (some ⟨g, 0, none⟩) k cc)) (h : Pcs w g L) (hk : L.length = k) (hk2 : k ≤ 4096) (hB : Agree w B) (ho : On B u b s) (h1 : s.code.length + (catL L).length ≤ 4096) (h2 : s.marks.length + (catL L).length ≤ 4096) : Calls Tryd.prog 34 #[.pointer (some ⟨b, 0, none⟩), .pointer (some ⟨x, 0, none⟩)] u fun e w' => e = .returned (.tuple #[]) ∧ Hid (On B w' b ((catL L).foldl addB s)) := by
  have HK := Lib.hid hk
  have HP : Hid (∀ u', Below B.heap.size B u' → Pcs u' g L) := fun u' q => h.ag (hB.trans (agree_of q))
  have HD : Hid (∀ i, i < k → ∀ (u' : World) (s' : Bs), On B u' b s' → s'.code.length + (L.getD i (.int .i64 0, [])).2.length ≤ 4096 → s'.marks.length + (L.getD i (.int .i64 0, [])).2.length ≤ 4096 → ∃ (fn : Nat) (caps : Array Value), (L.getD i (.int .i64 0, [])).1 = .func (.func fn) #[] caps ∧ (∀ (args : Array Value) (u : World), (callFunc fn args).run Tryd.prog u = .ok (.enter fn args) u) ∧ Calls Tryd.prog fn (#[.pointer (some ⟨b, 0, none⟩)] ++ caps) u' fun e w' => e = .returned (.tuple #[]) ∧ Hid (On B w' b ((L.getD i (.int .i64 0, [])).2.foldl addB s'))) := fun i hi u' s' ho' q1 q2 => by
    obtain ⟨fn, caps, d1, d2, d3⟩ := h.at_ i (by rw [hk]; exact hi)
    exact ⟨fn, caps, d1, d2, d3 B u' b s' hB ho' q1 q2⟩
  have HO := Lib.hid ho
  have HL1 : Hid (s.code.length + (catL L).length ≤ 4096 ∧ s.marks.length + (catL L).length ≤ 4096) := ⟨h1, h2⟩
  have hkI : (k : Int) ≤ 4096 := by omega
  clear ho hB h1 h2 h hk
  go_enter Tryd.func34, Tryd.ntmps34
  go_wp2_with fail
  go_loopw [7] (fun v wr => ∃ i : Nat, v = .int .i64 i ∧ i ≤ k ∧ Hid (On B wr b ((catL (L.take i)).foldl addB s))) (fun v _ => k - (intOf v).toNat)
  case atStart => exact ⟨0, rfl, Nat.zero_le _, HO.out⟩
  case round =>
    obtain ⟨i, rfl, hi, HI⟩ := hrel
    by_cases hlt : i < k
    · have hltI : (i : Int) < (k : Int) := by omega
      have hil : i < L.length := by rw [HK.out]; exact hlt
      have hbnd := foldB_len (catL (L.take i)) s
      have hcat := catL_take hil
      have hle := catL_le L (i + 1)
      rw [hcat, List.length_append] at hle
      obtain ⟨l1, l2⟩ := HL1.out
      obtain ⟨fn, caps, d1, d2, d3⟩ := HD.out i hlt wr _ HI.out (by omega) (by omega)
      have p0 := (HP.out wr (on_bl HI.out)).cell hil
      have p1 := lt_of_block (HP.out wr (on_bl HI.out)).blk
      rw [d1] at p0
      rw [← List.foldl_append, ← hcat] at d3
      have HC := Lib.hid d3
      clear hbnd hcat hle l1 l2 d1 d3 HI HL1 HD HP HO hil
      go_wp2_with (refine HC.out.mono ?_; rintro e w2 ⟨rfl, hR⟩; clear HC)
      exact ⟨⟨i + 1, by first | rfl | (congr 1), by omega, hR.out⟩, by simp [intOf]; omega⟩
    · obtain rfl : k = i := by omega
      have hltI : ¬ (k : Int) < (k : Int) := by omega
      have ho := HI.out
      rw [← HK.out, List.take_length] at ho
      have HO2 := Lib.hid ho
      clear ho HI HL1 HD HP HO
      go_wp2_with fail
      go_end0
      exact ⟨rfl, HO2.out⟩
theorem join_any {w : World} {g k cc : Nat} {L : List (Value × List O)} (h : Pcs w g L) (hk : L.length = k) (hk2 : k ≤ 4096) : Calls Tryd.prog 16 #[.slice (some ⟨g, 0, none⟩) k cc] w fun e w' => Gv w (catL L) e w' := by
  refine (join_raw g k cc w).mono ?_
  rintro e w' ⟨rfl, rfl⟩
  refine ⟨_, _, rfl, ⟨_, _, rfl, join_enter, fun B u b s hB ho h1 h2 => ?_⟩, bl1 _ _⟩
  have eb := hB.blk _ _ _ (heap_alloc_new w (.cells #[.slice (some ⟨g, 0, none⟩) k cc] 47)) (.inr (.inl rfl))
  have e0 := ((on_bl ho).block _ (lt_of_block eb)).trans eb
  exact join_call ((cell_of_row u _ 0 _ _ _ e0).trans rfl) (h.ag (agree_of (bl1 _ _))) hk hk2 hB ho h1 h2
end Go.Proofs.YtaliehikdidiaaaDoor.Dq
