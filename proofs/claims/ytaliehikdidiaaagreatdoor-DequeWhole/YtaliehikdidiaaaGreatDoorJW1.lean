import Derived.Test.YtaliehikdidiaaaGreatDoorQX
import Derived.Test.YtaliehikdidiaaaGreatDoorC1
import Derived.Test.YtaliehikdidiaaaGreatDoorY1
import Derived.Test.YtaliehikdidiaaaGreatDoorC5
import Derived.Maps.RangeWalk
import Derived.Deep.AppendSrc
import Derived.Test.YtaliehikdidiaaaGreatDoorSq
import Derived.StillTailTactics
import Derived.Deep.RegionLaw
import Derived.Deep.RegionHeld
import Derived.Deep.CutBlock
import Derived.Deep.DeepCutAuto
import Derived.Laws.ResultCell
import Derived.Test.YtaliehikdidiaaaGreatDoorNum2
import Derived.Test.YtaliehikdidiaaaGreatDoorK3
import Derived.Test.YtaliehikdidiaaaGreatDoorC6
import Derived.Test.YtaliehikdidiaaaGreatDoorKJ
import Derived.Test.YtaliehikdidiaaaGreatDoorWalkB
namespace Go.Proofs.YtaliehikdidiaaaGreatDoor.Dq
open Num Tr
def loadC (c : Int) (l : Nat) : List Ins := [P c, I 16 0, I 8 l]
def loadS (B : Int) : List Ins := loadC (B + 1) 1 ++ loadC B 0
def turnS (c size : Int) (l : Nat) (by_ : Int) : List Ins := [I 7 l, P by_, I 10 1, P size, I 10 5, I 8 l, I 7 l, P c, I 17 0]
def roomS (R : Int) : List Ins := [I 7 1, P R, I 10 8, I 12 11, I 19 1]
def cellS (B R : Int) : List Ins := [I 7 0, I 10 1, P R, I 10 5, P (B + 2), I 10 1]
def putI (B R : Int) (at_ : Ins) : List Ins := [I 6 0, at_] ++ (cellS B R ++ [I 17 0])
def tellI (B R : Int) (at_ : Ins) : List Ins := [at_] ++ (cellS B R ++ [I 16 0, I 18 0])
def manyS : List Ins := [I 7 1, I 18 0, I 20 0]
def pfC (B R : Int) : List Ins := loadS B ++ (roomS R ++ (turnS B R 0 (R - 1) ++ (putI B R (P 0) ++ (turnS (B + 1) (R + 1) 1 1 ++ manyS))))
def pbC (B R : Int) : List Ins := loadS B ++ (roomS R ++ (putI B R (I 7 1) ++ (turnS (B + 1) (R + 1) 1 1 ++ manyS)))
def ofC (B R : Int) : List Ins := loadS B ++ ([I 7 1, I 13 35] ++ (tellI B R (P 0) ++ (turnS B R 0 1 ++ (turnS (B + 1) (R + 1) 1 R ++ [I 20 0]))))
def obC (B R : Int) : List Ins := loadS B ++ ([I 7 1, I 13 26] ++ (turnS (B + 1) (R + 1) 1 R ++ (tellI B R (I 7 1) ++ [I 20 0])))
def atC (B R : Int) : List Ins := loadS B ++ ([I 6 0, I 7 1, I 10 8, I 13 24] ++ ([I 6 0, P R, I 10 5, I 9 6, I 12 24] ++ (tellI B R (I 6 0) ++ [I 20 0])))
def lenC (B : Int) : List Ins := loadC (B + 1) 1 ++ manyS
def allC (B R : Int) : List Ins := loadS B ++ ([I 7 2, I 7 1, I 10 8, I 13 24] ++ (tellI B R (I 7 2) ++ ([I 7 2, P 1, I 10 1, I 8 2, I 11 6] ++ [I 20 0])))
def codeOf (B R : Int) : Nat → List Ins
  | 0 => pfC B R
  | 1 => pbC B R
  | 2 => ofC B R
  | 3 => obC B R
  | 4 => atC B R
  | 5 => lenC B
  | _ => allC B R
end Go.Proofs.YtaliehikdidiaaaGreatDoor.Dq
namespace Go.Proofs.YtaliehikdidiaaaGreatDoor.As
open Go.ChangeShapes Go.WideShapes Go.ChangeAt Go.RowKit Num
abbrev Mk := List (Int × Nat)
def look : Mk → Int → Option Nat
  | [], _ => none
  | m :: r, l => if m.1 = l then some m.2 else look r l
def hasM (r : Mk) (l : Int) : Bool := (look r l).isSome
def plN (r : Mk) (l : Int) : Nat := (look r l).getD 0
def twB : Mk → Bool
  | [] => false
  | m :: r => hasM r m.1 || twB r
def inB (many : Nat) (l : Int) : Bool := decide (0 ≤ l) && decide (l < many)
def okM (many : Nat) : Mk → Bool
  | [] => true
  | m :: r => inB many m.1 && !hasM r m.1 && okM many r
theorem look_cons (m : Int × Nat) (r : Mk) (l : Int) : look (m :: r) l = if m.1 = l then some m.2 else look r l := rfl
theorem hasM_cons (m : Int × Nat) (r : Mk) (l : Int) : hasM (m :: r) l = (decide (m.1 = l) || hasM r l) := by
  unfold hasM
  rw [look_cons]
  by_cases h : m.1 = l <;> simp [h]
theorem plN_cons (m : Int × Nat) (r : Mk) (l : Int) : plN (m :: r) l = if m.1 = l then m.2 else plN r l := by
  unfold plN
  rw [look_cons]
  by_cases h : m.1 = l <;> simp [h]
theorem okM_iff (many : Nat) (r : Mk) : okM many r = true ↔ (∀ l, hasM r l = true → inB many l = true) ∧ twB r = false := by
  induction r with
  | nil => simp [okM, hasM, look, twB]
  | cons m r ih =>
    have e : okM many (m :: r) = (inB many m.1 && !hasM r m.1 && okM many r) := rfl
    have e2 : twB (m :: r) = (hasM r m.1 || twB r) := rfl
    rw [e, e2, Bool.and_eq_true, Bool.and_eq_true, ih, Bool.not_eq_true', Bool.or_eq_false_iff]
    constructor
    · rintro ⟨⟨h1, h2⟩, h3, h4⟩
      refine ⟨fun l hl => ?_, h2, h4⟩
      rw [hasM_cons, Bool.or_eq_true, decide_eq_true_eq] at hl
      rcases hl with rfl | hl
      · exact h1
      · exact h3 l hl
    · rintro ⟨h1, h2, h4⟩
      exact ⟨⟨h1 _ (by rw [hasM_cons]; simp), h2⟩, fun l hl => h1 l (by rw [hasM_cons, hl]; simp), h4⟩
structure Bs where
  tag : Int
  code : List Ins
  tos : List (Option Int)
  lat : List (Int × Nat)
  many : Nat
  marks : Mk
def new (t : Int) : Bs := ⟨t, [], [], [], 0, []⟩
def Bs.add (s : Bs) (i : Ins) (o : Option Int) : Bs := { s with code := s.code ++ [i], tos := s.tos ++ [o], lat := match o with | some l => s.lat ++ [(l, s.code.length)] | none => s.lat }
def Bs.lab (s : Bs) : Bs := if s.many = 256 then s else { s with many := s.many + 1 }
def Bs.labV (s : Bs) : Int := if s.many = 256 then -1 else s.many
def Bs.mark (s : Bs) (l : Int) : Bs := { s with marks := (l, s.code.length) :: s.marks }
def Wf (x : Int) : Prop := (Lit.int .i64 x).wf = true
structure Ok (s : Bs) : Prop where
  len : s.tos.length = s.code.length
  tq : ∀ k, k < s.code.length → ∀ l, s.tos.getD k none = some l → (l, k) ∈ s.lat
  of : ∀ t, t ∈ s.lat → t.2 < s.code.length ∧ s.tos.getD t.2 none = some t.1 ∧ Wf t.1
  many : s.many ≤ 256
  pl : ∀ m ∈ s.marks, m.2 ≤ s.code.length
  size : s.lat.length ≤ s.code.length
theorem ok_new (t : Int) : Ok (new t) := ⟨rfl, fun k hk => absurd hk (Nat.not_lt_zero _), fun t ht => by simp [new] at ht, Nat.zero_le _, fun m hm => by simp [new] at hm, Nat.le_refl _⟩
theorem getD_app {α : Type} (l : List α) (x d : α) (k : Nat) : (l ++ [x]).getD k d = if k < l.length then l.getD k d else if k = l.length then x else d := by
  rw [List.getD_eq_getElem?_getD, List.getD_eq_getElem?_getD]
  by_cases h : k < l.length
  · rw [if_pos h, List.getElem?_append_left h]
  · rw [if_neg h, List.getElem?_append_right (by omega)]
    by_cases h2 : k = l.length
    · rw [if_pos h2, h2, Nat.sub_self]; rfl
    · rw [if_neg h2, List.getElem?_eq_none (by simp; omega)]; rfl
theorem Ok.add {s : Bs} (h : Ok s) (i : Ins) (o : Option Int) (hw : ∀ l, o = some l → Wf l) : Ok (s.add i o) := by
  have hl := h.len
  have e : (s.add i o).code.length = s.code.length + 1 := by simp [Bs.add]
  refine ⟨by simp [Bs.add, hl], fun k hk l hkl => ?_, fun t ht => ?_, h.many, fun m hm => by rw [e]; exact Nat.le_succ_of_le (h.pl m hm), ?_⟩
  · rw [e] at hk
    have e2 : (s.add i o).tos.getD k none = if k < s.code.length then s.tos.getD k none else if k = s.code.length then o else none := by rw [← hl]; exact getD_app _ _ _ _
    rw [e2] at hkl
    by_cases h1 : k < s.code.length
    · rw [if_pos h1] at hkl
      have := h.tq k h1 l hkl
      cases o <;> simp [Bs.add, this]
    · have h2 : k = s.code.length := by omega
      rw [if_neg h1, if_pos h2] at hkl
      subst hkl
      simp [Bs.add, h2]
  · have key : ∀ t ∈ s.lat, t.2 < (s.add i o).code.length ∧ (s.add i o).tos.getD t.2 none = some t.1 ∧ Wf t.1 := fun t ht => by
      obtain ⟨a, b, c⟩ := h.of t ht
      refine ⟨by omega, ?_, c⟩
      show (s.tos ++ [o]).getD t.2 none = _
      rw [getD_app, if_pos (by omega)]
      exact b
    cases o with
    | none => exact key t ht
    | some l =>
      rcases List.mem_append.1 ht with q | q
      · exact key t q
      · rw [List.mem_singleton] at q
        subst q
        refine ⟨by rw [e]; exact Nat.lt_succ_self _, ?_, hw l rfl⟩
        show (s.tos ++ [some l]).getD s.code.length none = some l
        rw [getD_app, if_neg (by omega), if_pos hl.symm]
  · rw [e]
    have := h.size
    cases o <;> simp [Bs.add] <;> omega
theorem Ok.lab {s : Bs} (h : Ok s) : Ok s.lab := by
  unfold Bs.lab
  split
  · exact h
  · exact ⟨h.len, h.tq, h.of, by have := h.many; show s.many + 1 ≤ 256; omega, h.pl, h.size⟩
theorem Ok.mark {s : Bs} (h : Ok s) (l : Int) : Ok (s.mark l) := ⟨h.len, h.tq, h.of, h.many, fun m hm => by
  rcases List.mem_cons.1 hm with rfl | q
  · exact Nat.le_refl _
  · exact h.pl m q, h.size⟩
def Bs.fin (s : Bs) (k : Nat) : Ins := match s.tos.getD k none with | some l => { ci s.code k with n := (plN s.marks l : Nat) } | none => ci s.code k
def Bs.filled (s : Bs) : List Ins := (List.range s.code.length).map s.fin
def Bs.toOk (s : Bs) (k : Nat) : Bool := match s.tos.getD k none with | some l => hasM s.marks l | none => true
def Bs.ok (s : Bs) : Bool := okM s.many s.marks && (List.range s.code.length).all s.toOk
def Bs.ans (s : Bs) : Int := if s.ok then checkE s.tag s.filled else 190
theorem filled_len (s : Bs) : s.filled.length = s.code.length := by simp [Bs.filled]
theorem filled_at {s : Bs} {k : Nat} (h : k < s.code.length) : ci s.filled k = s.fin k := by
  unfold ci Bs.filled
  rw [List.getD_eq_getElem?_getD, List.getElem?_map, List.getElem?_range h]
  rfl
theorem fin_to {s : Bs} {k : Nat} {l : Int} (h : s.tos.getD k none = some l) : s.fin k = { ci s.code k with n := (plN s.marks l : Nat) } := by unfold Bs.fin; rw [h]
theorem fin_no {s : Bs} {k : Nat} (h : s.tos.getD k none = none) : s.fin k = ci s.code k := by unfold Bs.fin; rw [h]
theorem toOk_to {s : Bs} {k : Nat} {l : Int} (h : s.tos.getD k none = some l) : s.toOk k = hasM s.marks l := by unfold Bs.toOk; rw [h]
theorem toOk_no {s : Bs} {k : Nat} (h : s.tos.getD k none = none) : s.toOk k = true := by unfold Bs.toOk; rw [h]
theorem ok_lat {s : Bs} (h : Ok s) : (∀ k, k < s.code.length → s.toOk k = true) ↔ ∀ t ∈ s.lat, hasM s.marks t.1 = true := by
  constructor
  · intro hk t ht
    obtain ⟨a, b, _⟩ := h.of t ht
    rw [← toOk_to b]
    exact hk _ a
  · intro hk k hl
    cases hq : s.tos.getD k none with
    | none => exact toOk_no hq
    | some l => rw [toOk_to hq]; exact hk _ (h.tq k hl l hq)
def fixI (i : Ins) : Ins := { i with x := fixB i.x }
theorem fixB0 : fixB 0 = 0 := by decide
theorem ci_fix (c : List Ins) (k : Nat) : ci (c.map fixI) k = fixI (ci c k) := by
  unfold ci
  rw [List.getD_eq_getElem?_getD, List.getD_eq_getElem?_getD, List.getElem?_map]
  cases c[k]? with
  | none => show (⟨0, 0, 0⟩ : Ins) = fixI ⟨0, 0, 0⟩; unfold fixI; rw [show ((⟨0, 0, 0⟩ : Ins)).x = 0 from rfl, fixB0]
  | some i => rfl
theorem mayB_fix (i : Ins) (n : Nat) : mayB (fixI i) n = mayB i n := by
  unfold mayB fixI
  simp only [fixB_fixB]
theorem checkB_fix (t : Int) (c : List Ins) : checkB t (c.map fixI) = checkB t c := by
  unfold checkB
  simp only [List.length_map, ci_fix, mayB_fix]
theorem checkE_fix (t : Int) (c : List Ins) : checkE t (c.map fixI) = checkE t c := by unfold checkE; rw [checkB_fix]
theorem checkE_ways (t : Int) (c : List Ins) : checkE t c = 0 ∨ checkE t c = 50 := by
  unfold checkE
  split
  · exact .inl rfl
  · exact .inr rfl
end Go.Proofs.YtaliehikdidiaaaGreatDoor.As
namespace Go.Proofs.YtaliehikdidiaaaGreatDoor.As
open Go.ChangeShapes Go.WideShapes Go.ChangeAt Go.RowKit Num Go.Maps
open Go.ChangeMaps Go.MapKept
section
variable {P : Program} {w : World}
theorem wp_append_ex {o : Oper} {a : Act} {K : Act → World → Prop} {Q : Exit → Act → World → Prop} (s x : Operand) (t tx : TypeId)
    (ho : o.op = .call { callee := .builtin .append, args := #[s, x], argTypes := #[t, tx] }) (vs vx : Value) (hs : a.eval s = vs) (hx : a.eval x = vx) {R : Value → World → Prop}
    (hr : ∃ v w', (Builtin.append_ #[t, tx] o.type #[vs, vx]).run P w = .ok v w' ∧ R v w') (h : ∀ v w', R v w' → K (a.put o.dst v) w') : o.wp P a w K Q := by
  obtain ⟨v, w', hr, hR⟩ := hr
  unfold Oper.wp execOp
  simp only [ho, resolve, invoke, builtin, Sem.run_bind, Sem.run_pure, Result.andThen_ok, List.map_toArray, List.map_cons, List.map_nil, hs, hx, hr]
  exact h v w' hR
theorem wpList_append_ex {ops : Array Oper} {rest : List Oper} {o : Oper} {a : Act} {Q : Exit → Act → World → Prop} (hgd : o.guard = none) (s x : Operand) (t tx : TypeId)
    (ho : o.op = .call { callee := .builtin .append, args := #[s, x], argTypes := #[t, tx] }) (vs vx : Value) (hs : a.eval s = vs) (hx : a.eval x = vx) {R : Value → World → Prop}
    (hr : ∃ v w', (Builtin.append_ #[t, tx] o.type #[vs, vx]).run P w = .ok v w' ∧ R v w') (h : ∀ v w', R v w' → wpList P ops Q rest (a.put o.dst v) w') : wpList P ops Q (o :: rest) a w :=
  wpList_plain hgd fun _ hK => wp_append_ex s x t tx ho vs vx hs hx hr fun v w' hR => hK _ _ (h v w' hR)
end
structure RowW (E : TypeId) (sz : Nat) (w : World) (p : Option Addr) (c n : Nat) (xs : List Value) : Prop where
  own : w.ownsRow 0 E sz (.slice p n c) n xs
section
variable {E : TypeId} {sz : Nat} {w w' : World} {p : Option Addr} {c n : Nat} {xs : List Value}
theorem RowW.len (h : RowW E sz w p c n xs) : xs.length = n * sz := h.own.1
theorem RowW.blk (h : RowW E sz w p c n xs) {k : Nat} (hk : k ∈ fpR p) : ∃ arr, w.heap[k]? = some (.cells arr E (0, 0)) := by
  rcases h.own.2 with ⟨q, _⟩ | ⟨g, cap, cur, hv, hb, hg, rest⟩
  · cases q; simp [fpR] at hk
  · cases hv
    obtain rfl : k = g := by simpa [fpR] using hk
    exact ⟨_, hg⟩
theorem RowW.blw (h : RowW E sz w p c n xs) : Blw w (fpR p) := fun k hk => by obtain ⟨arr, e⟩ := h.blk hk; exact lt_of_block e
theorem RowW.keep (h : RowW E sz w p c n xs) (k : Kept (fpR p) w w') : RowW E sz w' p c n xs := by
  refine ⟨h.own.1, ?_⟩
  rcases h.own.2 with q | ⟨g, cap, cur, hv, hb, hg, rest⟩
  · exact .inl q
  · refine .inr ⟨g, cap, cur, hv, hb, ?_, rest⟩
    rw [k.2 g (own_fpR.2 (by rw [hv]; rfl))]
    exact hg
theorem rowW_nil (E : TypeId) (sz : Nat) (w : World) : RowW E sz w none 0 0 [] := ⟨World.ownsRow_nil _ _ _ _⟩
theorem RowW.at (h : RowW E sz w p c n xs) (h0 : 0 < n) : ∃ g, p = some ⟨g, 0, none⟩ ∧ g < w.heap.size ∧ n ≤ c ∧ c ≤ maxLen ∧ (∀ j, j < n * sz → w.cell? ⟨g, j, none⟩ = xs[j]?) ∧ ∀ j, w.frozen? ⟨g, j, none⟩ = false := by
  rcases h.own.2 with ⟨_, q⟩ | ⟨g, cap, cur, hv, _, hg, hc, hm, hs, ht⟩
  · omega
  · cases hv
    refine ⟨g, rfl, lt_of_block hg, hc, hm, fun j hj => ?_, fun j => frozen_of_row w g j _ _ hg⟩
    rw [cell_of_row w g j _ _ _ hg]
    have h1 : cur.toList[j]? = (cur.toList.take (n * sz))[j]? := by rw [List.getElem?_take, if_pos hj]
    rw [ht] at h1
    simpa using h1
theorem RowW.app (h : RowW E sz w p c n xs) {t : TypeId} {z : Value} {bytes : Nat} (ht : Tryz.prog.underlying t = some (.slice E)) (hI : (Tryz.prog.info? E).map (fun i => (i.zero, i.size, i.bytes)) = some (some z, sz, bytes)) (hzs : z.cells.size = sz) (hsz : 0 < sz)
    {gx : Nat} {arr : Array Value} (hx : w.heap[gx]? = some (.cells arr E (0, 0))) (ha : arr.size = sz) (h1 : ∀ u ∈ arr.toList, u.oneCell' = true) (h63 : n + 1 ≤ maxLen) (hb : (n + 1) * bytes ≤ 140737488355328) (ty : TypeId) :
    ∃ v w', (Builtin.append_ #[t, t] ty #[.slice p n c, .slice (some ⟨gx, 0, none⟩) 1 1]).run Tryz.prog w = .ok v w' ∧ ∃ g c', v = .slice (some ⟨g, 0, none⟩) (n + 1) c' ∧ RowW E sz w' (some ⟨g, 0, none⟩) c' (n + 1) (xs ++ arr.toList) ∧ Turn (fpR p) [g] w w' := by
  obtain ⟨i, hi, hz0, hz1, hz2⟩ := info_parts hI
  obtain ⟨v, w', h1, h2, h3, h4, h5⟩ := run_append_own_at (P := Tryz.prog) (w := w) 0 t ty E i z sz bytes ht hi hz0 hz1 hz2 hzs hsz (.slice p n c) n xs h.own ⟨gx, 0, none⟩ 1 1 arr.toList (by rw [Array.length_toList, ha, Nat.one_mul]) (fun j u hu => by
    rw [Go.WideShapes.add_plain, cell_of_row _ _ _ _ _ _ hx, Nat.zero_add]
    simpa using hu) h1 h63 hb (Nat.zero_le _)
  rcases h2.2 with ⟨_, q⟩ | ⟨g, cap, cur, hv, hrest⟩
  · omega
  · refine ⟨v, w', h1, g, cap, hv, ⟨by rw [hv] at h2; exact h2⟩, ⟨h3.os, h3.tape, h3.output, h3.size, fun k hk hn => h3.block k hk fun q => hn (own_fpR.2 q.symm), fun k hk => ?_⟩⟩
    obtain rfl : k = g := by simpa using hk
    rcases h5 with q | q
    · exact .inl (own_fpR.2 (by rw [← q, hv]; rfl))
    · right
      rw [hv] at q
      have := Option.some.inj q
      show w.heap.size ≤ k
      exact Nat.le_of_eq this.symm
end
theorem Turn.widen {F F' A A' : List Nat} {w w' : World} (h : Turn F F' w w') (hF : ∀ k, k ∈ F → k ∈ A) (hA : ∀ k, k ∈ A' → k ∈ A ∨ w.heap.size ≤ k) : Turn A A' w w' :=
  ⟨h.os, h.tape, h.output, h.size, fun k hk hn => h.block k hk fun q => hn (hF k q), hA⟩
theorem turn_alloc (F : List Nat) (w : World) (o : Obj) : Turn F F w (w.alloc o) := ⟨rfl, rfl, rfl, by simp, fun _ hk _ => Below.heap_alloc _ _ _ hk, fun _ h => .inl h⟩
theorem turn_set (b i : Nat) (v : Value) (w : World) : Turn [b] [b] w (w.setCell ⟨b, i, none⟩ v) := ⟨rfl, rfl, rfl, by simp, fun k _ hn => heap_setCell_other _ _ _ _ (by simpa using hn), fun _ h => .inl h⟩
theorem below_turn {F : List Nat} {w w' : World} (h : Below w.heap.size w w') : Turn F F w w' := ⟨h.os, h.tape, h.output, h.size, fun k hk _ => h.block k hk, fun _ q => .inl q⟩
theorem grown_turn {w w' : World} {b : Nat} (h : w.grownBy w' (some b)) : Turn [b] [b] w w' := ⟨h.os, h.tape, h.output, h.size, fun k hk hn => h.block k hk (by simpa using hn), fun _ q => .inl q⟩
theorem ne_ty {w : World} {a b : Nat} {c d : Array Value} {S T : TypeId} {x y : Nat × Nat} (h : w.heap[a]? = some (.cells c S x)) (k : w.heap[b]? = some (.cells d T y)) (hne : (S == T) = false) : a ≠ b := by
  rintro rfl
  rw [h] at k
  cases k
  simp at hne
theorem ne_map {w : World} {a b : Nat} {c : Array Value} {S : TypeId} {x : Nat × Nat} {es : Array MapEntry} {k : Nat} (h : w.heap[a]? = some (.cells c S x)) (m : w.heap[b]? = some (.map es k)) : a ≠ b := by
  rintro rfl
  rw [h] at m
  cases m
theorem keyI : Keyed Tryz.prog 3 := int_keyed Tryz.underlying3
theorem zeroI (w : World) : (zeroValue 3).run Tryz.prog w = .ok (.int .i64 0) w := by kernel_rfl
def iEl : Value → Option (DataW Unit × List MemPlace)
  | .int .i64 x => some (.lit (.int .i64 x), [])
  | _ => none
theorem iEl_is {v : Value} {y : DataW Unit × List MemPlace} (h : iEl v = some y) : ∃ x, v = .int .i64 x ∧ y = (.lit (.int .i64 x), []) := by
  unfold iEl at h
  split at h
  · exact ⟨_, rfl, (Option.some.inj h).symm⟩
  · cases h
theorem iElem_inv {v : Value} {x : Int} {ps : List MemPlace} (h : iEl v = some (.lit (.int .i64 x), ps)) : v = .int .i64 x := by
  obtain ⟨z, rfl, e⟩ := iEl_is h
  injection e with e _
  injection e with e
  injection e with _ e
  rw [e]
def MapI (w : World) (b : Nat) (r : Mk) : Prop :=
  ∃ n, ∃ D : DataW Unit, w.ownsMap Tryz.prog 3 iEl b n D ∧ n ≤ r.length ∧ ∀ c, Wf c → Maps.has D (.int .i64 c) = hasM r c ∧ D.atKey (.int .i64 c) (.lit (.int .i64 0)) = .lit (.int .i64 (plN r c))
section
variable {w w' : World} {b : Nat} {r : Mk}
theorem MapI.lt (h : MapI w b r) : b < w.heap.size := by obtain ⟨n, D, h1, _⟩ := h; exact h1.lt
theorem MapI.keep (h : MapI w b r) (k : w'.heap[b]? = w.heap[b]?) : MapI w' b r := by
  obtain ⟨n, D, ⟨es, clock, hb, x⟩, h2⟩ := h
  exact ⟨n, D, ⟨es, clock, k.trans hb, x⟩, h2⟩
theorem MapI.is (h : MapI w b r) : ∃ es clock, w.heap[b]? = some (.map es clock) := by
  obtain ⟨n, D, ⟨es, clock, hb, x⟩, h2⟩ := h
  exact ⟨es, clock, hb⟩
theorem mapI_new (w : World) : MapI (w.alloc (.map #[] 0)) w.heap.size [] :=
  ⟨0, .map [], World.ownsMap_made w _ _ _, Nat.le_refl _, fun _ _ => ⟨rfl, rfl⟩⟩
theorem MapI.look (h : MapI w b r) {c : Int} (hc : Wf c) : (Instr.lookup 178 (.map (some b)) (.int .i64 c) true).run Tryz.prog w = .ok (.tuple #[.int .i64 (plN r c), .bool (hasM r c)]) w := by
  obtain ⟨n, D, h1, _, h3⟩ := h
  obtain ⟨v, ps, hrun, hv⟩ := h1.look_ok keyI Tryz.underlying178 (zeroI w) (zd := .lit (.int .i64 0)) (zp := []) rfl (keyOf_int_mk Tryz.underlying3 hc)
  rw [(h3 c hc).2] at hv
  rw [hrun, iElem_inv hv, (h3 c hc).1]
theorem lit_ne {c d : Int} (h : c ≠ d) : (Lit.int .i64 d) ≠ (Lit.int .i64 c) := fun e => h (by injection e with _ e2; exact e2.symm)
theorem MapI.lay (h : MapI w b r) {c : Int} (hc : Wf c) (y : Nat) (hn : r.length < maxLen) : ∃ w', (Instr.mapUpdate 178 (.map (some b)) (.int .i64 c) (.int .i64 y)).run Tryz.prog w = .ok () w' ∧ MapI w' b ((c, y) :: r) ∧ Turn [b] [b] w w' := by
  obtain ⟨n, D, h1, h2, h3⟩ := h
  have hk := keyOf_int_mk Tryz.underlying3 hc
  obtain ⟨w', hrun, ho, hg⟩ := h1.update keyI Tryz.underlying178 (by omega) hk (val := .int .i64 y) (d := .lit (.int .i64 y)) (ps := []) rfl
  refine ⟨w', hrun, ⟨_, _, ho, by simp; omega, fun d hd => ?_⟩, grown_turn hg⟩
  rw [hasM_cons, plN_cons]
  by_cases e : c = d
  · subst e
    rw [has_put_same h1.isMap (keyI.key hk), atKey_put_same h1.isMap (keyI.key hk)]
    simp
  · rw [has_put_other (lit_ne e), atKey_put_other (lit_ne e)]
    simp [e, h3 d hd]
end
def insC (i : Ins) : List Value := [.int .i64 i.op, .int .i64 i.n, .float .f64 i.x]
def codC (c : List Ins) : List Value := c.flatMap insC
theorem codC_len (c : List Ins) : (codC c).length = c.length * 3 := by
  unfold codC
  induction c with
  | nil => rfl
  | cons i c ih => rw [List.flatMap_cons, List.length_append, ih]; simp [insC]; omega
theorem codC_one (c : List Ins) : ∀ u ∈ codC c, u.oneCell' = true := fun u hu => by
  obtain ⟨x, _, hx⟩ := List.mem_flatMap.1 hu
  simp [insC] at hx
  rcases hx with rfl | rfl | rfl <;> rfl
theorem codC_snoc (c : List Ins) (i : Ins) : codC (c ++ [i]) = codC c ++ (#[.int .i64 i.op, .int .i64 i.n, .float .f64 i.x] : Array Value).toList := by simp [codC, insC]
theorem codC_at (c : List Ins) : ∀ k, k < c.length → (codC c)[k * 3]? = some (.int .i64 (ci c k).op) ∧ (codC c)[k * 3 + 1]? = some (.int .i64 (ci c k).n) ∧ (codC c)[k * 3 + 2]? = some (.float .f64 (ci c k).x) := by
  induction c with
  | nil => intro k h; exact absurd h (Nat.not_lt_zero k)
  | cons i c ih =>
    intro k h
    have e0 : codC (i :: c) = insC i ++ codC c := rfl
    cases k with
    | zero => simp [e0, insC, ci]
    | succ k =>
      have q := ih k (by simpa using h)
      have el : (insC i).length = 3 := rfl
      have ec : ci (i :: c) (k + 1) = ci c k := by simp [ci]
      have g : ∀ j, (codC (i :: c))[(k + 1) * 3 + j]? = (codC c)[k * 3 + j]? := fun j => by
        rw [e0, show (k + 1) * 3 + j = (insC i).length + (k * 3 + j) by rw [el]; omega, List.getElem?_append_right (Nat.le_add_right _ _), Nat.add_sub_cancel_left]
      rw [ec]
      exact ⟨(g 0).trans q.1, (g 1).trans q.2.1, (g 2).trans q.2.2⟩
theorem RowW.code {w : World} {p : Option Addr} {c : Nat} {l : List Ins} {n : Nat} (hn : l.length = n) (h : RowW 90 3 w p c n (codC l)) : CodeAt w p l := fun k hk => by
  subst hn
  obtain ⟨g, e, hg, _, _, hc, _⟩ := h.at (by omega)
  obtain ⟨c0, c1, c2⟩ := codC_at l k hk
  refine ⟨g, 0, e, hg, ?_, ?_, ?_⟩
  · rw [Nat.zero_add, hc _ (by omega)]; exact c0
  · rw [Nat.zero_add, hc _ (by omega)]; exact c1
  · rw [Nat.zero_add, hc _ (by omega)]; exact c2
structure Bv where
  pi : Option Addr
  ci : Nat
  bm : Nat
  pL : Option Addr
  cL : Nat
  R : List Nat
def fpB (b : Nat) (v : Bv) : List Nat := b :: v.bm :: (fpR v.pi ++ (fpR v.pL ++ v.R))
def Caps (w : World) (R : List Nat) : Prop := ∀ k, k ∈ R → ∃ arr T, w.heap[k]? = some (.cells arr T (0, 0)) ∧ (T = 3 ∨ T = 149)
def cloV (x y z : Nat) : Value := .func (.func 135) #[] #[.pointer (some ⟨x, 0, none⟩), .pointer (some ⟨y, 0, none⟩), .pointer (some ⟨z, 0, none⟩)]
def CloAt (w : World) (b : Nat) (R : List Nat) (t : Int × Nat) (u : Value) : Prop := ∃ x y z, u = cloV x y z ∧ x ∈ R ∧ y ∈ R ∧ z ∈ R ∧ w.heap[x]? = some (.cells #[.pointer (some ⟨b, 0, none⟩)] 149 (0, 0)) ∧ w.heap[y]? = some (.cells #[.int .i64 t.1] 3 (0, 0)) ∧ w.heap[z]? = some (.cells #[.int .i64 t.2] 3 (0, 0))
def boxA (s : Bs) (v : Bv) : Array Value := #[.int .i64 s.tag, .slice v.pi s.code.length v.ci, .int .i64 s.many, .map (some v.bm), .bool (twB s.marks), .slice v.pL s.lat.length v.cL]
structure BAt (w : World) (b : Nat) (s : Bs) (v : Bv) : Prop where
  box : w.heap[b]? = some (.cells (boxA s v) 181 (0, 0))
  ins : RowW 90 3 w v.pi v.ci s.code.length (codC (s.code.map fixI))
  map : MapI w v.bm s.marks
  lat : ∃ vs, RowW 187 1 w v.pL v.cL s.lat.length vs ∧ ∀ j, j < s.lat.length → ∃ u, vs[j]? = some u ∧ CloAt w b v.R (s.lat.getD j (0, 0)) u
  caps : Caps w v.R
  ok : Ok s
def Bld (w : World) (b : Nat) (F : List Nat) (s : Bs) : Prop := ∃ v, BAt w b s v ∧ F = fpB b v
section
variable {w w' : World} {b : Nat} {s : Bs} {v : Bv} {F : List Nat}
theorem mem_fpB {k : Nat} : k ∈ fpB b v ↔ k = b ∨ k = v.bm ∨ k ∈ fpR v.pi ∨ k ∈ fpR v.pL ∨ k ∈ v.R := by simp [fpB]
theorem Caps.keep {R : List Nat} (h : Caps w R) (k : Kept R w w') : Caps w' R := fun i hi => by
  obtain ⟨arr, T, e, q⟩ := h i hi
  exact ⟨arr, T, (k.2 i hi).trans e, q⟩
theorem CloAt.keep {R : List Nat} {t : Int × Nat} {u : Value} (h : CloAt w b R t u) (k : Kept R w w') : CloAt w' b R t u := by
  obtain ⟨x, y, z, e, h1, h2, h3, h4, h5, h6⟩ := h
  exact ⟨x, y, z, e, h1, h2, h3, (k.2 _ h1).trans h4, (k.2 _ h2).trans h5, (k.2 _ h3).trans h6⟩
theorem BAt.blw (h : BAt w b s v) : Blw w (fpB b v) := fun k hk => by
  rcases mem_fpB.1 hk with rfl | rfl | q | q | q
  · exact lt_of_block h.box
  · exact h.map.lt
  · exact h.ins.blw k q
  · obtain ⟨vs, h1, _⟩ := h.lat; exact h1.blw k q
  · obtain ⟨arr, T, e, _⟩ := h.caps k q; exact lt_of_block e
theorem kept_sub {F G : List Nat} (k : Kept F w w') (h : ∀ i, i ∈ G → i ∈ F) : Kept G w w' := ⟨k.1, fun i hi => k.2 i (h i hi)⟩
theorem BAt.keep (h : BAt w b s v) (k : Kept (fpB b v) w w') : BAt w' b s v := by
  have kR : Kept v.R w w' := kept_sub k fun i hi => mem_fpB.2 (.inr (.inr (.inr (.inr hi))))
  refine ⟨(k.2 b (mem_fpB.2 (.inl rfl))).trans h.box, h.ins.keep (kept_sub k fun i hi => mem_fpB.2 (.inr (.inr (.inl hi)))), h.map.keep (k.2 _ (mem_fpB.2 (.inr (.inl rfl)))), ?_, h.caps.keep kR, h.ok⟩
  obtain ⟨vs, h1, h2⟩ := h.lat
  refine ⟨vs, h1.keep (kept_sub k fun i hi => mem_fpB.2 (.inr (.inr (.inr (.inl hi))))), fun j hj => ?_⟩
  obtain ⟨u, e, q⟩ := h2 j hj
  exact ⟨u, e, q.keep kR⟩
theorem BAt.cells (h : BAt w b s v) : b < w.heap.size ∧ w.cell? ⟨b, 0, none⟩ = some (.int .i64 s.tag) ∧ w.cell? ⟨b, 1, none⟩ = some (.slice v.pi s.code.length v.ci) ∧ w.cell? ⟨b, 2, none⟩ = some (.int .i64 s.many) ∧ w.cell? ⟨b, 3, none⟩ = some (.map (some v.bm)) ∧ w.cell? ⟨b, 4, none⟩ = some (.bool (twB s.marks)) ∧ w.cell? ⟨b, 5, none⟩ = some (.slice v.pL s.lat.length v.cL) ∧ ∀ j, w.frozen? ⟨b, j, none⟩ = false := by
  have c : ∀ j, w.cell? ⟨b, j, none⟩ = (boxA s v)[j]? := fun j => cell_of_row w b j _ _ _ h.box
  exact ⟨lt_of_block h.box, c 0, c 1, c 2, c 3, c 4, c 5, fun j => frozen_of_row w b j _ _ h.box⟩
theorem Bld.blw (h : Bld w b F s) : Blw w F := by obtain ⟨v, h, rfl⟩ := h; exact h.blw
theorem Bld.keep (h : Bld w b F s) (k : Kept F w w') : Bld w' b F s := by obtain ⟨v, h, rfl⟩ := h; exact ⟨v, h.keep k, rfl⟩
theorem Bld.on (h : Bld w b F s) (k : Below w.heap.size w w') : Bld w' b F s := h.keep (kept_below k h.blw)
theorem Bld.turn {G G' : List Nat} (h : Bld w b F s) (k : Turn G G' w w') (q : Sep F G) : Bld w' b F s := h.keep (k.kept q h.blw)
theorem Bld.ok (h : Bld w b F s) : Ok s := by obtain ⟨v, h, _⟩ := h; exact h.ok
theorem BAt.apart (h : BAt w b s v) : b ≠ v.bm ∧ b ∉ fpR v.pi ∧ b ∉ fpR v.pL ∧ b ∉ v.R ∧ v.bm ∉ fpR v.pi ∧ v.bm ∉ fpR v.pL ∧ v.bm ∉ v.R ∧ Sep (fpR v.pi) (fpR v.pL) ∧ Sep (fpR v.pi) v.R ∧ Sep (fpR v.pL) v.R := by
  obtain ⟨es, ck, hm⟩ := h.map.is
  obtain ⟨vs, hl, _⟩ := h.lat
  have cT : ∀ k ∈ v.R, ∃ arr T, w.heap[k]? = some (.cells arr T (0, 0)) ∧ (181 == T) = false ∧ (90 == T) = false ∧ (187 == T) = false := fun k hk => by
    obtain ⟨arr, T, e, q⟩ := h.caps k hk
    refine ⟨arr, T, e, ?_⟩
    rcases q with rfl | rfl <;> exact ⟨by decide, by decide, by decide⟩
  refine ⟨ne_map h.box hm, fun q => ?_, fun q => ?_, fun q => ?_, fun q => ?_, fun q => ?_, fun q => ?_, fun k a q => ?_, fun k a q => ?_, fun k a q => ?_⟩
  · obtain ⟨arr, e⟩ := h.ins.blk q; exact ne_ty h.box e (by decide) rfl
  · obtain ⟨arr, e⟩ := hl.blk q; exact ne_ty h.box e (by decide) rfl
  · obtain ⟨arr, T, e, x, _⟩ := cT _ q; exact ne_ty h.box e x rfl
  · obtain ⟨arr, e⟩ := h.ins.blk q; exact ne_map e hm rfl
  · obtain ⟨arr, e⟩ := hl.blk q; exact ne_map e hm rfl
  · obtain ⟨arr, T, e, _⟩ := cT _ q; exact ne_map e hm rfl
  · obtain ⟨arr, e⟩ := h.ins.blk a; obtain ⟨arr2, e2⟩ := hl.blk q; exact ne_ty e e2 (by decide) rfl
  · obtain ⟨arr, e⟩ := h.ins.blk a; obtain ⟨arr2, T, e2, _, x, _⟩ := cT _ q; exact ne_ty e e2 x rfl
  · obtain ⟨arr, e⟩ := hl.blk a; obtain ⟨arr2, T, e2, _, _, x⟩ := cT _ q; exact ne_ty e e2 x rfl
end
end Go.Proofs.YtaliehikdidiaaaGreatDoor.As
namespace Go.Proofs.YtaliehikdidiaaaGreatDoor.As
open Go.ChangeShapes Go.WideShapes Go.ChangeAt Go.RowKit Num Go.Maps
attribute [local go_sem] run_store_float frombits_run bits_run
theorem follows : Tryz.prog.follows .mixedOrders = true := by kernel_rfl
theorem insInfo : (Tryz.prog.info? 90).map (fun i => (i.zero, i.size, i.bytes)) = some (some (.agg #[.int .i64 0, .int .i64 0, .float .f64 0]), 3, 24) := by kernel_rfl
theorem filInfo : (Tryz.prog.info? 187).map (fun i => (i.zero, i.size, i.bytes)) = some (some .nilFunc, 1, 8) := by kernel_rfl
theorem bl1 (w : World) (o : Obj) : Below w.heap.size w (w.alloc o) := (Below.refl _ _).alloc (Nat.le_refl _) o
def lim : Nat := 4398046511000
section
variable {w w' u w3 : World} {b : Nat} {s : Bs} {v : Bv} {F : List Nat}
theorem new_at (t : Int) (w : World) : ∃ F, Bld ((w.alloc (.map #[] 0)).alloc (.cells #[.int .i64 t, .slice none 0 0, .int .i64 0, .map (some w.heap.size), .bool false, .slice none 0 0] 181)) (w.heap.size + 1) F (new t) ∧ Abv w.heap.size F ∧ Below w.heap.size w ((w.alloc (.map #[] 0)).alloc (.cells #[.int .i64 t, .slice none 0 0, .int .i64 0, .map (some w.heap.size), .bool false, .slice none 0 0] 181)) := by
  have e1 : (w.alloc (.map #[] 0)).heap.size = w.heap.size + 1 := by simp
  refine ⟨_, ⟨⟨none, 0, w.heap.size, none, 0, []⟩, ⟨?_, rowW_nil _ _ _, ?_, ⟨[], rowW_nil _ _ _, fun j hj => absurd hj (Nat.not_lt_zero _)⟩, fun k hk => absurd hk (by simp), ok_new t⟩, rfl⟩, fun k hk => ?_, ((Below.refl _ _).alloc (Nat.le_refl _) _).alloc (by simp) _⟩
  · have := heap_alloc_new (w.alloc (.map #[] 0)) (.cells #[.int .i64 t, .slice none 0 0, .int .i64 0, .map (some w.heap.size), .bool false, .slice none 0 0] 181)
    rw [e1] at this
    exact this
  · exact (mapI_new w).keep (Below.heap_alloc _ _ _ (by simp))
  · simp [fpB, fpR] at hk
    omega
set_option maxRecDepth 100000 in
theorem new_any (t : Int) (w : World) : Calls Tryz.prog 115 #[.int .i64 t] w fun e w' => ∃ b F, e = .returned (.pointer (some ⟨b, 0, none⟩)) ∧ Bld w' b F (new t) ∧ Abv w.heap.size F ∧ Below w.heap.size w w' := by
  have hmm := @run_makeMap Tryz.prog
  have HN := Lib.hid (new_at t w)
  go_enter Tryz.func115, Tryz.ntmps115
  go_wp2
  go_ret
  obtain ⟨F, h⟩ := HN.out
  exact ⟨_, F, by simp, h⟩
theorem len_any (h : Bld w b F s) : Calls Tryz.prog 134 #[.pointer (some ⟨b, 0, none⟩)] w fun e w' => e = .returned (.int .i64 s.code.length) ∧ w' = w := by
  obtain ⟨v, h, rfl⟩ := h
  obtain ⟨hb, _, h1, _⟩ := h.cells
  generalize s.code.length = n at *
  clear h
  go_enter Tryz.func134, Tryz.ntmps134
  go_wp2
  go_ret
  exact ⟨rfl, rfl⟩
theorem BAt.put (h : BAt u b s v) {i : Ins} {g c' : Nat} (hr : RowW 90 3 w3 (some ⟨g, 0, none⟩) c' (s.code.length + 1) (codC (s.code.map fixI) ++ (#[.int .i64 i.op, .int .i64 i.n, .float .f64 (fixB i.x)] : Array Value).toList)) (ht : Turn (fpR v.pi) [g] u w3) :
    BAt (w3.setCell ⟨b, 1, none⟩ (.slice (some ⟨g, 0, none⟩) (s.code.length + 1) c')) b (s.add i none) { v with pi := some ⟨g, 0, none⟩, ci := c' } ∧ Turn (fpB b v) (fpB b { v with pi := some ⟨g, 0, none⟩, ci := c' }) u (w3.setCell ⟨b, 1, none⟩ (.slice (some ⟨g, 0, none⟩) (s.code.length + 1) c')) := by
  obtain ⟨a1, a2, a3, a4, a5, a6, a7, a8, a9, a10⟩ := h.apart
  have hblw := h.blw
  have old : ∀ k, k ∈ fpB b v → k ∉ fpR v.pi → w3.heap[k]? = u.heap[k]? := fun k hk hn => ht.block k (hblw k hk) hn
  have mb : b ∈ fpB b v := mem_fpB.2 (.inl rfl)
  have mm : v.bm ∈ fpB b v := mem_fpB.2 (.inr (.inl rfl))
  have mL : ∀ k ∈ fpR v.pL, k ∈ fpB b v := fun k hk => mem_fpB.2 (.inr (.inr (.inr (.inl hk))))
  have mR : ∀ k ∈ v.R, k ∈ fpB b v := fun k hk => mem_fpB.2 (.inr (.inr (.inr (.inr hk))))
  have hbox := (old b mb a2).trans h.box
  have hg := ht.own g (by simp)
  have gb : g ≠ b := by
    rintro rfl
    exact hg.elim a2 fun q => absurd (hblw _ mb) (Nat.not_lt.2 q)
  have kp : ∀ G, (∀ k ∈ G, k ∈ fpB b v) → b ∉ G → Sep G (fpR v.pi) → Kept G u (w3.setCell ⟨b, 1, none⟩ (.slice (some ⟨g, 0, none⟩) (s.code.length + 1) c')) := fun G hG hb hs => ⟨by simpa using ht.size, fun k hk => (heap_setCell_other _ _ _ _ (by rintro rfl; exact hb hk)).trans (old k (hG k hk) (hs k hk))⟩
  have e : (s.add i none).code.length = s.code.length + 1 := by simp [Bs.add]
  have eC : codC ((s.add i none).code.map fixI) = codC (s.code.map fixI) ++ (#[.int .i64 i.op, .int .i64 i.n, .float .f64 (fixB i.x)] : Array Value).toList := by
    show codC ((s.code ++ [i]).map fixI) = _
    rw [List.map_append, List.map_cons, List.map_nil, codC_snoc]
    rfl
  have kR := kp v.R mR a4 a9.symm
  refine ⟨⟨?_, ?_, h.map.keep ((heap_setCell_other _ _ _ _ (Ne.symm a1)).trans (old _ mm a5)), ?_, h.caps.keep kR, h.ok.add i none (by simp)⟩, ⟨ht.os, ht.tape, ht.output, by simpa using ht.size, fun k hk hn => ?_, fun k hk => ?_⟩⟩
  · refine (heap_setCell_same w3 b 1 _ _ _ hbox).trans ?_
    simp [boxA, Bs.add]
  · rw [e, eC]
    exact hr.keep ⟨by simp, fun k hk => heap_setCell_other _ _ _ _ (by
      obtain rfl : k = g := by simpa [fpR] using hk
      exact gb)⟩
  · obtain ⟨vs, l1, l2⟩ := h.lat
    exact ⟨vs, l1.keep (kp _ mL a3 a8.symm), fun j hj => by obtain ⟨y, e1, e2⟩ := l2 j hj; exact ⟨y, e1, e2.keep kR⟩⟩
  · have hn1 : k ≠ b := by rintro rfl; exact hn mb
    exact (heap_setCell_other _ _ _ _ hn1).trans (ht.block k hk fun q => hn (mem_fpB.2 (.inr (.inr (.inl q)))))
  · rcases mem_fpB.1 hk with q | q | q | q | q
    · exact .inl (q ▸ mb)
    · exact .inl (q ▸ mm)
    · obtain rfl : k = g := by simpa [fpR] using q
      exact hg.imp (fun z => mem_fpB.2 (.inr (.inr (.inl z)))) id
    · exact .inl (mL k q)
    · exact .inl (mR k q)
theorem BAt.app (h : BAt u b s v) (i : Ins) {gx : Nat} (hx : u.heap[gx]? = some (.cells #[.int .i64 i.op, .int .i64 i.n, .float .f64 (fixB i.x)] 90 (0, 0))) (hl : s.code.length < lim) (ty : TypeId) :
    ∃ r w3, (Builtin.append_ #[24, 24] ty #[.slice v.pi s.code.length v.ci, .slice (some ⟨gx, 0, none⟩) 1 1]).run Tryz.prog u = .ok r w3 ∧ b < w3.heap.size ∧ w3.frozen? ⟨b, 1, none⟩ = false ∧ w3.cell? ⟨b, 1, none⟩ = some (.slice v.pi s.code.length v.ci) ∧ (∃ g c', r = .slice (some ⟨g, 0, none⟩) (s.code.length + 1) c') ∧ Hid (∃ F', Bld (w3.setCell ⟨b, 1, none⟩ r) b F' (s.add i none) ∧ Turn (fpB b v) F' u (w3.setCell ⟨b, 1, none⟩ r)) := by
  unfold lim at hl
  obtain ⟨r, w3, h1, g, c', rfl, h2, h3⟩ := h.ins.app Tryz.underlying24 insInfo rfl (by decide) hx rfl (fun y hy => by simp at hy; rcases hy with rfl | rfl | rfl <;> rfl) (by unfold maxLen; omega) (by omega) ty
  obtain ⟨q1, q2⟩ := h.put h2 h3
  obtain ⟨a1, a2, _⟩ := h.apart
  have hbox := (h3.block b (lt_of_block h.box) a2).trans h.box
  exact ⟨_, w3, h1, lt_of_block hbox, frozen_of_row _ _ _ _ _ hbox, (cell_of_row _ _ _ _ _ _ hbox).trans rfl, ⟨g, c', rfl⟩, _, ⟨_, q1, rfl⟩, q2⟩
set_option maxRecDepth 100000 in
theorem add_any (h : Bld w b F s) (op n : Int) (hl : s.code.length < lim) : Calls Tryz.prog 112 #[.pointer (some ⟨b, 0, none⟩), .int .i64 op, .int .i64 n] w fun e w' => ∃ F', e = .returned (.tuple #[]) ∧ Bld w' b F' (s.add ⟨op, n, 0⟩ none) ∧ Turn F F' w w' := by
  obtain ⟨v, h, rfl⟩ := h
  obtain ⟨hb, _, h1, _⟩ := h.cells
  have HA := Lib.hid (BAt.app (h.keep (kept_below (bl1 w (.cells #[.int .i64 op, .int .i64 n, .float .f64 0] 90)) h.blw)) ⟨op, n, 0⟩ (gx := w.heap.size) (heap_alloc_new _ _) hl)
  have HT := Lib.hid (turn_alloc (fpB b v) w (.cells #[.int .i64 op, .int .i64 n, .float .f64 0] 90))
  generalize s.code.length = len at *
  clear h
  go_enter Tryz.func112, Tryz.ntmps112
  go_wp2_with (at_builtin; refine wpList_append_ex rfl _ _ _ _ rfl _ _ rfl rfl (by exact HA.out _) ?_; rintro r w3 ⟨k1, k2, k3, ⟨g, c', rfl⟩, k4⟩)
  go_end0
  obtain ⟨F', f1, f2⟩ := k4.out
  exact ⟨F', rfl, f1, HT.out.trans f2⟩
theorem fixed_any (x : Nat) (w : World) : Calls Tryz.prog 133 #[.float .f64 x] w fun e w' => e = .returned (.float .f64 (fixB x)) ∧ w' = w := by
  have H := Lib.hid (isNaN_any x w)
  cases g : nan x
  · rw [fixB_num g]
    rw [g] at H
    go_enter Tryz.func133, Tryz.ntmps133
    go_wp2_with (go_at_call 120; refine H.out.mono ?_; rintro e w' ⟨rfl, hw⟩; subst w')
    go_ret
    exact ⟨rfl, rfl⟩
  · rw [fixB_nan g]
    rw [g] at H
    go_enter Tryz.func133, Tryz.ntmps133
    go_wp2_with (go_at_call 120; refine H.out.mono ?_; rintro e w' ⟨rfl, hw⟩; subst w')
    go_ret
    exact ⟨rfl, rfl⟩
set_option maxRecDepth 100000 in
theorem push_any (h : Bld w b F s) (x : Nat) (hl : s.code.length < lim) : Calls Tryz.prog 108 #[.pointer (some ⟨b, 0, none⟩), .float .f64 x] w fun e w' => ∃ F', e = .returned (.tuple #[]) ∧ Bld w' b F' (s.add ⟨1, 0, x⟩ none) ∧ Turn F F' w w' := by
  obtain ⟨v, h, rfl⟩ := h
  obtain ⟨hb, _, h1, _⟩ := h.cells
  have HA := Lib.hid (BAt.app (h.keep (w' := w.drew.alloc (.cells #[.int .i64 1, .int .i64 0, .float .f64 (fixB x)] 90)) (kept_below (((Same.drew w).below _).trans (bl1 w.drew _)) h.blw)) ⟨1, 0, x⟩ (gx := w.heap.size) (heap_alloc_new w.drew _) hl)
  have HT := Lib.hid (((Same.drew w).turn (fpB b v)).trans (turn_alloc (fpB b v) w.drew (.cells #[.int .i64 1, .int .i64 0, .float .f64 (fixB x)] 90)))
  generalize s.code.length = len at *
  clear h
  go_enter Tryz.func108, Tryz.ntmps108
  refine wp_region_seqE (fun u => u.cell? ⟨b, 1, none⟩ = some (.slice v.pi len v.ci)) ((0, true) :: (1, true) :: (2, true) :: (3, true) :: (4, true) :: (5, true) :: (6, false) :: (7, true) :: (8, false) :: (9, false) :: (10, true) :: (11, true) :: (12, false) :: []) follows (by kernel_rfl) (fun _ _ _ _ _ h => h) h1 ?_
  (repeat (refine wpSeqE_take (v := ?_) rfl (by rfl) (fun wq hSq => ?_) ?_; rotate_left; (focus ((try dsimp only at hSq); go_simp; try with_reducible rfl)); simp only [Act.put, List.setIfInBounds_toArray, List.set_cons_zero, List.set_cons_succ]))
  (refine wpSeqE_do rfl (by rfl) (fun KK hK => ?_); go_simp)
  refine (fixed_any x _).mono ?_
  rintro r u0 ⟨rfl, hu⟩
  subst u0
  refine hK.out _ _ (fun _ => h1) ?_
  (clear hK KK; try simp only [Act.put, List.setIfInBounds_toArray, List.set_cons_zero, List.set_cons_succ])
  (repeat (refine wpSeqE_take (v := ?_) rfl (by rfl) (fun wq hSq => ?_) ?_; rotate_left; (focus ((try dsimp only at hSq); go_simp; try with_reducible rfl)); simp only [Act.put, List.setIfInBounds_toArray, List.set_cons_zero, List.set_cons_succ]))
  (refine wpSeqE_do rfl (by rfl) (fun KK hK => ?_); go_simp)
  refine hK.out _ _ (fun _ => (World.cell?_alloc_old _ _ _ (Nat.ne_of_lt hb)).trans h1) ?_
  (clear hK KK; try simp only [Act.put, List.setIfInBounds_toArray, List.set_cons_zero, List.set_cons_succ])
  refine wpSeqE_do rfl (by rfl) (fun KK hK => ?_)
  refine wp_append_ex _ _ 24 24 rfl (.slice v.pi len v.ci) (.slice (some ⟨w.heap.size, 0, none⟩) 1 1) rfl rfl (by exact HA.out _) ?_
  rintro r w3 ⟨k1, k2, k3, ⟨g, c', rfl⟩, k4⟩
  refine hK.out _ _ (fun _ => k3) ?_
  (clear hK KK; try simp only [Act.put, List.setIfInBounds_toArray, List.set_cons_zero, List.set_cons_succ])
  (repeat (refine wpSeqE_take (v := ?_) rfl (by rfl) (fun wq hSq => ?_) ?_; rotate_left; (focus ((try dsimp only at hSq); go_simp; try with_reducible rfl)); simp only [Act.put, List.setIfInBounds_toArray, List.set_cons_zero, List.set_cons_succ]))
  (refine wpSeqE_do rfl (by rfl) (fun KK hK => ?_); go_simp)
  refine hK.out _ _ (fun hn => absurd rfl hn) ?_
  (clear hK KK; try simp only [Act.put])
  refine wpSeqE_nil ?_
  go_wp2_with fail
  go_end0
  obtain ⟨F', f1, f2⟩ := k4.out
  exact ⟨F', rfl, f1, HT.out.trans f2⟩
end
end Go.Proofs.YtaliehikdidiaaaGreatDoor.As
namespace Go.Proofs.YtaliehikdidiaaaGreatDoor.As
open Go.ChangeShapes Go.WideShapes Go.ChangeAt Go.RowKit Num Go.Maps
attribute [local go_sem] run_store_float frombits_run bits_run
section
variable {w w' u w3 : World} {b : Nat} {s : Bs} {v : Bv} {F : List Nat}
theorem BAt.lab (h : BAt w b s v) (hm : ¬ s.many = 256) : BAt (w.setCell ⟨b, 2, none⟩ (.int .i64 ((s.many : Int) + 1))) b s.lab v := by
  obtain ⟨a1, a2, a3, a4, _⟩ := h.apart
  have kp : ∀ G, b ∉ G → Kept G w (w.setCell ⟨b, 2, none⟩ (.int .i64 ((s.many : Int) + 1))) := fun G hb => ⟨by simp, fun k hk => heap_setCell_other _ _ _ _ (by rintro rfl; exact hb hk)⟩
  have e : s.lab = { s with many := s.many + 1 } := by unfold Bs.lab; rw [if_neg hm]
  have ok := h.ok.lab
  rw [e] at ok ⊢
  refine ⟨(heap_setCell_same w b 2 _ _ _ h.box).trans (by simp [boxA]), h.ins.keep (kp _ a2), h.map.keep (heap_setCell_other _ _ _ _ (Ne.symm a1)), ?_, h.caps.keep (kp _ a4), ok⟩
  obtain ⟨vs, l1, l2⟩ := h.lat
  exact ⟨vs, l1.keep (kp _ a3), fun j hj => by obtain ⟨y, e1, e2⟩ := l2 j hj; exact ⟨y, e1, e2.keep (kp _ a4)⟩⟩
set_option maxRecDepth 100000 in
theorem label_any (h : Bld w b F s) : Calls Tryz.prog 116 #[.pointer (some ⟨b, 0, none⟩)] w fun e w' => ∃ F', e = .returned (.int .i64 s.labV) ∧ Bld w' b F' s.lab ∧ Turn F F' w w' := by
  have H0 := h
  obtain ⟨v, h, rfl⟩ := h
  obtain ⟨hb, _, _, h2, _, _, _, hf⟩ := h.cells
  have hf2 := hf 2
  have hm := h.ok.many
  unfold Bs.labV
  by_cases h256 : s.many = 256
  · have e1 : s.lab = s := by unfold Bs.lab; rw [if_pos h256]
    rw [if_pos h256, e1]
    rw [h256] at h2
    have HF := Lib.hid H0
    clear h H0 hf hm
    go_enter Tryz.func116, Tryz.ntmps116
    go_wp2
    go_ret
    exact ⟨_, rfl, HF.out, Turn.refl _ _⟩
  · rw [if_neg h256]
    have HB := Lib.hid (h.lab h256)
    have HT : Hid (Turn (fpB b v) (fpB b v) w (w.setCell ⟨b, 2, none⟩ (.int .i64 ((s.many : Int) + 1)))) := Turn.widen (turn_set b 2 _ w) (fun k hk => mem_fpB.2 (.inl (by simpa using hk))) (fun _ hk => .inl hk)
    have hne : ((s.many : Int) == 256) = false := by simp; omega
    generalize s.lab = sl at *
    generalize s.many = m at *
    clear h H0 hf
    go_enter Tryz.func116, Tryz.ntmps116
    go_wp2
    go_ret
    exact ⟨_, by simp, ⟨v, HB.out, rfl⟩, HT.out⟩
theorem len_at {n c : Nat} {p : Option Addr} (h1 : w.cell? ⟨b, 1, none⟩ = some (.slice p n c)) : Calls Tryz.prog 134 #[.pointer (some ⟨b, 0, none⟩)] w fun e w' => e = .returned (.int .i64 n) ∧ w' = w := by
  go_enter Tryz.func134, Tryz.ntmps134
  go_wp2
  go_ret
  exact ⟨rfl, rfl⟩
theorem BAt.marked (h : BAt w b s v) {l : Int} (hw : Wf l) (hn : s.marks.length < maxLen) (hbox : w'.heap[b]? = some (.cells (boxA (s.mark l) v) 181 (0, 0))) (ht : Turn [b] [b] w w') :
    ∃ w4, (Instr.mapUpdate 178 (.map (some v.bm)) (.int .i64 l) (.int .i64 (s.code.length : Nat))).run Tryz.prog w' = .ok () w4 ∧ Hid (BAt w4 b (s.mark l) v ∧ Turn (fpB b v) (fpB b v) w w4) := by
  obtain ⟨a1, a2, a3, a4, a5, a6, a7, _⟩ := h.apart
  have hm : MapI w' v.bm s.marks := h.map.keep (ht.block _ h.map.lt (by simp [Ne.symm a1]))
  obtain ⟨w4, e, m4, t4⟩ := hm.lay hw s.code.length hn
  have hblw := h.blw
  have kp : ∀ G, (∀ k ∈ G, k ∈ fpB b v) → b ∉ G → v.bm ∉ G → Kept G w w4 := fun G hG hb hm => ⟨Nat.le_trans ht.size t4.size, fun k hk => (t4.block k (Nat.lt_of_lt_of_le (hblw k (hG k hk)) ht.size) (by simp; rintro rfl; exact hm hk)).trans (ht.block k (hblw k (hG k hk)) (by simp; rintro rfl; exact hb hk))⟩
  have kR := kp v.R (fun k hk => mem_fpB.2 (.inr (.inr (.inr (.inr hk))))) a4 a7
  refine ⟨w4, e, ⟨(t4.block b (lt_of_block hbox) (by simp [a1])).trans hbox, h.ins.keep (kp _ (fun k hk => mem_fpB.2 (.inr (.inr (.inl hk)))) a2 a5), m4, ?_, h.caps.keep kR, h.ok.mark l⟩, ?_⟩
  · obtain ⟨vs, l1, l2⟩ := h.lat
    exact ⟨vs, l1.keep (kp _ (fun k hk => mem_fpB.2 (.inr (.inr (.inr (.inl hk))))) a3 a6), fun j hj => by obtain ⟨y, e1, e2⟩ := l2 j hj; exact ⟨y, e1, e2.keep kR⟩⟩
  · exact (Turn.widen ht (fun k hk => mem_fpB.2 (.inl (by simpa using hk))) (fun _ hk => .inl hk)).trans (Turn.widen t4 (fun k hk => mem_fpB.2 (.inr (.inl (by simpa using hk)))) (fun _ hk => .inl hk))
set_option maxRecDepth 100000 in
theorem mark_any (h : Bld w b F s) {l : Int} (hw : Wf l) (hn : s.marks.length < maxLen) : Calls Tryz.prog 114 #[.pointer (some ⟨b, 0, none⟩), .int .i64 l] w fun e w' => ∃ F', e = .returned (.tuple #[]) ∧ Bld w' b F' (s.mark l) ∧ Turn F F' w w' := by
  obtain ⟨v, h, rfl⟩ := h
  obtain ⟨hb, _, h1, _, h3, h4, _, hf⟩ := h.cells
  have hlk := h.map.look hw
  have e1 : boxA (s.mark l) v = (boxA s v).setIfInBounds 4 (.bool (hasM s.marks l || twB s.marks)) := rfl
  cases hh : hasM s.marks l
  · rw [hh] at hlk e1
    have e2 : boxA (s.mark l) v = boxA s v := by rw [e1]; simp [boxA]
    obtain ⟨w4, k1, k2⟩ := h.marked (w' := w.drew) hw hn (by rw [e2]; exact h.box) ((Same.drew w).turn _)
    generalize s.code.length = n at *
    clear h e1 e2 hh
    go_enter Tryz.func114, Tryz.ntmps114
    go_wp2
    refine wp_region_seqE (fun u => u.cell? ⟨b, 3, none⟩ = some (.map (some v.bm))) ((0, true) :: (1, true) :: (2, true) :: (3, true) :: (4, true) :: (5, true) :: (6, false) :: (7, false) :: []) follows (by kernel_rfl) (fun _ _ _ _ _ h => h) h3 ?_
    (repeat (refine wpSeqE_take (v := ?_) rfl (by rfl) (fun wq hSq => ?_) ?_; rotate_left; (focus ((try dsimp only at hSq); go_simp; try with_reducible rfl)); simp only [Act.put, List.setIfInBounds_toArray, List.set_cons_zero, List.set_cons_succ]))
    (refine wpSeqE_do rfl (by rfl) (fun KK hK => ?_); go_simp)
    refine (len_at (w := w.drew) h1).mono ?_
    rintro r u0 ⟨rfl, hu⟩
    subst u0
    refine hK.out _ _ (fun _ => h3) ?_
    (clear hK KK; try simp only [Act.put, List.setIfInBounds_toArray, List.set_cons_zero, List.set_cons_succ])
    (refine wpSeqE_do rfl (by rfl) (fun KK hK => ?_); go_simp)
    refine hK.out _ _ (fun hn => absurd rfl hn) ?_
    (clear hK KK; try simp only [Act.put])
    refine wpSeqE_nil ?_
    go_wp2_with fail
    go_end0
    exact ⟨_, rfl, ⟨v, k2.out.1, rfl⟩, k2.out.2⟩
  · rw [hh] at hlk e1
    have hf4 := hf 4
    have hbox : (w.setCell ⟨b, 4, none⟩ (.bool true)).heap[b]? = some (.cells (boxA (s.mark l) v) 181 (0, 0)) := by
      rw [e1]
      exact heap_setCell_same w b 4 _ _ _ h.box
    obtain ⟨w4, k1, k2⟩ := h.marked (w' := (w.setCell ⟨b, 4, none⟩ (.bool true)).drew) hw hn hbox ((turn_set b 4 _ w).trans ((Same.drew _).turn _))
    have g3 : (w.setCell ⟨b, 4, none⟩ (.bool true)).drew.cell? ⟨b, 3, none⟩ = some (.map (some v.bm)) := (cell_of_row (w.setCell ⟨b, 4, none⟩ (.bool true)) b 3 _ _ _ hbox).trans rfl
    have g1 : (w.setCell ⟨b, 4, none⟩ (.bool true)).drew.cell? ⟨b, 1, none⟩ = some (.slice v.pi s.code.length v.ci) := (cell_of_row (w.setCell ⟨b, 4, none⟩ (.bool true)) b 1 _ _ _ hbox).trans rfl
    generalize s.code.length = n at *
    clear h e1 hh hbox
    go_enter Tryz.func114, Tryz.ntmps114
    go_wp2
    refine wp_region_seqE (fun u => u.cell? ⟨b, 3, none⟩ = some (.map (some v.bm))) ((0, true) :: (1, true) :: (2, true) :: (3, true) :: (4, true) :: (5, true) :: (6, false) :: (7, false) :: []) follows (by kernel_rfl) (fun _ _ _ _ _ h => h) g3 ?_
    (repeat (refine wpSeqE_take (v := ?_) rfl (by rfl) (fun wq hSq => ?_) ?_; rotate_left; (focus ((try dsimp only at hSq); go_simp; try with_reducible rfl)); simp only [Act.put, List.setIfInBounds_toArray, List.set_cons_zero, List.set_cons_succ]))
    (refine wpSeqE_do rfl (by rfl) (fun KK hK => ?_); go_simp)
    refine (len_at g1).mono ?_
    rintro r u0 ⟨rfl, hu⟩
    subst u0
    refine hK.out _ _ (fun _ => g3) ?_
    (clear hK KK; try simp only [Act.put, List.setIfInBounds_toArray, List.set_cons_zero, List.set_cons_succ])
    (refine wpSeqE_do rfl (by rfl) (fun KK hK => ?_); go_simp)
    refine hK.out _ _ (fun hn => absurd rfl hn) ?_
    (clear hK KK; try simp only [Act.put])
    refine wpSeqE_nil ?_
    go_wp2_with fail
    go_end0
    exact ⟨_, rfl, ⟨v, k2.out.1, rfl⟩, k2.out.2⟩
theorem BAt.app2 {i : Ins} (h : BAt u b (s.add i none) v) (ok : Ok s) {l : Int} (hw : Wf l) {x y z gx : Nat} (hx : u.heap[x]? = some (.cells #[.pointer (some ⟨b, 0, none⟩)] 149 (0, 0))) (hy : u.heap[y]? = some (.cells #[.int .i64 l] 3 (0, 0))) (hz : u.heap[z]? = some (.cells #[.int .i64 (s.code.length : Nat)] 3 (0, 0)))
    (hg : u.heap[gx]? = some (.cells #[cloV x y z] 187 (0, 0))) (hl : s.code.length < lim) (ty : TypeId) :
    ∃ r w3, (Builtin.append_ #[179, 179] ty #[.slice v.pL s.lat.length v.cL, .slice (some ⟨gx, 0, none⟩) 1 1]).run Tryz.prog u = .ok r w3 ∧ b < w3.heap.size ∧ w3.frozen? ⟨b, 5, none⟩ = false ∧ (w3.cell? ⟨b, 5, none⟩ = some (.slice v.pL s.lat.length v.cL) ∧ w3.cell? ⟨x, 0, none⟩ = some (.pointer (some ⟨b, 0, none⟩))) ∧ (∃ g c', r = .slice (some ⟨g, 0, none⟩) (s.lat.length + 1) c') ∧ Hid (∃ F', Bld (w3.setCell ⟨b, 5, none⟩ r) b F' (s.add i (some l)) ∧ Turn (x :: y :: z :: fpB b v) F' u (w3.setCell ⟨b, 5, none⟩ r)) := by
  unfold lim at hl
  have hls := ok.size
  have elat : (s.add i none).lat = s.lat := rfl
  obtain ⟨vs, l1, l2⟩ := h.lat
  rw [elat] at l1
  obtain ⟨r, w3, h1, g, c', rfl, h2, ht⟩ := l1.app Tryz.underlying179 filInfo rfl (by decide) hg rfl (fun q hq => by simp at hq; subst hq; rfl) (by unfold maxLen; omega) (by omega) ty
  obtain ⟨a1, a2, a3, a4, a5, a6, a7, a8, a9, a10⟩ := h.apart
  have hblw := h.blw
  have old : ∀ k, k < u.heap.size → k ∉ fpR v.pL → w3.heap[k]? = u.heap[k]? := fun k hk hn => ht.block k hk hn
  have mb : b ∈ fpB b v := mem_fpB.2 (.inl rfl)
  have mm : v.bm ∈ fpB b v := mem_fpB.2 (.inr (.inl rfl))
  have mI : ∀ k ∈ fpR v.pi, k ∈ fpB b v := fun k hk => mem_fpB.2 (.inr (.inr (.inl hk)))
  have mR : ∀ k ∈ v.R, k ∈ fpB b v := fun k hk => mem_fpB.2 (.inr (.inr (.inr (.inr hk))))
  have hbox := (old b (lt_of_block h.box) a3).trans h.box
  have hgo := ht.own g (by simp)
  have gb : g ≠ b := by
    rintro rfl
    exact hgo.elim a3 fun q => absurd (hblw _ mb) (Nat.not_lt.2 q)
  have nx : ∀ {k : Nat} {c : Array Value} {T : TypeId}, u.heap[k]? = some (.cells c T (0, 0)) → (187 == T) = false → (181 == T) = false → (w3.setCell ⟨b, 5, none⟩ (.slice (some ⟨g, 0, none⟩) (s.lat.length + 1) c')).heap[k]? = some (.cells c T (0, 0)) ∧ w3.heap[k]? = some (.cells c T (0, 0)) := fun {k c T} hk q1 q2 => by
    have e1 : k ∉ fpR v.pL := fun q => by obtain ⟨arr, e⟩ := l1.blk q; exact ne_ty e hk q1 rfl
    have e2 := (old k (lt_of_block hk) e1).trans hk
    exact ⟨(heap_setCell_other _ _ _ _ (by rintro rfl; exact ne_ty h.box hk q2 rfl)).trans e2, e2⟩
  obtain ⟨hx', hx3⟩ := nx hx (by decide) (by decide)
  obtain ⟨hy', _⟩ := nx hy (by decide) (by decide)
  obtain ⟨hz', _⟩ := nx hz (by decide) (by decide)
  have kp : ∀ G, (∀ k ∈ G, k ∈ fpB b v) → b ∉ G → Sep G (fpR v.pL) → Kept G u (w3.setCell ⟨b, 5, none⟩ (.slice (some ⟨g, 0, none⟩) (s.lat.length + 1) c')) := fun G hG hb hs => ⟨by simpa using ht.size, fun k hk => (heap_setCell_other _ _ _ _ (by rintro rfl; exact hb hk)).trans (old k (hblw k (hG k hk)) (hs k hk))⟩
  have kR := kp v.R mR a4 a10.symm
  have el : (s.add i (some l)).lat = s.lat ++ [(l, s.code.length)] := rfl
  have eln : (s.add i (some l)).lat.length = s.lat.length + 1 := by rw [el]; simp
  refine ⟨_, w3, h1, lt_of_block hbox, frozen_of_row _ _ _ _ _ hbox, ⟨(cell_of_row _ _ _ _ _ _ hbox).trans rfl, (cell_of_row _ _ _ _ _ _ hx3).trans rfl⟩, ⟨g, c', rfl⟩, fpB b { v with pL := some ⟨g, 0, none⟩, cL := c', R := x :: y :: z :: v.R }, ⟨{ v with pL := some ⟨g, 0, none⟩, cL := c', R := x :: y :: z :: v.R }, ⟨?_, h.ins.keep (kp _ mI a2 a8), h.map.keep ((heap_setCell_other _ _ _ _ (Ne.symm a1)).trans (old _ h.map.lt a6)), ?_, ?_, ok.add i (some l) (by rintro l' e; cases e; exact hw)⟩, rfl⟩, ⟨ht.os, ht.tape, ht.output, by simpa using ht.size, fun k hk hn => ?_, fun k hk => ?_⟩⟩
  · refine (heap_setCell_same w3 b 5 _ _ _ hbox).trans ?_
    rw [show boxA (s.add i (some l)) { v with pL := some ⟨g, 0, none⟩, cL := c', R := x :: y :: z :: v.R } = (boxA (s.add i none) v).setIfInBounds 5 (.slice (some ⟨g, 0, none⟩) (s.add i (some l)).lat.length c') from rfl, eln]
  · rw [eln]
    refine ⟨_, h2.keep ⟨by simp, fun k hk => heap_setCell_other _ _ _ _ (by
      obtain rfl : k = g := by simpa [fpR] using hk
      exact gb)⟩, fun j hj => ?_⟩
    have hvl := l1.len
    rw [Nat.mul_one] at hvl
    by_cases hjl : j < s.lat.length
    · obtain ⟨q, e1, X, Y, Z, e2, m1, m2, m3, rest⟩ := l2 j (by rw [elat]; exact hjl)
      refine ⟨q, by rw [List.getElem?_append_left (by omega)]; exact e1, X, Y, Z, e2, by simp [m1], by simp [m2], by simp [m3], ?_⟩
      rw [el, getD_app, if_pos hjl]
      exact ⟨(kR.2 _ m1).trans rest.1, (kR.2 _ m2).trans rest.2.1, (kR.2 _ m3).trans rest.2.2⟩
    · have hj2 : j = s.lat.length := by omega
      subst hj2
      refine ⟨cloV x y z, by rw [← hvl, List.getElem?_append_right (Nat.le_refl _), Nat.sub_self]; rfl, x, y, z, rfl, by simp, by simp, by simp, hx', ?_⟩
      rw [el, getD_app, if_neg (Nat.lt_irrefl _), if_pos rfl]
      exact ⟨hy', hz'⟩
  · intro k hk
    simp only [List.mem_cons] at hk
    rcases hk with rfl | rfl | rfl | q
    · exact ⟨_, _, hx', .inr rfl⟩
    · exact ⟨_, _, hy', .inl rfl⟩
    · exact ⟨_, _, hz', .inl rfl⟩
    · exact h.caps.keep kR k q
  · simp only [List.mem_cons, not_or] at hn
    have hn1 : k ≠ b := by rintro rfl; exact hn.2.2.2 mb
    exact (heap_setCell_other _ _ _ _ hn1).trans (old k hk fun q => hn.2.2.2 (mem_fpB.2 (.inr (.inr (.inr (.inl q))))))
  · simp only [List.mem_cons]
    rcases mem_fpB.1 hk with q | q | q | q | q
    · exact .inl (.inr (.inr (.inr (q ▸ mb))))
    · exact .inl (.inr (.inr (.inr (q ▸ mm))))
    · exact .inl (.inr (.inr (.inr (mI k q))))
    · obtain rfl : k = g := by simpa [fpR] using q
      exact hgo.imp (fun t => .inr (.inr (.inr (mem_fpB.2 (.inr (.inr (.inr (.inl t)))))))) id
    · simp only [List.mem_cons] at q
      rcases q with q | q | q | q
      · exact .inl (.inl q)
      · exact .inl (.inr (.inl q))
      · exact .inl (.inr (.inr (.inl q)))
      · exact .inl (.inr (.inr (.inr (mR k q))))
abbrev cap3 (w : World) (b : Nat) (l n : Int) : World := ((w.alloc (.cells #[.pointer (some ⟨b, 0, none⟩)] 149)).alloc (.cells #[.int .i64 l] 3)).alloc (.cells #[.int .i64 n] 3)
theorem cap3_at (w : World) (b : Nat) (l n : Int) : Below w.heap.size w (cap3 w b l n) ∧ (cap3 w b l n).heap[w.heap.size]? = some (.cells #[.pointer (some ⟨b, 0, none⟩)] 149 (0, 0)) ∧ (cap3 w b l n).heap[w.heap.size + 1]? = some (.cells #[.int .i64 l] 3 (0, 0)) ∧ (cap3 w b l n).heap[w.heap.size + 1 + 1]? = some (.cells #[.int .i64 n] 3 (0, 0)) ∧ (cap3 w b l n).heap.size = w.heap.size + 1 + 1 + 1 := by
  have e1 : (w.alloc (.cells #[.pointer (some ⟨b, 0, none⟩)] 149)).heap.size = w.heap.size + 1 := by simp
  have e2 : ((w.alloc (.cells #[.pointer (some ⟨b, 0, none⟩)] 149)).alloc (.cells #[.int .i64 l] 3)).heap.size = w.heap.size + 1 + 1 := by simp
  have h1 := heap_alloc_new w (.cells #[.pointer (some ⟨b, 0, none⟩)] 149)
  have h2 := heap_alloc_new (w.alloc (.cells #[.pointer (some ⟨b, 0, none⟩)] 149)) (.cells #[.int .i64 l] 3)
  have h3 := heap_alloc_new ((w.alloc (.cells #[.pointer (some ⟨b, 0, none⟩)] 149)).alloc (.cells #[.int .i64 l] 3)) (.cells #[.int .i64 n] 3)
  rw [e1] at h2
  rw [e2] at h3
  exact ⟨((bl1 w _).alloc (by simp) _).alloc (by simp; omega) _, (Below.heap_alloc _ _ _ (by simp; omega)).trans ((Below.heap_alloc _ _ _ (by simp)).trans h1), (Below.heap_alloc _ _ _ (by simp)).trans h2, h3, by simp⟩
theorem to_fin {w2 : World} {i : Ins} {l : Int} {n : Nat} {F2 : List Nat} (h : Bld w b F s) (hw : Wf l) (hl : s.code.length < lim) (hn : s.code.length = n) (q1 : Bld w2 b F2 (s.add i none)) (q2 : Turn F F2 (cap3 w b l n) w2) :
    ∃ p c, w2.cell? ⟨b, 5, none⟩ = some (.slice p s.lat.length c) ∧ w2.cell? ⟨w.heap.size, 0, none⟩ = some (.pointer (some ⟨b, 0, none⟩)) ∧ b < w2.heap.size ∧ w.heap.size < w2.heap.size ∧ b ≠ w2.heap.size ∧ w.heap.size ≠ w2.heap.size ∧
      ∀ ty, ∃ r w3, (Builtin.append_ #[179, 179] ty #[.slice p s.lat.length c, .slice (some ⟨w2.heap.size, 0, none⟩) 1 1]).run Tryz.prog (w2.drew.alloc (.cells #[.func (.func 135) #[] #[.pointer (some ⟨w.heap.size, 0, none⟩), .pointer (some ⟨w.heap.size + 1, 0, none⟩), .pointer (some ⟨w.heap.size + 1 + 1, 0, none⟩)]] 187)) = .ok r w3 ∧ b < w3.heap.size ∧ w3.frozen? ⟨b, 5, none⟩ = false ∧ (w3.cell? ⟨b, 5, none⟩ = some (.slice p s.lat.length c) ∧ w3.cell? ⟨w.heap.size, 0, none⟩ = some (.pointer (some ⟨b, 0, none⟩))) ∧ (∃ g c', r = .slice (some ⟨g, 0, none⟩) (s.lat.length + 1) c') ∧ Hid (∃ F', Bld (w3.setCell ⟨b, 5, none⟩ r) b F' (s.add i (some l)) ∧ Turn F F' w (w3.setCell ⟨b, 5, none⟩ r)) := by
  obtain ⟨v2, q1, rfl⟩ := q1
  obtain ⟨c1, c2, c3, c4, c5⟩ := cap3_at w b l n
  have hF := h.blw
  have nF : ∀ k, w.heap.size ≤ k → k ∉ F := fun k hk q => absurd (hF k q) (Nat.not_lt.2 hk)
  have d2 := (q2.block _ (lt_of_block c2) (nF _ (Nat.le_refl _))).trans c2
  have d3 := (q2.block _ (lt_of_block c3) (nF _ (by omega))).trans c3
  have d4 := (q2.block _ (lt_of_block c4) (nF _ (by omega))).trans c4
  obtain ⟨hb, _, _, _, _, _, h5, _⟩ := q1.cells
  have lx := lt_of_block d2
  refine ⟨v2.pL, v2.cL, h5, (cell_of_row _ _ _ _ _ _ d2).trans rfl, hb, lx, Nat.ne_of_lt hb, Nat.ne_of_lt lx, fun ty => ?_⟩
  have ea := bl1 w2.drew (.cells #[cloV w.heap.size (w.heap.size + 1) (w.heap.size + 1 + 1)] 187)
  have ea2 : Below w2.heap.size w2 (w2.drew.alloc (.cells #[cloV w.heap.size (w.heap.size + 1) (w.heap.size + 1 + 1)] 187)) := ((Same.drew w2).below _).trans ea
  obtain ⟨r, w3, k1, k2, k3, k4, k5, k6⟩ := BAt.app2 (q1.keep (kept_below ea2 q1.blw)) h.ok hw ((ea2.block _ (lt_of_block d2)).trans d2) ((ea2.block _ (lt_of_block d3)).trans d3) ((ea2.block _ (lt_of_block d4)).trans (by rw [hn]; exact d4)) (heap_alloc_new w2.drew _) hl ty
  refine ⟨r, w3, k1, k2, k3, k4, k5, ?_⟩
  obtain ⟨F', f1, f2⟩ := k6.out
  refine ⟨F', f1, Turn.trans ?_ f2⟩
  have t1 : Turn F F w (cap3 w b l n) := below_turn c1
  refine ((t1.trans q2).trans (below_turn ea2)).mono fun k hk => ?_
  simp only [List.mem_cons] at hk
  rcases hk with rfl | rfl | rfl | q
  · exact .inr (Nat.le_refl _)
  · exact .inr (by omega)
  · exact .inr (by omega)
  · exact ((t1.trans q2).own k q)
set_option maxRecDepth 100000 in
theorem to_any (h : Bld w b F s) (op l : Int) (hw : Wf l) (hl : s.code.length < lim) : Calls Tryz.prog 110 #[.pointer (some ⟨b, 0, none⟩), .int .i64 op, .int .i64 l] w fun e w' => ∃ F', e = .returned (.tuple #[]) ∧ Bld w' b F' (s.add ⟨op, 0, 0⟩ (some l)) ∧ Turn F F' w w' := by
  have hb := (h.blw b (by obtain ⟨v, h, rfl⟩ := h; exact mem_fpB.2 (.inl rfl)))
  have HB : Hid (∀ u, Below w.heap.size w u → Bld u b F s) := fun u hu => h.on hu
  have HLEN : Hid (∀ u, Bld u b F s → Calls Tryz.prog 134 #[.pointer (some ⟨b, 0, none⟩)] u fun e w' => e = .returned (.int .i64 s.code.length) ∧ w' = u) := fun u hu => len_any hu
  have HADD : Hid (∀ u, Bld u b F s → Calls Tryz.prog 112 #[.pointer (some ⟨b, 0, none⟩), .int .i64 op, .int .i64 0] u fun e w' => ∃ F', e = .returned (.tuple #[]) ∧ Bld w' b F' (s.add ⟨op, 0, 0⟩ none) ∧ Turn F F' u w') := fun u hu => add_any hu op 0 hl
  obtain ⟨n, hn⟩ : ∃ n, s.code.length = n := ⟨_, rfl⟩
  have HFIN : Hid (∀ w2 F2, Bld w2 b F2 (s.add ⟨op, 0, 0⟩ none) → Turn F F2 (cap3 w b l n) w2 → _) := fun w2 F2 q1 q2 => to_fin h hw hl hn q1 q2
  have HC := Lib.hid (cap3_at w b l n).1
  rw [hn] at HLEN
  clear h hl hw hn
  go_enter Tryz.func110, Tryz.ntmps110
  go_wp2_with (first
    | (go_at_call 134; refine (HLEN.out _ (HB.out _ (by repeat (first | exact Below.refl _ _ | refine Below.alloc ?_ (by simp <;> omega) _)))).mono ?_; rintro e w' ⟨rfl, hw'⟩; subst w'; clear HLEN)
    | (go_at_call 112; refine (HADD.out _ (HB.out _ HC.out)).mono ?_; rintro e w2 ⟨F2, rfl, q1, q2⟩; obtain ⟨p, c, k5, kx, lb, lx, nb, nx, kA⟩ := HFIN.out _ _ q1 q2; have HA := Lib.hid kA; clear q1 q2 kA HFIN HADD))
  refine wp_region_seqE (fun u => u.cell? ⟨b, 5, none⟩ = some (.slice p s.lat.length c) ∧ u.cell? ⟨w.heap.size, 0, none⟩ = some (.pointer (some ⟨b, 0, none⟩))) ((0, true) :: (1, true) :: (2, true) :: (3, true) :: (4, true) :: (5, true) :: (6, false) :: (7, false) :: (8, true) :: (9, true) :: (10, false) :: []) follows (by kernel_rfl) (fun _ _ _ _ _ h => h) ⟨k5, kx⟩ ?_
  (repeat (refine wpSeqE_take (v := ?_) rfl (by rfl) (fun wq hSq => ?_) ?_; rotate_left; (focus ((try dsimp only at hSq); go_simp; try with_reducible rfl)); simp only [Act.put, List.setIfInBounds_toArray, List.set_cons_zero, List.set_cons_succ]))
  (refine wpSeqE_do rfl (by rfl) (fun KK hK => ?_); go_simp)
  refine hK.out _ _ (fun _ => ⟨(World.cell?_alloc_old _ _ _ nb).trans k5, (World.cell?_alloc_old _ _ _ nx).trans kx⟩) ?_
  (clear hK KK; try simp only [Act.put, List.setIfInBounds_toArray, List.set_cons_zero, List.set_cons_succ])
  refine wpSeqE_do rfl (by rfl) (fun KK hK => ?_)
  refine wp_append_ex _ _ 179 179 rfl (.slice p s.lat.length c) (.slice (some ⟨w2.heap.size, 0, none⟩) 1 1) rfl rfl (by exact HA.out _) ?_
  rintro r w3 ⟨k1, k2, k3, ⟨g, c', rfl⟩, k4⟩
  refine hK.out _ _ (fun _ => k3) ?_
  (clear hK KK; try simp only [Act.put, List.setIfInBounds_toArray, List.set_cons_zero, List.set_cons_succ])
  (repeat (refine wpSeqE_take (v := ?_) rfl (by rfl) (fun wq hSq => ?_) ?_; rotate_left; (focus ((try dsimp only at hSq); go_simp; try with_reducible rfl)); simp only [Act.put, List.setIfInBounds_toArray, List.set_cons_zero, List.set_cons_succ]))
  (refine wpSeqE_do rfl (by rfl) (fun KK hK => ?_); go_simp)
  refine hK.out _ _ (fun hn => absurd rfl hn) ?_
  (clear hK KK; try simp only [Act.put])
  refine wpSeqE_nil ?_
  go_wp2_with fail
  go_end0
  obtain ⟨F', f1, f2⟩ := k4.out
  exact ⟨F', rfl, f1, f2⟩
end
end Go.Proofs.YtaliehikdidiaaaGreatDoor.As
namespace Go.Proofs.YtaliehikdidiaaaGreatDoor.As
open Go.ChangeShapes Go.WideShapes Go.ChangeAt Go.RowKit Num Go.Maps
attribute [local go_sem] run_store_float frombits_run bits_run
theorem enter_run {f : FuncId} {fn : Func} (hf : Tryz.prog.funcs[f]? = some fn) (hname : (fn.name == "runtime.NumGoroutine") = false) (hb : fn.body.isSome = true) (args : Array Value) (w : World) : (callFunc f args).run Tryz.prog w = .ok (.enter f args) w := by
  obtain ⟨c, hb⟩ := Option.isSome_iff_exists.1 hb
  have h1 : fn.name ≠ "runtime.NumGoroutine" := by simpa using hname
  simp [callFunc, hf, h1, hb, mark]
section
variable {w w' u w3 : World} {b : Nat} {s : Bs} {v : Bv} {F : List Nat}
theorem has_any {many : Nat} (h2 : w.cell? ⟨b, 2, none⟩ = some (.int .i64 many)) (l : Int) : Calls Tryz.prog 150 #[.pointer (some ⟨b, 0, none⟩), .int .i64 l] w fun e w' => e = .returned (.bool (inB many l)) ∧ w' = w := by
  unfold inB
  by_cases h0 : 0 ≤ l
  · by_cases h1 : l < many
    · go_enter Tryz.func150, Tryz.ntmps150
      go_wp2
      go_ret
      exact ⟨by simp [h1, h0], rfl⟩
    · go_enter Tryz.func150, Tryz.ntmps150
      go_wp2
      go_ret
      exact ⟨by simp [h1], rfl⟩
  · go_enter Tryz.func150, Tryz.ntmps150
    go_wp2
    go_ret
    exact ⟨by simp; omega, rfl⟩
theorem okM_no {many : Nat} {r : Mk} {l : Int} (h : hasM r l = true) (hi : inB many l = false) : okM many r = false := by
  cases q : okM many r
  · rfl
  · have := ((okM_iff many r).1 q).1 l h
    rw [hi] at this
    cases this
theorem okM_tw {many : Nat} {r : Mk} (h : ∀ l, hasM r l = true → inB many l = true) : okM many r = !twB r := by
  cases q : twB r
  · exact (okM_iff many r).2 ⟨h, q⟩
  · cases k : okM many r
    · rfl
    · have := ((okM_iff many r).1 k).2
      rw [q] at this
      cases this
set_option maxRecDepth 100000 in
theorem marks_any (h : Bld w b F s) (hwf : ∀ l, hasM s.marks l = true → Wf l) : Calls Tryz.prog 136 #[.pointer (some ⟨b, 0, none⟩)] w fun e w' => e = .returned (.bool (okM s.many s.marks)) ∧ Below w.heap.size w w' := by
  obtain ⟨v, h, rfl⟩ := h
  obtain ⟨hb, _, _, h2, h3, h4, _, _⟩ := h.cells
  obtain ⟨n, D, hown, hn, hD⟩ := h.map
  have hbm := hown.lt
  have HD := Lib.hid hD
  have HWF := Lib.hid hwf
  clear h hD hn hwf
  go_enter Tryz.func136, Tryz.ntmps136
  go_wp2_with (at_range; refine wpList_range_own _ rfl _ 178 rfl 3 3 keyI Tryz.underlying178 _ v.bm n _ rfl hown ?_; intro w0 hrg0 hg0 hs0)
  go_frame
  have hb0 : Below w.heap.size w w0 := ⟨hg0.os, hg0.tape, hg0.output, hg0.size, fun k hk => hg0.block k hk (by simp)⟩
  go_loopw [3] (fun _ wr => ∃ (left : Lit → Bool) (cnt : Nat), wr.ranges Tryz.prog 3 iEl v.bm w.heap.size n D left cnt ∧ Hid ((∀ kl, left kl = true → Maps.has D kl = true) ∧ (∀ l, Wf l → hasM s.marks l = true → left (.int .i64 l) = false → inB s.many l = true) ∧ Below w.heap.size w wr))
    (fun _ wr => wr.rangeLeft v.bm w.heap.size)
  case atStart =>
    exact ⟨_, _, hrg0, Lib.hid (And.intro (fun _ q => q) (And.intro (fun l hw q z => by rw [(HD.out l hw).1, q] at z; cases z) hb0))⟩
  case round =>
    obtain ⟨left, cnt, hrg, HX⟩ := hrel
    have c2 : wr.cell? ⟨b, 2, none⟩ = some (.int .i64 (s.many : Nat)) := (HX.out.2.2.cell (p := ⟨b, 2, none⟩) hb).trans h2
    have c4 : wr.cell? ⟨b, 4, none⟩ = some (.bool (twB s.marks)) := (HX.out.2.2.cell (p := ⟨b, 4, none⟩) hb).trans h4
    have hbr : b < wr.heap.size := Nat.lt_of_lt_of_le hb HX.out.2.2.size
    clear h2 h3 h4 hown hrg0 hg0 hs0 hb0
    go_wp2_with (at_next; refine wpList_next_ranges _ rfl _ rfl 3 keyI iEl (Value.int .i64) (Value.int .i64) (fun key kl hk => by obtain ⟨x, rfl, _⟩ := Maps.keyOf_int_inv Tryz.underlying3 hk; exact ⟨x, rfl⟩) (fun y z hz => by obtain ⟨x, rfl, _⟩ := iEl_is hz; exact ⟨x, rfl⟩) v.bm w.heap.size n _ _ _ rfl hrg ?_ ?_)
    · intro hc0 hl0
      have HE : Hid (okM s.many s.marks = !twB s.marks) := okM_tw fun l q => HX.out.2.1 l (HWF.out l q) q (hl0 _)
      clear hc0 hl0
      go_wp2
      go_ret
      exact ⟨by rw [HE.out]; rfl, HX.out.2.2⟩
    · intro x c kl y0 y w1 cnt1 hkey hlk hv hat hrg1 hlt hg1 hs1 hen
      obtain ⟨x', ex, rfl, hwx⟩ := Maps.keyOf_int_inv Tryz.underlying3 hkey
      cases ex
      have HN1 : Hid (Below w.heap.size w w1) := ⟨hg1.os.trans HX.out.2.2.os, hg1.tape.trans HX.out.2.2.tape, hg1.output.trans HX.out.2.2.output, Nat.le_trans HX.out.2.2.size hg1.size, fun k hk => (hg1.block k (Nat.lt_of_lt_of_le hk HX.out.2.2.size) (by simp; omega)).trans (HX.out.2.2.block k hk)⟩
      have c2' : w1.cell? ⟨b, 2, none⟩ = some (.int .i64 (s.many : Nat)) := by
        rw [← c2]
        exact World.cell?_of_block (hg1.block b hbr (by simp; omega))
      have HM : Hid (hasM s.marks x = true) := by
        show hasM s.marks x = true
        rw [← (HD.out x hwx).1]
        exact HX.out.1 _ hlk
      have HH := Lib.hid (has_any c2' x)
      have HHL : Hid (∀ l, Wf l → hasM s.marks l = true → (left (.int .i64 l) && !(Lit.int .i64 l).sameKey (.int .i64 x)) = false → inB s.many x = true → inB s.many l = true) := fun l q1 q2 q3 q4 => by
        rw [Bool.and_eq_false_iff] at q3
        rcases q3 with q3 | q3
        · exact HX.out.2.1 l q1 q2 q3
        · have := WideAt.sameKey_eq (by simpa using q3)
          injection this with _ e
          rw [e]
          exact q4
      have hmeas := hrg.left_eq
      clear hkey hlk hv hat c2 c4 hbr hg1 hs1 HD hrg
      cases hin : inB s.many x
      · have HE := Lib.hid (okM_no HM.out hin)
        rw [hin] at HH
        clear hin HHL
        go_wp2_with (go_at_call 150; refine HH.out.mono ?_; rintro e w2 ⟨rfl, hw⟩; subst w2)
        go_ret
        exact ⟨by rw [HE.out]; rfl, HN1.out⟩
      · rw [hin] at HH
        have HIN := Lib.hid hin
        clear hin
        go_wp2_with (go_at_call 150; refine HH.out.mono ?_; rintro e w2 ⟨rfl, hw⟩; subst w2)
        go_roundw
        case rel => exact ⟨_, cnt1, hrg1, Lib.hid (And.intro (fun kl q => HX.out.1 kl (by simp at q; exact q.1)) (And.intro (fun l q1 q2 q3 => HHL.out l q1 q2 q3 HIN.out) HN1.out))⟩
        case measure => rw [hrg1.left_eq, hmeas]; exact hlt
end
end Go.Proofs.YtaliehikdidiaaaGreatDoor.As
namespace Go.Proofs.YtaliehikdidiaaaGreatDoor.As
open Go.ChangeShapes Go.WideShapes Go.ChangeAt Go.RowKit Num Go.Maps
attribute [local go_sem] run_store_float frombits_run bits_run
def setN (l : List Ins) (k : Nat) (n : Int) : List Ins := l.set k { ci l k with n := n }
def fillL (r : Mk) (lat : List (Int × Nat)) (c : List Ins) : List Ins := lat.foldl (fun c t => setN c t.2 (plN r t.1 : Nat)) c
theorem setN_len (l : List Ins) (k : Nat) (n : Int) : (setN l k n).length = l.length := by simp [setN]
theorem fillL_len (r : Mk) : ∀ (lat : List (Int × Nat)) (c : List Ins), (fillL r lat c).length = c.length
  | [], _ => rfl
  | _ :: lat, _ => (fillL_len r lat _).trans (setN_len _ _ _)
theorem fillL_snoc (r : Mk) (lat : List (Int × Nat)) (t : Int × Nat) (c : List Ins) : fillL r (lat ++ [t]) c = setN (fillL r lat c) t.2 (plN r t.1 : Nat) := by simp [fillL]
theorem ci_setN {l : List Ins} {k : Nat} (n : Int) (hk : k < l.length) (j : Nat) : ci (setN l k n) j = if j = k then { ci l k with n := n } else ci l j := by
  unfold setN ci
  rw [List.getD_eq_getElem?_getD, List.getElem?_set]
  by_cases h : j = k
  · subst h
    rw [if_pos rfl, if_pos hk, if_pos rfl]
    rfl
  · rw [if_neg (Ne.symm h), if_neg h, List.getD_eq_getElem?_getD]
theorem codC_setN {l : List Ins} {k : Nat} (n : Int) (hk : k < l.length) : codC (setN l k n) = (codC l).set (k * 3 + 1) (.int .i64 n) := by
  apply List.ext_getElem?
  intro j
  by_cases hj : j < l.length * 3
  · have hL : j / 3 < l.length := by omega
    obtain ⟨c0, c1, c2⟩ := codC_at (setN l k n) (j / 3) (by rw [setN_len]; exact hL)
    obtain ⟨d0, d1, d2⟩ := codC_at l (j / 3) hL
    rw [ci_setN n hk] at c0 c1 c2
    rw [List.getElem?_set, codC_len]
    by_cases hjk : j / 3 = k
    · rw [if_pos hjk] at c0 c1 c2
      subst hjk
      rcases (by omega : j % 3 = 0 ∨ j % 3 = 1 ∨ j % 3 = 2) with q | q | q
      · rw [if_neg (by omega), show j = j / 3 * 3 by omega, Nat.mul_div_cancel _ (by decide : 0 < 3), c0, d0]
      · rw [if_pos (by omega), if_pos (by omega), show j = j / 3 * 3 + 1 by omega, show (j / 3 * 3 + 1) / 3 = j / 3 by omega, c1]
      · rw [if_neg (by omega), show j = j / 3 * 3 + 2 by omega, show (j / 3 * 3 + 2) / 3 = j / 3 by omega, c2, d2]
    · rw [if_neg hjk] at c0 c1 c2
      rw [if_neg (by omega)]
      rcases (by omega : j % 3 = 0 ∨ j % 3 = 1 ∨ j % 3 = 2) with q | q | q
      · rw [show j = j / 3 * 3 by omega, c0, d0]
      · rw [show j = j / 3 * 3 + 1 by omega, c1, d1]
      · rw [show j = j / 3 * 3 + 2 by omega, c2, d2]
  · rw [List.getElem?_eq_none (by rw [codC_len, setN_len]; omega), List.getElem?_eq_none (by rw [List.length_set, codC_len]; omega)]
theorem fillL_at {s : Bs} (ok : Ok s) : ∀ i, i ≤ s.lat.length → ∀ k, k < s.code.length → ci (fillL s.marks (s.lat.take i) (s.code.map fixI)) k = if (∃ t, t ∈ s.lat.take i ∧ t.2 = k) then fixI (s.fin k) else fixI (ci s.code k)
  | 0, _, k, hk => by rw [List.take_zero, if_neg (by simp)]; exact ci_fix _ _
  | i + 1, hi, k, hk => by
    have hi' : i < s.lat.length := by omega
    rw [List.take_succ_eq_append_getElem hi', fillL_snoc]
    obtain ⟨a, b, _⟩ := ok.of _ (List.getElem_mem hi')
    rw [ci_setN _ (by rw [fillL_len, List.length_map]; exact a)]
    by_cases h : k = (s.lat[i]).2
    · have h2 : ∃ t, t ∈ s.lat.take i ++ [s.lat[i]] ∧ t.2 = k := ⟨_, List.mem_append_right _ (List.mem_singleton.2 rfl), h.symm⟩
      rw [if_pos h, if_pos h2, h, fin_to b]
      have := fillL_at ok i (by omega) _ a
      rw [this]
      split
      · rw [fin_to b]; rfl
      · rfl
    · rw [if_neg h, fillL_at ok i (by omega) k hk]
      have e : (∃ t, t ∈ s.lat.take i ++ [s.lat[i]] ∧ t.2 = k) ↔ ∃ t, t ∈ s.lat.take i ∧ t.2 = k := by
        constructor
        · rintro ⟨t, ht, q⟩
          rcases List.mem_append.1 ht with z | z
          · exact ⟨t, z, q⟩
          · rw [List.mem_singleton] at z
            subst z
            exact absurd q.symm h
        · rintro ⟨t, ht, q⟩
          exact ⟨t, List.mem_append_left _ ht, q⟩
      by_cases q : ∃ t, t ∈ s.lat.take i ∧ t.2 = k
      · rw [if_pos q, if_pos (e.2 q)]
      · rw [if_neg q, if_neg (fun z => q (e.1 z))]
theorem fillL_all {s : Bs} (ok : Ok s) : fillL s.marks s.lat (s.code.map fixI) = s.filled.map fixI := by
  refine ci_ext (by rw [fillL_len, List.length_map, List.length_map, filled_len]) fun k hk => ?_
  rw [fillL_len, List.length_map] at hk
  have := fillL_at ok s.lat.length (Nat.le_refl _) k hk
  rw [List.take_length] at this
  rw [this, ci_fix, filled_at hk]
  split
  · rfl
  · rename_i q
    cases hq : s.tos.getD k none with
    | none => rw [fin_no hq]
    | some l => exact absurd ⟨(l, k), ok.tq k hk l hq, rfl⟩ q
section
variable {w w' u w3 : World} {b : Nat} {s : Bs} {v : Bv} {F : List Nat}
theorem fill_enter (args : Array Value) (w : World) : (callFunc 135 args).run Tryz.prog w = .ok (.enter 135 args) w := enter_run Tryz.func135 (by kernel_rfl) (by kernel_rfl) args w
set_option maxRecDepth 100000 in
theorem fill_any {x y z bm g n c k : Nat} {l m : Int} {old : Value} (hx : w.cell? ⟨x, 0, none⟩ = some (.pointer (some ⟨b, 0, none⟩))) (hy : w.cell? ⟨y, 0, none⟩ = some (.int .i64 l)) (hz : w.cell? ⟨z, 0, none⟩ = some (.int .i64 k)) (h3 : w.cell? ⟨b, 3, none⟩ = some (.map (some bm)))
    {has : Bool} (hlk : ∀ u, Same w u → (Instr.lookup 178 (.map (some bm)) (.int .i64 l) true).run Tryz.prog u = .ok (.tuple #[.int .i64 m, .bool has]) u) (hk : k < n) (ho : w.cell? ⟨g, k * 3 + 1, none⟩ = some old) (hf : w.frozen? ⟨g, k * 3 + 1, none⟩ = false) :
    Calls Tryz.prog 135 #[.slice (some ⟨g, 0, none⟩) n c, .pointer (some ⟨x, 0, none⟩), .pointer (some ⟨y, 0, none⟩), .pointer (some ⟨z, 0, none⟩)] w fun e w' => e = .returned (.bool has) ∧ ∃ w0, Same w w0 ∧ w' = w0.setCell ⟨g, k * 3 + 1, none⟩ (.int .i64 m) := by
  have hlx := World.block_lt_of_cell? w _ hx
  have hly := World.block_lt_of_cell? w _ hy
  have hlz := World.block_lt_of_cell? w _ hz
  have hk' : (k : Int) < (n : Int) := by omega
  go_enter Tryz.func135, Tryz.ntmps135
  go_wp2
  have hl2 := hlk _ (Same.drew w)
  clear hlk
  refine wp_region_seq (fun u => u.cell? ⟨x, 0, none⟩ = some (.pointer (some ⟨b, 0, none⟩)) ∧ u.cell? ⟨y, 0, none⟩ = some (.int .i64 l) ∧ u.cell? ⟨b, 3, none⟩ = some (.map (some bm)) ∧ (Instr.lookup 178 (.map (some bm)) (.int .i64 l) true).run Tryz.prog u = .ok (.tuple #[.int .i64 m, .bool has]) u) ((0, true) :: (1, true) :: (2, true) :: (3, true) :: (4, true) :: (5, true) :: (6, true) :: (7, true) :: (8, true) :: (9, true) :: (10, true) :: []) follows (by kernel_rfl) (fun _ _ _ _ _ h => h) ⟨hx, hy, h3, hl2⟩ ?_
  (repeat ((first | (refine wpSeq_take (v := ?_) rfl (by rfl) (fun wq hSq => ?_) ?_; rotate_left; (focus ((try dsimp only at hSq); go_simp; try with_reducible rfl))) | refine wpSeq_skip rfl (by rfl) ?_); simp only [Act.put, List.setIfInBounds_toArray, List.set_cons_zero, List.set_cons_succ]))
  refine wpSeq_nil ?_
  go_wp2_with fail
  go_ret
  exact ⟨rfl, _, Same.drew _, rfl⟩
theorem take_all {r : Mk} {lat : List (Int × Nat)} (h : ∀ j, j < lat.length → hasM r (lat.getD j (0, 0)).1 = true) : (lat.all fun t => hasM r t.1) = true := by
  rw [List.all_eq_true]
  intro t ht
  obtain ⟨j, hj, e⟩ := List.getElem_of_mem ht
  have := h j hj
  rwa [List.getD_eq_getElem?_getD, List.getElem?_eq_getElem hj, Option.getD_some, e] at this
theorem take_no {r : Mk} {lat : List (Int × Nat)} {j : Nat} (hj : j < lat.length) (h : hasM r (lat.getD j (0, 0)).1 = false) : (lat.all fun t => hasM r t.1) = false := by
  cases q : lat.all fun t => hasM r t.1
  · rfl
  · rw [List.all_eq_true] at q
    have := q _ (List.getElem_mem hj)
    rw [List.getD_eq_getElem?_getD, List.getElem?_eq_getElem hj, Option.getD_some] at h
    rw [h] at this
    cases this
theorem RowW.put {E : TypeId} {sz : Nat} {g c n : Nat} {xs : List Value} (h : RowW E sz w (some ⟨g, 0, none⟩) c n xs) (j : Nat) (y : Value) : RowW E sz (w.setCell ⟨g, j, none⟩ y) (some ⟨g, 0, none⟩) c n (xs.set j y) := ⟨(h.own.stored j y).1⟩
set_option maxRecDepth 100000 in
set_option maxHeartbeats 1000000 in
theorem fillIn_any (h : Bld w b F s) {p : Option Addr} {c n : Nat} (hn : s.code.length = n) (hlim : n < lim) (hr : RowW 90 3 w p c n (codC (s.code.map fixI))) (hs : Sep F (fpR p)) : Calls Tryz.prog 137 #[.pointer (some ⟨b, 0, none⟩), .slice p n c] w fun e w' => e = .returned (.bool (s.lat.all fun t => hasM s.marks t.1)) ∧ Hid (∃ cl, cl.length = n ∧ RowW 90 3 w' p c n (codC cl) ∧ ((s.lat.all fun t => hasM s.marks t.1) = true → cl = s.filled.map fixI) ∧ Turn (fpR p) (fpR p) w w') := by
  have ok := h.ok
  have HB := Lib.hid h
  obtain ⟨v, h, rfl⟩ := h
  obtain ⟨hb, _, _, _, _, _, h5, _⟩ := h.cells
  have HV : Hid (∀ u, Turn (fpR p) (fpR p) w u → BAt u b s v) := fun u k => h.keep (k.kept hs h.blw)
  have hnl : s.lat.length ≤ n := hn ▸ ok.size
  have HOK := Lib.hid ok
  have HR := Lib.hid hr
  have HN := Lib.hid hn
  have HL : Hid (n < lim) := hlim
  obtain ⟨nl, hnl2⟩ : ∃ nl, s.lat.length = nl := ⟨_, rfl⟩
  rw [hnl2] at h5 hnl
  have HNL := Lib.hid hnl2
  have hnlI : (nl : Int) ≤ 9223372036854775807 := by unfold lim at hlim; omega
  clear h ok hr hs hn hlim hnl2
  go_enter Tryz.func137, Tryz.ntmps137
  go_wp2
  go_loopw [12] (fun vi wr => ∃ (i : Nat), vi = .int .i64 i ∧ i ≤ nl ∧ Hid (RowW 90 3 wr p c n (codC (fillL s.marks (s.lat.take i) (s.code.map fixI))) ∧ Turn (fpR p) (fpR p) w wr ∧ ∀ j, j < i → hasM s.marks (s.lat.getD j (0, 0)).1 = true)) (fun vi _ => nl - (intOf vi).toNat)
  case atStart => exact ⟨0, rfl, Nat.zero_le _, HR.out, Turn.refl _ _, fun j hj => absurd hj (Nat.not_lt_zero _)⟩
  case round =>
    obtain ⟨i, rfl, hi, HI⟩ := hrel
    by_cases hlt : i < nl
    · have hltI : (i : Int) < (nl : Int) := by omega
      have hv := HV.out _ HI.out.2.1
      obtain ⟨vs, l1, l2⟩ := hv.lat
      have hlti : i < s.lat.length := by rw [HNL.out]; exact hlt
      obtain ⟨u0, e1, x, y, z, rfl, m1, m2, m3, x1, y1, z1⟩ := l2 i hlti
      obtain ⟨gL, eL, hgL, hcL, _, cL, _⟩ := l1.at (by omega)
      have kL : wr.cell? ⟨gL, i, none⟩ = some (cloV x y z) := (cL i (by omega)).trans e1
      have et : s.lat.getD i (0, 0) ∈ s.lat := by
        rw [List.getD_eq_getElem?_getD, List.getElem?_eq_getElem hlti]
        exact List.getElem_mem hlti
      have etk : s.lat.take (i + 1) = s.lat.take i ++ [s.lat.getD i (0, 0)] := by
        rw [List.take_succ_eq_append_getElem hlti, List.getD_eq_getElem?_getD, List.getElem?_eq_getElem hlti]
        rfl
      obtain ⟨q1, q2, q3⟩ := HOK.out.of _ et
      rw [eL]
      have hmap := hv.map
      obtain ⟨hbr, _, _, _, k3, _, _, _⟩ := hv.cells
      have HH : Hid (hasM s.marks (s.lat.getD i (0, 0)).1 = false → (s.lat.all fun t => hasM s.marks t.1) = false) := take_no hlti
      have HQ : Hid (hasM s.marks (s.lat.getD i (0, 0)).1 = true → ∀ j, j < i + 1 → hasM s.marks (s.lat.getD j (0, 0)).1 = true) := fun q j hj => by
        by_cases e : j = i
        · rw [e]; exact q
        · exact HI.out.2.2 j (by omega)
      obtain ⟨l, hl⟩ : ∃ l, (s.lat.getD i (0, 0)).1 = l := ⟨_, rfl⟩
      obtain ⟨k, hk⟩ : ∃ k, (s.lat.getD i (0, 0)).2 = k := ⟨_, rfl⟩
      have eset := fillL_snoc s.marks (s.lat.take i) (s.lat.getD i (0, 0)) (s.code.map fixI)
      rw [hl, hk] at eset
      rw [hk] at q1 z1
      rw [hl] at q3 y1 HH HQ
      have hlen : (fillL s.marks (s.lat.take i) (s.code.map fixI)).length = n := by rw [fillL_len, List.length_map]; exact HN.out
      have hkn : k < n := by rw [← HN.out]; exact q1
      have hrow := HI.out.1
      obtain ⟨g, ep, hg, _, _, cg, fg⟩ := hrow.at (by omega)
      subst ep
      have HF := Lib.hid (fill_any (c := c) (n := n) (k := k) (old := ((codC (fillL s.marks (s.lat.take i) (s.code.map fixI))).getD (k * 3 + 1) (.int .i64 0))) ((cell_of_row _ _ 0 _ _ _ x1).trans rfl) ((cell_of_row _ _ 0 _ _ _ y1).trans rfl) ((cell_of_row _ _ 0 _ _ _ z1).trans rfl) k3 (fun u hu => (hmap.keep (by rw [hu.heap])).look q3) hkn (by rw [cg _ (by omega), List.getD_eq_getElem?_getD, List.getElem?_eq_getElem (by rw [codC_len, hlen]; omega)]; rfl) (fg _))
      have HS : Hid (∀ w0, Same wr w0 → RowW 90 3 (w0.setCell ⟨g, k * 3 + 1, none⟩ (.int .i64 (plN s.marks l : Nat))) (some ⟨g, 0, none⟩) c n (codC (fillL s.marks (s.lat.take (i + 1)) (s.code.map fixI))) ∧ Turn (fpR (some ⟨g, 0, none⟩)) (fpR (some ⟨g, 0, none⟩)) w (w0.setCell ⟨g, k * 3 + 1, none⟩ (.int .i64 (plN s.marks l : Nat)))) := fun w0 h0 => by
        refine ⟨?_, HI.out.2.1.trans ((h0.turn _).trans (turn_set g _ _ w0))⟩
        rw [etk, eset, codC_setN _ (by rw [hlen]; exact hkn)]
        exact (hrow.keep (h0.kept _)).put _ _
      unfold cloV at kL
      have hcall := fill_enter
      cases hh : hasM s.marks l
      · rw [hh] at HF
        have HE := Lib.hid (HH.out hh)
        have HL2 := Lib.hid hlen
        clear HH HQ hh hl hk eset hrow cg fg hmap hv l1 l2 cL e1 x1 y1 z1 q1 q2 q3 etk et m1 m2 m3 hlen HI HV HB HOK HR HN hlti k3 hbr hkn hnl
        go_wp2_with (refine HF.out.mono ?_; rintro e w2 ⟨rfl, w0, h0, hw2⟩; have HZ := Lib.hid (HS.out w0 h0); rw [← hw2] at HZ; clear hw2 h0 HS HF)
        go_ret
        exact ⟨by rw [HE.out]; rfl, fillL s.marks (s.lat.take (i + 1)) (s.code.map fixI), by rw [fillL_len] at *; exact HL2.out, HZ.out.1, (fun q => by rw [HE.out] at q; cases q), HZ.out.2⟩
      · rw [hh] at HF
        have HE := Lib.hid (HQ.out hh)
        clear HH HQ hh hl hk eset hrow cg fg hmap hv l1 l2 cL e1 x1 y1 z1 q1 q2 q3 etk et m1 m2 m3 hlen HI HV HB HOK HR HN hlti k3 hbr hkn hnl
        go_wp2_with (refine HF.out.mono ?_; rintro e w2 ⟨rfl, w0, h0, hw2⟩; have HZ := Lib.hid (HS.out w0 h0); rw [← hw2] at HZ; clear hw2 h0 HS HF)
        exact ⟨⟨i + 1, by first | rfl | (congr 1), by omega, HZ.out.1, HZ.out.2, HE.out⟩, by simp [intOf]; omega⟩
    · have hltI : ¬ (i : Int) < (nl : Int) := by omega
      obtain rfl : i = nl := by omega
      have HE : Hid ((s.lat.all fun t => hasM s.marks t.1) = true) := take_all fun j hj => HI.out.2.2 j (by rw [HNL.out] at hj; exact hj)
      have HZ : Hid (RowW 90 3 wr p c n (codC (s.filled.map fixI)) ∧ Turn (fpR p) (fpR p) w wr) := by
        have := HI.out.1
        rw [← HNL.out, List.take_length, fillL_all HOK.out] at this
        exact ⟨this, HI.out.2.1⟩
      clear HI HV
      go_wp2
      go_ret
      exact ⟨by rw [HE.out]; rfl, _, by rw [List.length_map, filled_len]; exact HN.out, HZ.out.1, fun _ => rfl, HZ.out.2⟩
end
end Go.Proofs.YtaliehikdidiaaaGreatDoor.As
namespace Go.Proofs.YtaliehikdidiaaaGreatDoor.As
open Go.ChangeShapes Go.WideShapes Go.ChangeAt Go.RowKit Num Go.Maps
attribute [local go_sem] run_store_float frombits_run bits_run
section
variable {w w' u w3 : World} {b : Nat} {s : Bs} {v : Bv} {F : List Nat}
theorem cloneI_nil (w : World) : Calls Tryz.prog 89 #[.slice none 0 0] w fun e w' => e = .returned (.slice none 0 0) ∧ w' = w := by
  have hq := fun w => Lib.run_eql_slice_nil (P := Tryz.prog) w 24 90 none 0 0 0 0 Tryz.underlying24
  go_enter Tryz.func89, Tryz.ntmps89
  go_wp2
  go_ret
  exact ⟨rfl, rfl⟩
set_option maxRecDepth 100000 in
theorem cloneI_some {g c n : Nat} {xs : List Value} (hn : xs.length = n * 3) (hx : ∀ j y, xs[j]? = some y → w.cell? ((⟨g, 0, none⟩ : Addr).add j) = some y) (h1 : ∀ y ∈ xs, y.oneCell' = true) (hz : n ≤ 5864062014805) : Calls Tryz.prog 89 #[.slice (some ⟨g, 0, none⟩) n c] w fun e w' => ∃ p' c', e = .returned (.slice p' n c') ∧ w'.ownsRow w.heap.size 90 3 (.slice p' n c') n xs ∧ Below w.heap.size w w' := by
  have hq := fun w c => Lib.run_eql_slice_nil (P := Tryz.prog) w 24 90 (some ⟨g, 0, none⟩) n c 0 0 Tryz.underlying24
  have HX : Hid (∀ j y, xs[j]? = some y → (w.alloc (.cells #[] 90)).cell? ((⟨g, 0, none⟩ : Addr).add j) = some y) := fun j y hj => ((bl1 w _).cell (World.block_lt_of_cell? w _ (hx j y hj))).trans (hx j y hj)
  have H1 := Lib.hid (And.intro h1 (And.intro hn hz))
  have HO : Hid ((w.alloc (.cells #[] 90)).ownsRow w.heap.size 90 3 (.slice (some ⟨w.heap.size, 0, none⟩) 0 0) 0 []) := ⟨rfl, .inr ⟨w.heap.size, 0, #[], rfl, Nat.le_refl _, heap_alloc_new _ _, Nat.le_refl _, Nat.zero_le _, by simp, by simp⟩⟩
  obtain ⟨i0, hi, hz0, hz1, hz2⟩ := info_parts insInfo
  have HZI := Lib.hid (And.intro hi (And.intro hz0 (And.intro hz1 hz2)))
  clear hi hz0 hz1 hz2 hx h1 hz hn
  go_enter Tryz.func89, Tryz.ntmps89
  go_wp2_with (at_builtin; refine wpList_append_own_at _ rfl _ _ 24 rfl w.heap.size 90 i0 _ 3 24 Tryz.underlying24 HZI.out.1 HZI.out.2.1 HZI.out.2.2.1 HZI.out.2.2.2 rfl (by decide) _ 0 [] rfl HO.out ⟨g, 0, none⟩ n _ xs rfl H1.out.2.1 HX.out H1.out.1 (by have := H1.out.2.2; unfold maxLen; omega) (by have := H1.out.2.2; omega) (by simp) ?_; intro v w3 hown hgrow hnil hloc; have HS := Lib.hid (And.intro hown hgrow); clear hown hgrow hnil hloc)
  have ho3 := HS.out.1
  rw [List.nil_append, Nat.zero_add] at ho3
  obtain ⟨p', c', hv⟩ : ∃ p' c', v = .slice p' n c' := by
    rcases ho3.2 with ⟨rfl, h0⟩ | ⟨g, cap, cur, rfl, _⟩
    · exact ⟨none, 0, by rw [h0]⟩
    · exact ⟨_, cap, rfl⟩
  subst hv
  have hb3 : Below w.heap.size w w3 := (bl1 w _).grown HS.out.2 (by simp) (fun j hj => by
    have := hj
    simp [Act.eval, Value.ownBlock] at this
    omega)
  have HF := Lib.hid (And.intro ho3 hb3)
  clear ho3 hb3 HS H1
  go_wp2
  go_ret
  exact ⟨_, _, rfl, HF.out.1, HF.out.2⟩
theorem clone_any {p : Option Addr} {c n : Nat} {l : List Ins} (h : RowW 90 3 w p c n (codC l)) (hn : n < lim) : Calls Tryz.prog 89 #[.slice p n c] w fun e w' => ∃ p' c', e = .returned (.slice p' n c') ∧ Hid (RowW 90 3 w' p' c' n (codC l) ∧ Abv w.heap.size (fpR p') ∧ Below w.heap.size w w') := by
  unfold lim at hn
  rcases h.own.2 with ⟨q, h0⟩ | ⟨g, cap, cur, hv, _, hg, hc, hm, hs, ht⟩
  · cases q
    refine (cloneI_nil w).mono ?_
    rintro e w' ⟨rfl, rfl⟩
    exact ⟨none, 0, rfl, h, fun k hk => by simp [fpR] at hk, Below.refl _ _⟩
  · cases hv
    refine (cloneI_some h.len (fun j y hj => ?_) (codC_one l) (by omega)).mono ?_
    · rw [Go.WideShapes.add_plain, cell_of_row _ _ _ _ _ _ hg, Nat.zero_add]
      have h1 : cur.toList[j]? = (cur.toList.take (n * 3))[j]? := by
        have := (List.getElem?_eq_some_iff.1 hj).1
        rw [h.len] at this
        rw [List.getElem?_take, if_pos this]
      rw [ht, hj] at h1
      simpa using h1
    · rintro e w' ⟨p', c', rfl, k1, k2⟩
      exact ⟨p', c', rfl, ⟨⟨k1.1, k1.2.imp id (fun ⟨g, cap, cur, a1, _, a3⟩ => ⟨g, cap, cur, a1, Nat.zero_le _, a3⟩)⟩⟩, fun k hk => (k1.lt k (own_fpR.1 hk)).1, k2⟩
theorem prog_back {fn : Func} {p r : Tmp} (h : fn.results = #[.cell p 26, .tmp r]) {Q : Ending → World → Prop} {a : Act} {w : World} (g : Nat) (t : Int) (po : Option Addr) (n c : Nat) (e : Int) (hp : a.tmps.getD p undef = .pointer (some ⟨g, 0, none⟩)) (hu : a.tmps.getD r undef = .int .i64 e)
    (hg : w.heap[g]? = some (.cells #[.int .i64 t, .slice po n c] 26 (0, 0))) (hd : a.defers = []) (hR : Q (.returned (.tuple #[.agg #[.int .i64 t, .slice po n c], .int .i64 e])) w) : bodyPost Tryz.prog fn Q .ret a w := by
  refine bodyPost_ret (v := .tuple #[.agg #[.int .i64 t, .slice po n c], .int .i64 e]) ?_ hd hR
  rw [results_cell_tmp h, hp, hu]
  have hl := run_loadVar_row (P := Tryz.prog) w g 26 26 #[.int .i64 t, .slice po n c] (0, 0) _ hg Tryz.underlying26 rfl (by kernel_rfl)
  simp [asAddr, hl, Result.andThen]
structure PrC (w wc : World) (b : Nat) (F : List Nat) (s : Bs) (r q : Nat) (p : Option Addr) (c n : Nat) (cl : List Ins) : Prop where
  bel : Below w.heap.size w wc
  bld : Bld wc b F s
  row : RowW 90 3 wc p c n (codC cl)
  abv : Abv w.heap.size (fpR p)
  res : wc.heap[r]? = some (.cells #[.int .i64 0, .slice none 0 0] 26 (0, 0))
  box : wc.heap[q]? = some (.cells #[.int .i64 s.tag, .slice p n c] 26 (0, 0))
  ne : r ≠ q
  lr : w.heap.size ≤ r
  lq : w.heap.size ≤ q
theorem PrC.on {r q : Nat} {p : Option Addr} {c n : Nat} {cl : List Ins} {wc wd : World} (h : PrC w wc b F s r q p c n cl) (k : Below wc.heap.size wc wd) : PrC w wd b F s r q p c n cl :=
  ⟨h.bel.trans (k.mono h.bel.size), h.bld.on k, h.row.keep (kept_below k h.row.blw), h.abv, (k.block _ (lt_of_block h.res)).trans h.res, (k.block _ (lt_of_block h.box)).trans h.box, h.ne, h.lr, h.lq⟩
theorem PrC.fill {r q : Nat} {p : Option Addr} {c n : Nat} {cl cl' : List Ins} {wc wd : World} (h : PrC w wc b F s r q p c n cl) (hb : Blw w F) (k : Turn (fpR p) (fpR p) wc wd) (hr : RowW 90 3 wd p c n (codC cl')) : PrC w wd b F s r q p c n cl' := by
  have nr : ∀ {x : Nat} {a : Array Value}, wc.heap[x]? = some (.cells a 26 (0, 0)) → wd.heap[x]? = some (.cells a 26 (0, 0)) := fun {x a} e => (k.block _ (lt_of_block e) fun z => by obtain ⟨arr, e2⟩ := h.row.blk z; exact ne_ty e e2 (by decide) rfl).trans e
  exact ⟨h.bel.trans (k.below h.abv h.bel.size), h.bld.turn k (fun x hx z => absurd (hb x hx) (Nat.not_lt.2 (h.abv x z))), hr, h.abv, nr h.res, nr h.box, h.ne, h.lr, h.lq⟩
def PrE (w w' : World) (s : Bs) (t : Int) (p : Option Addr) (n c : Nat) : Prop := Below w.heap.size w w' ∧ Abv w.heap.size (fpR p) ∧ ((s.ans = 0 ∧ t = s.tag ∧ n = s.code.length ∧ RowW 90 3 w' p c n (codC (s.filled.map fixI))) ∨ (s.ans ≠ 0 ∧ t = 0 ∧ p = none ∧ n = 0 ∧ c = 0))
set_option maxRecDepth 100000 in
set_option maxHeartbeats 1000000 in
theorem prog_any (h : Bld w b F s) (hT : Shaped5 w) (hl : s.code.length < lim) (hwf : ∀ l, hasM s.marks l = true → Wf l) : Calls Tryz.prog 117 #[.pointer (some ⟨b, 0, none⟩)] w fun e w' => ∃ t p n c, e = .returned (.tuple #[.agg #[.int .i64 t, .slice p n c], .int .i64 s.ans]) ∧ Hid (PrE w w' s t p n c) := by
  have ok := h.ok
  have HB := Lib.hid h
  have HT := Lib.hid hT
  have HL := Lib.hid hl
  have HBW := Lib.hid h.blw
  have HMK : Hid (∀ u, Bld u b F s → Calls Tryz.prog 136 #[.pointer (some ⟨b, 0, none⟩)] u fun e w' => e = .returned (.bool (okM s.many s.marks)) ∧ Below u.heap.size u w') := fun u hu => marks_any hu hwf
  obtain ⟨v, h, rfl⟩ := h
  obtain ⟨hb, h0, h1, _⟩ := h.cells
  have HCL : Hid (∀ u, Below w.heap.size w u → Calls Tryz.prog 89 #[.slice v.pi s.code.length v.ci] u fun e w' => ∃ p' c', e = .returned (.slice p' s.code.length c') ∧ Hid (RowW 90 3 w' p' c' s.code.length (codC (s.code.map fixI)) ∧ Abv u.heap.size (fpR p') ∧ Below u.heap.size u w')) := fun u hu => clone_any (h.ins.keep (kept_below hu h.ins.blw)) hl
  obtain ⟨n, hn⟩ : ∃ n, s.code.length = n := ⟨_, rfl⟩
  have HN := Lib.hid hn
  rw [hn] at HCL h1
  clear h hT hl hwf hn
  go_enter Tryz.func117, Tryz.ntmps117
  have HA : Hid (Below w.heap.size w (w.alloc (.cells #[.int .i64 0, .slice none 0 0] 26)).drew ∧ b < (w.alloc (.cells #[.int .i64 0, .slice none 0 0] 26)).drew.heap.size) := ⟨(bl1 w _).trans ((Same.drew _).below _), by show b < (w.alloc _).heap.size; simp; omega⟩
  have HCE : Hid (∀ u u3, b < u.heap.size → u.cell? ⟨b, 0, none⟩ = some (.int .i64 s.tag) → u.cell? ⟨b, 1, none⟩ = some (.slice v.pi n v.ci) → Below u.heap.size u u3 → u3.cell? ⟨b, 0, none⟩ = some (.int .i64 s.tag) ∧ u3.cell? ⟨b, 1, none⟩ = some (.slice v.pi n v.ci)) := fun u u3 hb c0 c1 k => ⟨(k.cell (p := ⟨b, 0, none⟩) hb).trans c0, (k.cell (p := ⟨b, 1, none⟩) hb).trans c1⟩
  go_upto_region 1 with fail
  obtain ⟨w1, hw1⟩ : ∃ w1, w1 = w.alloc (.cells #[.int .i64 0, .slice none 0 0] 26) := ⟨_, rfl⟩
  have g0 : w1.cell? ⟨b, 0, none⟩ = some (.int .i64 s.tag) := by rw [hw1]; exact (World.cell?_alloc_old _ _ _ (Nat.ne_of_lt hb)).trans h0
  have g1 : w1.cell? ⟨b, 1, none⟩ = some (.slice v.pi n v.ci) := by rw [hw1]; exact (World.cell?_alloc_old _ _ _ (Nat.ne_of_lt hb)).trans h1
  have HR1 : Hid (w1.heap[w.heap.size]? = some (.cells #[.int .i64 0, .slice none 0 0] 26 (0, 0)) ∧ w1.heap.size = w.heap.size + 1) := ⟨by rw [hw1]; exact heap_alloc_new _ _, by rw [hw1]; simp⟩
  rw [← hw1] at HA ⊢
  clear hw1
  have gb : b < w1.heap.size := HA.out.2
  have gn := Nat.ne_of_lt gb
  have gn' := gn.symm
  go_cut [4] (fun x wc => ∃ q p c, x = .pointer (some ⟨q, 0, none⟩) ∧ Hid (PrC w wc b (fpB b v) s w.heap.size q p c n (s.code.map fixI)))
  case first =>
    have HG1 : Hid (Below w.heap.size w (w1.drew.alloc (.cells #[.int .i64 0, .slice none 0 0] 26))) := HA.out.1.alloc (by show _ ≤ w1.heap.size; rw [HR1.out.2]; omega) _
    go_region_held (fun u => u.cell? ⟨b, 0, none⟩ = some (.int .i64 s.tag) ∧ u.cell? ⟨b, 1, none⟩ = some (.slice v.pi n v.ci)) (go_keep) (first
      | (go_at_call 89; refine (HCL.out (w1.drew.alloc (.cells #[.int .i64 0, .slice none 0 0] 26)) HG1.out).mono ?_; rintro e u3 ⟨p', c', rfl, q⟩; obtain ⟨y0, y1⟩ := HCE.out (w1.drew.alloc (.cells #[.int .i64 0, .slice none 0 0] 26)) u3 (by simp; omega) ((World.cell?_alloc_old w1.drew _ _ (Nat.ne_of_lt gb)).trans g0) ((World.cell?_alloc_old w1.drew _ _ (Nat.ne_of_lt gb)).trans g1) q.out.2.2; have z := (q.out.2.2.block w1.heap.size (by simp)).trans (heap_alloc_new w1.drew _); obtain ⟨z0, z1, zl⟩ := cells2_of z; have zf0 := frozen_of_row _ _ 0 _ _ z; have zf1 := frozen_of_row _ _ 1 _ _ z; have KB := Lib.hid (And.intro q.out z); clear z q)
      | (go_at_call 89; refine (HCL.out w1.drew HA.out.1).mono ?_; rintro e u3 ⟨p', c', rfl, q⟩; obtain ⟨y0, y1⟩ := HCE.out w1.drew u3 gb g0 g1 q.out.2.2; have yb : b < u3.heap.size := Nat.lt_of_lt_of_le gb q.out.2.2.size; have yn := Nat.ne_of_lt yb; have yn' := yn.symm; have KA := Lib.hid q.out; clear q))
    all_goals go_wp2_with fail
    all_goals go_meet
    · refine ⟨_, p', c', rfl, ?_⟩
      have k := bl1 u3 (.cells #[.int .i64 s.tag, .slice p' n c'] 26)
      have hAS := HA.out.1.size
      have e3 : w1.heap.size ≤ u3.heap.size := KA.out.2.2.size
      have b3 : Below w.heap.size w u3 := HA.out.1.trans (KA.out.2.2.mono hAS)
      exact PrC.mk (b3.trans (k.mono b3.size)) (HB.out.on (b3.trans (k.mono b3.size))) (KA.out.1.keep (kept_below k KA.out.1.blw)) (KA.out.2.1.mono hAS) ((k.block _ (by have := HR1.out.2; omega)).trans ((KA.out.2.2.block _ (by show _ < w1.heap.size; have := HR1.out.2; omega)).trans HR1.out.1)) (heap_alloc_new _ _) (by have := HR1.out.2; omega) (Nat.le_refl _) b3.size
    · refine ⟨_, p', c', rfl, ?_⟩
      have t4 : Turn [w1.heap.size] [w1.heap.size] u3 ((u3.setCell ⟨w1.heap.size, 0, none⟩ (.int .i64 s.tag)).setCell ⟨w1.heap.size, 1, none⟩ (.slice p' n c')) := (turn_set w1.heap.size 0 _ u3).trans (turn_set w1.heap.size 1 _ _)
      have hAS := HA.out.1.size
      have hBS := HG1.out.size
      have e3 : w1.heap.size + 1 ≤ u3.heap.size := by have := KB.out.1.2.2.size; simp at this; exact this
      have b3 : Below w.heap.size w u3 := HG1.out.trans (KB.out.1.2.2.mono hBS)
      have b4 : Below w.heap.size w ((u3.setCell ⟨w1.heap.size, 0, none⟩ (.int .i64 s.tag)).setCell ⟨w1.heap.size, 1, none⟩ (.slice p' n c')) := b3.trans (t4.below (fun k hk => by simp at hk; have := HR1.out.2; omega) b3.size)
      have e1 : ((w1.drew.alloc (.cells #[.int .i64 0, .slice none 0 0] 26)).heap[w.heap.size]? = some (.cells #[.int .i64 0, .slice none 0 0] 26 (0, 0))) := (Below.heap_alloc _ _ _ (by show _ < w1.heap.size; have := HR1.out.2; omega)).trans HR1.out.1
      refine PrC.mk b4 (HB.out.on b4) (KB.out.1.1.keep (t4.kept (fun k hk z => ?_) KB.out.1.1.blw)) (KB.out.1.2.1.mono hBS) ((t4.block _ (by have := HR1.out.2; omega) (by simp; have := HR1.out.2; omega)).trans ((KB.out.1.2.2.block _ (by simp; have := HR1.out.2; omega)).trans e1)) ?_ (by have := HR1.out.2; omega) (Nat.le_refl _) (by have := HR1.out.2; omega)
      · have := KB.out.1.2.1 k hk
        simp at this z
        omega
      · exact (heap_setCell_same _ _ 1 _ _ _ (heap_setCell_same _ _ 0 _ _ _ KB.out.2)).trans rfl
  case rest =>
    obtain ⟨q, p, c, rfl, HK⟩ := hcut
    clear HA HCE HR1 HCL g0 g1 gb gn gn' h0 h1
    have HC2 : Hid (∀ u cl, PrC w u b (fpB b v) s w.heap.size q p c n cl → (u.cell? ⟨q, 0, none⟩ = some (.int .i64 s.tag) ∧ u.cell? ⟨q, 1, none⟩ = some (.slice p n c) ∧ q < u.heap.size) ∧ u.cell? ⟨w.heap.size, 0, none⟩ = some (.int .i64 0) ∧ u.cell? ⟨w.heap.size, 1, none⟩ = some (.slice none 0 0) ∧ w.heap.size < u.heap.size ∧ (∀ j, u.frozen? ⟨w.heap.size, j, none⟩ = false) ∧ w.heap.size ≠ q ∧ q ≠ w.heap.size) := fun u cl k => ⟨cells2_of k.box, (cells2_of k.res).1, (cells2_of k.res).2.1, (cells2_of k.res).2.2, fun j => frozen_of_row _ _ _ _ _ k.res, k.ne, k.ne.symm⟩
    have HEND : Hid (∀ u (cl : List Ins) t x y, PrC w u b (fpB b v) s w.heap.size q p c n cl → Below w.heap.size w ((u.setCell ⟨w.heap.size, 0, none⟩ t).setCell ⟨w.heap.size, 1, none⟩ x) ∧ ((u.setCell ⟨w.heap.size, 0, none⟩ t).setCell ⟨w.heap.size, 1, none⟩ x).heap[w.heap.size]? = some (.cells #[t, x] 26 (0, 0)) ∧ (y = cl → RowW 90 3 ((u.setCell ⟨w.heap.size, 0, none⟩ t).setCell ⟨w.heap.size, 1, none⟩ x) p c n (codC y))) := fun u cl t x y k => by
      have t4 := (turn_set w.heap.size 0 t u).trans (turn_set w.heap.size 1 x _)
      refine ⟨k.bel.trans (t4.below (fun i hi => by simp at hi; omega) k.bel.size), (heap_setCell_same _ _ 1 _ _ _ (heap_setCell_same _ _ 0 _ _ _ k.res)).trans rfl, ?_⟩
      rintro rfl
      refine k.row.keep (t4.kept (fun i hi z => ?_) k.row.blw)
      obtain ⟨arr, e⟩ := k.row.blk hi
      simp at z
      subst z
      exact ne_ty e k.res (by decide) rfl
    obtain ⟨⟨c0, c1, cq⟩, r0, r1, lr, fr, ne1, ne2⟩ := HC2.out _ _ HK.out
    have fr0 := fr 0
    have fr1 := fr 1
    clear fr
    cases hm : okM s.many s.marks
    · have HE : Hid (s.ans = 190) := by
        show s.ans = 190
        unfold Bs.ans Bs.ok
        rw [hm]
        rfl
      rw [hm] at HMK
      clear hm
      go_wp2_with (go_at_call 136; refine (HMK.out _ HK.out.bld).mono ?_; rintro e u2 ⟨rfl, hb2⟩; have K2 := Lib.hid (HK.out.on hb2); obtain ⟨⟨c0, c1, cq⟩, r0, r1, lr, fr, ne1, ne2⟩ := HC2.out _ _ K2.out; have fr0 := fr 0; have fr1 := fr 1; clear fr hb2)
      exact prog_back rfl w.heap.size 0 none 0 0 190 rfl rfl (HEND.out _ _ _ _ [] K2.out).2.1 rfl ⟨0, none, 0, 0, by rw [HE.out], (HEND.out _ _ _ _ [] K2.out).1, fun k hk => by simp [fpR] at hk, .inr ⟨by rw [HE.out]; decide, rfl, rfl, rfl, rfl⟩⟩
    · have HFL : Hid (∀ u, PrC w u b (fpB b v) s w.heap.size q p c n (s.code.map fixI) → Calls Tryz.prog 137 #[.pointer (some ⟨b, 0, none⟩), .slice p n c] u fun e w' => e = .returned (.bool (s.lat.all fun t => hasM s.marks t.1)) ∧ Hid (∃ cl, ((s.lat.all fun t => hasM s.marks t.1) = true → cl = s.filled.map fixI) ∧ PrC w w' b (fpB b v) s w.heap.size q p c n cl)) := fun u k => by
        refine (fillIn_any k.bld HN.out (by rw [← HN.out]; exact HL.out) k.row (fun x hx z => absurd (HBW.out x hx) (Nat.not_lt.2 (k.abv x z)))).mono ?_
        rintro e w' ⟨rfl, z⟩
        obtain ⟨cl, _, z2, z3, z4⟩ := z.out
        exact ⟨rfl, cl, z3, k.fill HBW.out z4 z2⟩
      have HALL : Hid ((s.lat.all fun t => hasM s.marks t.1) = s.ok) := by
        show _ = s.ok
        unfold Bs.ok
        rw [hm, Bool.true_and, Bool.eq_iff_iff, all_range, List.all_eq_true]
        exact (ok_lat ok).symm
      rw [HALL.out] at HFL
      rw [hm] at HMK
      clear hm HALL
      cases hk : s.ok
      · have HE : Hid (s.ans = 190) := by
          show s.ans = 190
          unfold Bs.ans
          rw [hk]
          rfl
        rw [hk] at HFL
        clear hk
        go_wp2_with (first
          | (go_at_call 136; refine (HMK.out _ HK.out.bld).mono ?_; rintro e u2 ⟨rfl, hb2⟩; have K2 := Lib.hid (HK.out.on hb2); obtain ⟨⟨c0, c1, cq⟩, r0, r1, lr, fr, ne1, ne2⟩ := HC2.out _ _ K2.out; have fr0 := fr 0; have fr1 := fr 1; clear fr hb2 HMK)
          | (go_at_call 137; refine (HFL.out _ K2.out).mono ?_; rintro e u3 ⟨rfl, z⟩; obtain ⟨cl, _, K3⟩ := z.out; have K3 := Lib.hid K3; obtain ⟨⟨c0, c1, cq⟩, r0, r1, lr, fr, ne1, ne2⟩ := HC2.out _ _ K3.out; have fr0 := fr 0; have fr1 := fr 1; clear fr z HFL))
        exact prog_back rfl w.heap.size 0 none 0 0 190 rfl rfl (HEND.out _ _ _ _ [] K3.out).2.1 rfl ⟨0, none, 0, 0, by rw [HE.out], (HEND.out _ _ _ _ [] K3.out).1, fun k hk => by simp [fpR] at hk, .inr ⟨by rw [HE.out]; decide, rfl, rfl, rfl, rfl⟩⟩
      · have HE : Hid (s.ans = checkE s.tag s.filled) := by
          show s.ans = _
          unfold Bs.ans
          rw [hk]
          rfl
        have HCK : Hid (∀ u, PrC w u b (fpB b v) s w.heap.size q p c n (s.filled.map fixI) → Calls Tryz.prog 14 #[.agg #[.int .i64 s.tag, .slice p n c]] u fun e w' => e = .returned (.int .i64 (checkE s.tag s.filled)) ∧ Below u.heap.size u w') := fun u k => by
          have hln : (s.filled.map fixI).length = n := by rw [List.length_map, filled_len]; exact HN.out
          have := check_any s.tag c (HT.out.on k.bel) (RowW.code hln k.row) (by rw [hln, ← HN.out]; have := HL.out; unfold lim at this; omega)
          rw [hln, checkE_fix] at this
          exact this
        rw [hk] at HFL
        clear hk
        rcases checkE_ways s.tag s.filled with h5 | h5
        · rw [h5] at HE HCK
          clear h5
          go_wp2_with (first
            | (go_at_call 136; refine (HMK.out _ HK.out.bld).mono ?_; rintro e u2 ⟨rfl, hb2⟩; have K2 := Lib.hid (HK.out.on hb2); obtain ⟨⟨c0, c1, cq⟩, r0, r1, lr, fr, ne1, ne2⟩ := HC2.out _ _ K2.out; have fr0 := fr 0; have fr1 := fr 1; clear fr hb2 HMK)
            | (go_at_call 137; refine (HFL.out _ K2.out).mono ?_; rintro e u3 ⟨rfl, z⟩; obtain ⟨cl, zz, K3⟩ := z.out; obtain rfl := zz (by trivial); have K3 := Lib.hid K3; obtain ⟨⟨c0, c1, cq⟩, r0, r1, lr, fr, ne1, ne2⟩ := HC2.out _ _ K3.out; have fr0 := fr 0; have fr1 := fr 1; clear fr z HFL)
            | (go_at_call 14; refine (HCK.out _ K3.out).mono ?_; rintro e u4 ⟨rfl, hb4⟩; have K4 := Lib.hid (K3.out.on hb4); obtain ⟨⟨c0, c1, cq⟩, r0, r1, lr, fr, ne1, ne2⟩ := HC2.out _ _ K4.out; have fr0 := fr 0; have fr1 := fr 1; clear fr hb4 HCK))
          exact prog_back rfl w.heap.size s.tag p n c 0 rfl rfl (HEND.out _ _ _ _ [] K4.out).2.1 rfl ⟨s.tag, p, n, c, by rw [HE.out], (HEND.out _ _ _ _ [] K4.out).1, K4.out.abv, .inl ⟨HE.out, rfl, HN.out.symm, (HEND.out _ _ _ _ _ K4.out).2.2 rfl⟩⟩
        · rw [h5] at HE HCK
          clear h5
          go_wp2_with (first
            | (go_at_call 136; refine (HMK.out _ HK.out.bld).mono ?_; rintro e u2 ⟨rfl, hb2⟩; have K2 := Lib.hid (HK.out.on hb2); obtain ⟨⟨c0, c1, cq⟩, r0, r1, lr, fr, ne1, ne2⟩ := HC2.out _ _ K2.out; have fr0 := fr 0; have fr1 := fr 1; clear fr hb2 HMK)
            | (go_at_call 137; refine (HFL.out _ K2.out).mono ?_; rintro e u3 ⟨rfl, z⟩; obtain ⟨cl, zz, K3⟩ := z.out; obtain rfl := zz (by trivial); have K3 := Lib.hid K3; obtain ⟨⟨c0, c1, cq⟩, r0, r1, lr, fr, ne1, ne2⟩ := HC2.out _ _ K3.out; have fr0 := fr 0; have fr1 := fr 1; clear fr z HFL)
            | (go_at_call 14; refine (HCK.out _ K3.out).mono ?_; rintro e u4 ⟨rfl, hb4⟩; have K4 := Lib.hid (K3.out.on hb4); obtain ⟨⟨c0, c1, cq⟩, r0, r1, lr, fr, ne1, ne2⟩ := HC2.out _ _ K4.out; have fr0 := fr 0; have fr1 := fr 1; clear fr hb4 HCK))
          exact prog_back rfl w.heap.size 0 none 0 0 50 rfl rfl (HEND.out _ _ _ _ [] K4.out).2.1 rfl ⟨0, none, 0, 0, by rw [HE.out], (HEND.out _ _ _ _ [] K4.out).1, fun k hk => by simp [fpR] at hk, .inr ⟨by rw [HE.out]; decide, rfl, rfl, rfl, rfl⟩⟩
end
end Go.Proofs.YtaliehikdidiaaaGreatDoor.As
namespace Go.Proofs.YtaliehikdidiaaaGreatDoor.As
open Go.ChangeShapes Go.WideShapes Go.ChangeAt Go.RowKit Num Go.Maps
attribute [local go_sem] run_store_float frombits_run bits_run
def On (w u : World) (b : Nat) (s : Bs) : Prop := ∃ F, Bld u b F s ∧ Abv w.heap.size F ∧ Below w.heap.size w u
section
variable {w u u' : World} {b : Nat} {s s' : Bs}
theorem on_turn {F F' : List Nat} (a : Abv w.heap.size F) (k : Below w.heap.size w u) (h' : Bld u' b F' s') (t : Turn F F' u u') : On w u' b s' := ⟨F', h', a.turn k.size t, k.trans (t.below a k.size)⟩
theorem On.label (h : On w u b s) : Calls Tryz.prog 116 #[.pointer (some ⟨b, 0, none⟩)] u fun e w' => e = .returned (.int .i64 s.labV) ∧ Hid (On w w' b s.lab) := by
  obtain ⟨F, h1, h2, h3⟩ := h
  refine (label_any h1).mono ?_
  rintro e w' ⟨F', rfl, q, t⟩
  exact ⟨rfl, on_turn h2 h3 q t⟩
theorem On.mark (h : On w u b s) {l : Int} (hw : Wf l) (hn : s.marks.length < maxLen) : Calls Tryz.prog 114 #[.pointer (some ⟨b, 0, none⟩), .int .i64 l] u fun e w' => e = .returned (.tuple #[]) ∧ Hid (On w w' b (s.mark l)) := by
  obtain ⟨F, h1, h2, h3⟩ := h
  refine (mark_any h1 hw hn).mono ?_
  rintro e w' ⟨F', rfl, q, t⟩
  exact ⟨rfl, on_turn h2 h3 q t⟩
theorem On.add (h : On w u b s) (op n : Int) (hl : s.code.length < lim) : Calls Tryz.prog 112 #[.pointer (some ⟨b, 0, none⟩), .int .i64 op, .int .i64 n] u fun e w' => e = .returned (.tuple #[]) ∧ Hid (On w w' b (s.add ⟨op, n, 0⟩ none)) := by
  obtain ⟨F, h1, h2, h3⟩ := h
  refine (add_any h1 op n hl).mono ?_
  rintro e w' ⟨F', rfl, q, t⟩
  exact ⟨rfl, on_turn h2 h3 q t⟩
theorem On.push (h : On w u b s) (x : Nat) (hl : s.code.length < lim) : Calls Tryz.prog 108 #[.pointer (some ⟨b, 0, none⟩), .float .f64 x] u fun e w' => e = .returned (.tuple #[]) ∧ Hid (On w w' b (s.add ⟨1, 0, x⟩ none)) := by
  obtain ⟨F, h1, h2, h3⟩ := h
  refine (push_any h1 x hl).mono ?_
  rintro e w' ⟨F', rfl, q, t⟩
  exact ⟨rfl, on_turn h2 h3 q t⟩
theorem On.to (h : On w u b s) (op l : Int) (hw : Wf l) (hl : s.code.length < lim) : Calls Tryz.prog 110 #[.pointer (some ⟨b, 0, none⟩), .int .i64 op, .int .i64 l] u fun e w' => e = .returned (.tuple #[]) ∧ Hid (On w w' b (s.add ⟨op, 0, 0⟩ (some l))) := by
  obtain ⟨F, h1, h2, h3⟩ := h
  refine (to_any h1 op l hw hl).mono ?_
  rintro e w' ⟨F', rfl, q, t⟩
  exact ⟨rfl, on_turn h2 h3 q t⟩
theorem On.on (h : On w u b s) (k : Below u.heap.size u u') : On w u' b s := by
  obtain ⟨F, h1, h2, h3⟩ := h
  exact ⟨F, h1.on k, h2, h3.trans (k.mono h3.size)⟩
theorem new_on (w u : World) (k : Below w.heap.size w u) (t : Int) : Calls Tryz.prog 115 #[.int .i64 t] u fun e w' => ∃ b, e = .returned (.pointer (some ⟨b, 0, none⟩)) ∧ Hid (On w w' b (new t)) := by
  refine (new_any t u).mono ?_
  rintro e w' ⟨b, F, rfl, h1, h2, h3⟩
  exact ⟨b, rfl, F, h1, h2.mono k.size, k.trans (h3.mono k.size)⟩
theorem On.prog (h : On w u b s) (hT : Shaped5 w) (hl : s.code.length < lim) (hwf : ∀ l, hasM s.marks l = true → Wf l) : Calls Tryz.prog 117 #[.pointer (some ⟨b, 0, none⟩)] u fun e w' => ∃ t p n c, e = .returned (.tuple #[.agg #[.int .i64 t, .slice p n c], .int .i64 s.ans]) ∧ Hid (PrE u w' s t p n c ∧ On w w' b s) := by
  have h0 := h
  obtain ⟨F, h1, h2, h3⟩ := h
  refine (prog_any h1 (hT.on h3) hl hwf).mono ?_
  rintro e w' ⟨t, p, n, c, rfl, q⟩
  exact ⟨t, p, n, c, rfl, q.out, h0.on q.out.1⟩
end
end Go.Proofs.YtaliehikdidiaaaGreatDoor.As
namespace Go.Proofs.YtaliehikdidiaaaGreatDoor.Dq
open Go.ChangeShapes Go.WideShapes Go.ChangeAt Go.RowKit Num Go.Maps As
open Go.ChangeMaps Go.MapKept
attribute [local go_sem] run_store_float frombits_run bits_run
structure O where
  kind : Int
  code : Int
  n : Int
def addB (s : Bs) (o : O) : Bs := if o.kind = 1 then s.add ⟨1, 0, Tr.X o.n⟩ none else if o.kind = 2 then s.add ⟨o.code, 0, 0⟩ (some o.n) else if o.kind = 3 then s.mark o.n else s.add ⟨o.code, o.n, 0⟩ none
def labs : Nat → Bs → Bs
  | 0, s => s
  | k + 1, s => (labs k s).lab
def bsOf (t : Int) (l : List O) : Bs := l.foldl addB (labs 3 (new t))
theorem addB_len (s : Bs) (o : O) : (addB s o).code.length ≤ s.code.length + 1 ∧ (addB s o).marks.length ≤ s.marks.length + 1 := by
  unfold addB
  split
  · exact ⟨by simp [Bs.add], Nat.le_succ _⟩
  · split
    · exact ⟨by simp [Bs.add], Nat.le_succ _⟩
    · split
      · exact ⟨Nat.le_succ _, by simp [Bs.mark]⟩
      · exact ⟨by simp [Bs.add], Nat.le_succ _⟩
theorem foldB_len : ∀ (l : List O) (s : Bs), (l.foldl addB s).code.length ≤ s.code.length + l.length ∧ (l.foldl addB s).marks.length ≤ s.marks.length + l.length
  | [], s => ⟨Nat.le_refl _, Nat.le_refl _⟩
  | o :: l, s => by
    have h1 := foldB_len l (addB s o)
    have h2 := addB_len s o
    simp only [List.foldl_cons, List.length_cons]
    omega
theorem labs_len (k : Nat) (t : Int) : (labs k (new t)).code = [] ∧ (labs k (new t)).marks = [] ∧ (labs k (new t)).tag = t := by
  induction k with
  | zero => exact ⟨rfl, rfl, rfl⟩
  | succ k ih =>
    have e : labs (k + 1) (new t) = (labs k (new t)).lab := rfl
    rw [e]
    unfold Bs.lab
    split <;> exact ih
theorem fold_tag : ∀ (l : List O) (s : Bs), (l.foldl addB s).tag = s.tag
  | [], _ => rfl
  | o :: l, s => by
    refine (fold_tag l (addB s o)).trans ?_
    unfold addB
    split
    · rfl
    · split
      · rfl
      · split <;> rfl
theorem fold_marks : ∀ (l : List O) (s : Bs), (∀ o ∈ l, o.kind = 2 ∨ o.kind = 3 → Wf o.n) → (∀ x, hasM s.marks x = true → Wf x) → ∀ x, hasM (l.foldl addB s).marks x = true → Wf x
  | [], _, _, h => h
  | o :: l, s, hl, h => by
    refine fold_marks l (addB s o) (fun q hq => hl q (List.mem_cons_of_mem _ hq)) ?_
    intro x hx
    unfold addB at hx
    split at hx
    · exact h x hx
    · split at hx
      · exact h x hx
      · split at hx
        · rename_i h3
          rw [show (s.mark o.n).marks = (o.n, s.code.length) :: s.marks from rfl, hasM_cons, Bool.or_eq_true, decide_eq_true_eq] at hx
          rcases hx with hx | hx
          · rw [← hx]; exact hl o (List.mem_cons_self ..) (.inr h3)
          · exact h x hx
        · exact h x hx
def Cty (T : TypeId) : Prop := T = 3 ∨ T = 148 ∨ T = 82
structure Agree (w w' : World) : Prop where
  size : w.heap.size ≤ w'.heap.size
  blk : ∀ (x : Nat) (arr : Array Value) (T : TypeId), w.heap[x]? = some (.cells arr T (0, 0)) → Cty T → w'.heap[x]? = some (.cells arr T (0, 0))
theorem Agree.trans {a b c : World} (h : Agree a b) (k : Agree b c) : Agree a c := ⟨Nat.le_trans h.size k.size, fun x arr T hx hT => k.blk x arr T (h.blk x arr T hx hT) hT⟩
theorem agree_of {w w' : World} (k : Below w.heap.size w w') : Agree w w' := ⟨k.size, fun _ _ _ hx _ => (k.block _ (lt_of_block hx)).trans hx⟩
theorem agree_set {w : World} {g : Nat} {old cs : Array Value} {T : TypeId} {y : Nat × Nat} (hg : w.heap[g]? = some (.cells old T y)) (h1 : (T == 3) = false) (h2 : (T == 148) = false) (h3 : (T == 82) = false) : Agree w (w.setRow g cs) :=
  ⟨by simp, fun x arr S hx hS => (setRow_other w g x cs (fun e => by
    subst e
    rw [hg] at hx
    injection hx with hx
    injection hx with _ h5
    subst h5
    rcases hS with rfl | rfl | rfl <;> simp_all)).trans hx⟩
def Does (w : World) (v : Value) (l : List O) : Prop := ∃ (fn : Nat) (caps : Array Value), v = .func (.func fn) #[] caps ∧ (∀ (args : Array Value) (u : World), (callFunc fn args).run Tryz.prog u = .ok (.enter fn args) u) ∧ ∀ (B u : World) (b : Nat) (s : Bs), Agree w B → On B u b s → s.code.length + l.length ≤ 4096 → s.marks.length + l.length ≤ 4096 → Calls Tryz.prog fn (#[.pointer (some ⟨b, 0, none⟩)] ++ caps) u fun e w' => e = .returned (.tuple #[]) ∧ Hid (On B w' b (l.foldl addB s))
theorem Does.ag {w w' : World} {v : Value} {l : List O} (h : Does w v l) (k : Agree w w') : Does w' v l := by
  obtain ⟨fn, caps, h1, h2, h3⟩ := h
  exact ⟨fn, caps, h1, h2, fun B u b s q => h3 B u b s (k.trans q)⟩
theorem Does.on {w w' : World} {v : Value} {l : List O} (h : Does w v l) (k : Below w.heap.size w w') : Does w' v l := h.ag (agree_of k)
theorem on_bl {w u : World} {b : Nat} {s : Bs} (h : On w u b s) : Below w.heap.size w u := by obtain ⟨F, _, _, q⟩ := h; exact q
abbrev fv (fn : Nat) (caps : Array Value) : Value := .func (.func fn) #[] caps
def Gv (W : World) (l : List O) (e : Ending) (w' : World) : Prop := ∃ fn caps, e = .returned (fv fn caps) ∧ Hid (Does w' (fv fn caps) l ∧ Below W.heap.size W w')
theorem bl2 (w : World) (x y : Obj) : Below w.heap.size w ((w.alloc x).alloc y) := (bl1 w x).trans ((bl1 _ y).mono (by simp))
abbrev iO (n : Int) : Obj := .cells #[.int .i64 n] 3
theorem cap_at {w B u : World} {n : Nat} {x : Int} (e0 : w.heap[n]? = some (iO x)) (h : Agree w B) (k : Below B.heap.size B u) : u.cell? ⟨n, 0, none⟩ = some (.int .i64 x) ∧ n < u.heap.size := by
  have f0 := h.blk _ _ _ e0 (.inl rfl)
  have f1 := (k.block _ (lt_of_block f0)).trans f0
  exact ⟨(cell_of_row u _ 0 _ _ _ f1).trans rfl, lt_of_block f1⟩
theorem cap2 {w B u : World} {x y : Int} (h : Agree ((w.alloc (iO x)).alloc (iO y)) B) (k : Below B.heap.size B u) : (u.cell? ⟨w.heap.size, 0, none⟩ = some (.int .i64 x) ∧ w.heap.size < u.heap.size) ∧ u.cell? ⟨w.heap.size + 1, 0, none⟩ = some (.int .i64 y) ∧ w.heap.size + 1 < u.heap.size := by
  have e0 : ((w.alloc (iO x)).alloc (iO y)).heap[w.heap.size]? = some (iO x) := (heap_alloc_old _ _ (by simp)).trans (heap_alloc_new w _)
  have e1 : ((w.alloc (iO x)).alloc (iO y)).heap[w.heap.size + 1]? = some (iO y) := by have := heap_alloc_new (w.alloc (iO x)) (iO y); rwa [World.size_alloc] at this
  exact ⟨cap_at e0 h k, cap_at e1 h k⟩
theorem cap1 {w B u : World} {x : Int} (h : Agree (w.alloc (iO x)) B) (k : Below B.heap.size B u) : u.cell? ⟨w.heap.size, 0, none⟩ = some (.int .i64 x) ∧ w.heap.size < u.heap.size := cap_at (heap_alloc_new w _) h k
section
variable {w : World}
set_option maxRecDepth 100000 in
theorem c_do (c n : Int) (w : World) : Calls Tryz.prog 69 #[.int .i64 c, .int .i64 n] w fun e w' => Gv w [⟨0, c, n⟩] e w' := by
  have hmf : ∀ (fn : Fn) (first cap : Array Value) (w : World), (Instr.makeFunc fn first cap).run Tryz.prog w = .ok (.func fn first cap) w := fun _ _ _ _ => rfl
  go_enter Tryz.func69, Tryz.ntmps69
  go_wp2
  go_ret
  refine ⟨_, _, rfl, ⟨_, _, rfl, fun args u => enter_run Tryz.func111 (by kernel_rfl) (by kernel_rfl) args u, fun B u b s hB ho h1 h2 => ?_⟩, bl2 _ _ _⟩
  have HC := Lib.hid (ho.add c n (by simp at h1; unfold lim; omega))
  obtain ⟨⟨x0, x1⟩, x2, x3⟩ := cap2 hB (on_bl ho)
  have e1 : List.foldl addB s [⟨0, c, n⟩] = s.add ⟨c, n, 0⟩ none := rfl
  rw [e1]
  clear ho hB h1 h2 hmf e1
  show Calls Tryz.prog 111 #[.pointer (some ⟨b, 0, none⟩), .pointer (some ⟨w.heap.size, 0, none⟩), .pointer (some ⟨w.heap.size + 1, 0, none⟩)] u _
  go_enter Tryz.func111, Tryz.ntmps111
  go_wp2_with (go_at_call 112; refine HC.out.mono ?_; rintro e w2 ⟨rfl, hR⟩; clear HC)
  go_end0
  exact ⟨rfl, hR.out⟩
set_option maxRecDepth 100000 in
theorem c_push (n : Int) (w : World) : Calls Tryz.prog 66 #[.int .i64 n] w fun e w' => Gv w [⟨1, 0, n⟩] e w' := by
  have hmf : ∀ (fn : Fn) (first cap : Array Value) (w : World), (Instr.makeFunc fn first cap).run Tryz.prog w = .ok (.func fn first cap) w := fun _ _ _ _ => rfl
  go_enter Tryz.func66, Tryz.ntmps66
  go_wp2
  go_ret
  refine ⟨_, _, rfl, ⟨_, _, rfl, fun args u => enter_run Tryz.func107 (by kernel_rfl) (by kernel_rfl) args u, fun B u b s hB ho h1 h2 => ?_⟩, bl1 _ _⟩
  have HC := Lib.hid (ho.push (Tr.X n) (by simp at h1; unfold lim; omega))
  obtain ⟨x0, x1⟩ := cap1 hB (on_bl ho)
  have e1 : List.foldl addB s [⟨1, 0, n⟩] = s.add ⟨1, 0, Tr.X n⟩ none := rfl
  rw [e1]
  clear ho hB h1 h2 hmf e1
  show Calls Tryz.prog 107 #[.pointer (some ⟨b, 0, none⟩), .pointer (some ⟨w.heap.size, 0, none⟩)] u _
  go_enter Tryz.func107, Tryz.ntmps107
  go_wp2_with (go_at_call 108; refine HC.out.mono ?_; rintro e w2 ⟨rfl, hR⟩; clear HC)
  go_end0
  exact ⟨rfl, hR.out⟩
set_option maxRecDepth 100000 in
theorem c_to (c n : Int) (hw : Wf n) (w : World) : Calls Tryz.prog 68 #[.int .i64 c, .int .i64 n] w fun e w' => Gv w [⟨2, c, n⟩] e w' := by
  have hmf : ∀ (fn : Fn) (first cap : Array Value) (w : World), (Instr.makeFunc fn first cap).run Tryz.prog w = .ok (.func fn first cap) w := fun _ _ _ _ => rfl
  have HW := Lib.hid hw
  clear hw
  go_enter Tryz.func68, Tryz.ntmps68
  go_wp2
  go_ret
  refine ⟨_, _, rfl, ⟨_, _, rfl, fun args u => enter_run Tryz.func109 (by kernel_rfl) (by kernel_rfl) args u, fun B u b s hB ho h1 h2 => ?_⟩, bl2 _ _ _⟩
  have HC := Lib.hid (ho.to c n HW.out (by simp at h1; unfold lim; omega))
  obtain ⟨⟨x0, x1⟩, x2, x3⟩ := cap2 hB (on_bl ho)
  have e1 : List.foldl addB s [⟨2, c, n⟩] = s.add ⟨c, 0, 0⟩ (some n) := rfl
  rw [e1]
  clear ho hB h1 h2 hmf e1
  show Calls Tryz.prog 109 #[.pointer (some ⟨b, 0, none⟩), .pointer (some ⟨w.heap.size, 0, none⟩), .pointer (some ⟨w.heap.size + 1, 0, none⟩)] u _
  go_enter Tryz.func109, Tryz.ntmps109
  go_wp2_with (go_at_call 110; refine HC.out.mono ?_; rintro e w2 ⟨rfl, hR⟩; clear HC)
  go_end0
  exact ⟨rfl, hR.out⟩
set_option maxRecDepth 100000 in
theorem c_mark (n : Int) (hw : Wf n) (w : World) : Calls Tryz.prog 70 #[.int .i64 n] w fun e w' => Gv w [⟨3, 0, n⟩] e w' := by
  have hmf : ∀ (fn : Fn) (first cap : Array Value) (w : World), (Instr.makeFunc fn first cap).run Tryz.prog w = .ok (.func fn first cap) w := fun _ _ _ _ => rfl
  have HW := Lib.hid hw
  clear hw
  go_enter Tryz.func70, Tryz.ntmps70
  go_wp2
  go_ret
  refine ⟨_, _, rfl, ⟨_, _, rfl, fun args u => enter_run Tryz.func113 (by kernel_rfl) (by kernel_rfl) args u, fun B u b s hB ho h1 h2 => ?_⟩, bl1 _ _⟩
  have HC := Lib.hid (ho.mark HW.out (by simp at h2; unfold maxLen; omega))
  obtain ⟨x0, x1⟩ := cap1 hB (on_bl ho)
  have e1 : List.foldl addB s [⟨3, 0, n⟩] = s.mark n := rfl
  rw [e1]
  clear ho hB h1 h2 hmf e1
  show Calls Tryz.prog 113 #[.pointer (some ⟨b, 0, none⟩), .pointer (some ⟨w.heap.size, 0, none⟩)] u _
  go_enter Tryz.func113, Tryz.ntmps113
  go_wp2_with (go_at_call 114; refine HC.out.mono ?_; rintro e w2 ⟨rfl, hR⟩; clear HC)
  go_end0
  exact ⟨rfl, hR.out⟩
end
structure Acc (W u : World) (L : List (Value × List O)) : Prop where
  bl : Below W.heap.size W u
  it : ∀ t ∈ L, Does u t.1 t.2
theorem acc_nil {W u : World} (h : Below W.heap.size W u) : Acc W u [] := ⟨h, fun t ht => by cases ht⟩
theorem Acc.on {W u u' : World} {L : List (Value × List O)} (h : Acc W u L) (k : Below u.heap.size u u') : Acc W u' L := ⟨h.bl.trans (k.mono h.bl.size), fun t ht => (h.it t ht).on k⟩
theorem Acc.more {W u u' : World} {L : List (Value × List O)} {v : Value} {l : List O} (h : Acc W u L) (k : Does u' v l ∧ Below u.heap.size u u') : Acc W u' ((v, l) :: L) :=
  ⟨(h.on k.2).bl, fun t ht => by rcases List.mem_cons.1 ht with rfl | ht; exact k.1; exact (h.on k.2).it t ht⟩
theorem Acc.also {W u : World} {L : List (Value × List O)} {v : Value} {l : List O} (h : Acc W u L) (k : Does u v l) : Acc W u ((v, l) :: L) :=
  ⟨h.bl, fun t ht => by rcases List.mem_cons.1 ht with rfl | ht; exact k; exact h.it t ht⟩
structure Pcs (w : World) (g : Nat) (L : List (Value × List O)) : Prop where
  blk : w.heap[g]? = some (.cells (L.map (·.1)).toArray 82 (0, 0))
  at_ : ∀ i, i < L.length → Does w (L.getD i (.int .i64 0, [])).1 (L.getD i (.int .i64 0, [])).2
theorem Pcs.ag {w w' : World} {g : Nat} {L : List (Value × List O)} (h : Pcs w g L) (k : Agree w w') : Pcs w' g L := ⟨k.blk _ _ _ h.blk (.inr (.inr rfl)), fun i hi => (h.at_ i hi).ag k⟩
theorem Pcs.cell {w : World} {g : Nat} {L : List (Value × List O)} (h : Pcs w g L) {i : Nat} (hi : i < L.length) : w.cell? ⟨g, i, none⟩ = some (L.getD i (.int .i64 0, [])).1 := by
  rw [cell_of_row _ _ i _ _ _ h.blk, List.getElem?_toArray, List.getElem?_map, List.getElem?_eq_getElem hi, List.getD_eq_getElem?_getD, List.getElem?_eq_getElem hi]
  rfl
theorem Acc.parts {W u : World} {L : List (Value × List O)} (h : Acc W u L) {vs : Array Value} (hv : (L.reverse.map (·.1)).toArray = vs) : Pcs (u.alloc (.cells vs 82)) u.heap.size L.reverse := by
  subst hv
  refine ⟨heap_alloc_new _ _, fun i hi => ?_⟩
  have e : L.reverse.getD i (.int .i64 0, []) = L.reverse[i] := by rw [List.getD_eq_getElem?_getD, List.getElem?_eq_getElem hi]; rfl
  have hm : L.reverse[i] ∈ L := List.mem_reverse.1 (List.getElem_mem hi)
  rw [e]
  exact (h.it _ hm).on (bl1 u _)
def catL (L : List (Value × List O)) : List O := (L.map (·.2)).flatten
theorem catL_take {L : List (Value × List O)} {i : Nat} (h : i < L.length) : catL (L.take (i + 1)) = catL (L.take i) ++ (L.getD i (.int .i64 0, [])).2 := by
  unfold catL
  rw [List.take_succ_eq_append_getElem h, List.map_append, List.flatten_append]
  simp [List.getD_eq_getElem?_getD, h]
theorem catL_le (L : List (Value × List O)) (i : Nat) : (catL (L.take i)).length ≤ (catL L).length := by
  have : catL L = catL (L.take i) ++ catL (L.drop i) := by unfold catL; rw [← List.flatten_append, ← List.map_append, List.take_append_drop]
  rw [this, List.length_append]
  omega
set_option maxRecDepth 100000 in
theorem join_raw (g k cc : Nat) (w : World) : Calls Tryz.prog 64 #[.slice (some ⟨g, 0, none⟩) k cc] w fun e w' => e = .returned (fv 106 #[.pointer (some ⟨w.heap.size, 0, none⟩)]) ∧ w' = w.alloc (.cells #[.slice (some ⟨g, 0, none⟩) k cc] 148) := by
  have hmf : ∀ (fn : Fn) (first cap : Array Value) (w : World), (Instr.makeFunc fn first cap).run Tryz.prog w = .ok (.func fn first cap) w := fun _ _ _ _ => rfl
  go_enter Tryz.func64, Tryz.ntmps64
  go_wp2
  go_ret
  exact ⟨rfl, rfl⟩
theorem join_enter (args : Array Value) (u : World) : (callFunc 106 args).run Tryz.prog u = .ok (.enter 106 args) u := enter_run Tryz.func106 (by kernel_rfl) (by kernel_rfl) args u
set_option maxRecDepth 100000 in
set_option maxHeartbeats 1000000 in
theorem join_call {w B u : World} {x g k cc b : Nat} {s : Bs} {L : List (Value × List O)} (x0 : u.cell? ⟨x, 0, none⟩ = some (.slice (some ⟨g, 0, none⟩) k cc)) (h : Pcs w g L) (hk : L.length = k) (hk2 : k ≤ 4096) (hB : Agree w B) (ho : On B u b s) (h1 : s.code.length + (catL L).length ≤ 4096) (h2 : s.marks.length + (catL L).length ≤ 4096) : Calls Tryz.prog 106 #[.pointer (some ⟨b, 0, none⟩), .pointer (some ⟨x, 0, none⟩)] u fun e w' => e = .returned (.tuple #[]) ∧ Hid (On B w' b ((catL L).foldl addB s)) := by
  have HK := Lib.hid hk
  have HP : Hid (∀ u', Below B.heap.size B u' → Pcs u' g L) := fun u' q => h.ag (hB.trans (agree_of q))
  have HD : Hid (∀ i, i < k → ∀ (u' : World) (s' : Bs), On B u' b s' → s'.code.length + (L.getD i (.int .i64 0, [])).2.length ≤ 4096 → s'.marks.length + (L.getD i (.int .i64 0, [])).2.length ≤ 4096 → ∃ (fn : Nat) (caps : Array Value), (L.getD i (.int .i64 0, [])).1 = .func (.func fn) #[] caps ∧ (∀ (args : Array Value) (u : World), (callFunc fn args).run Tryz.prog u = .ok (.enter fn args) u) ∧ Calls Tryz.prog fn (#[.pointer (some ⟨b, 0, none⟩)] ++ caps) u' fun e w' => e = .returned (.tuple #[]) ∧ Hid (On B w' b ((L.getD i (.int .i64 0, [])).2.foldl addB s'))) := fun i hi u' s' ho' q1 q2 => by
    obtain ⟨fn, caps, d1, d2, d3⟩ := h.at_ i (by rw [hk]; exact hi)
    exact ⟨fn, caps, d1, d2, d3 B u' b s' hB ho' q1 q2⟩
  have HO := Lib.hid ho
  have HL1 : Hid (s.code.length + (catL L).length ≤ 4096 ∧ s.marks.length + (catL L).length ≤ 4096) := ⟨h1, h2⟩
  have hkI : (k : Int) ≤ 4096 := by omega
  clear ho hB h1 h2 h hk
  go_enter Tryz.func106, Tryz.ntmps106
  go_wp2_with fail
  go_loopw [7] (fun v wr => ∃ i : Nat, v = .int .i64 i ∧ i ≤ k ∧ Hid (On B wr b ((catL (L.take i)).foldl addB s))) (fun v _ => k - (intOf v).toNat)
  case atStart => exact ⟨0, rfl, Nat.zero_le _, HO.out⟩
  case round =>
    obtain ⟨i, rfl, hi, HI⟩ := hrel
    by_cases hlt : i < k
    · have hltI : (i : Int) < (k : Int) := by omega
      have hil : i < L.length := by rw [HK.out]; exact hlt
      have hbnd := foldB_len (catL (L.take i)) s
      have hcat := catL_take hil
      have hle := catL_le L (i + 1)
      rw [hcat, List.length_append] at hle
      obtain ⟨l1, l2⟩ := HL1.out
      obtain ⟨fn, caps, d1, d2, d3⟩ := HD.out i hlt wr _ HI.out (by omega) (by omega)
      have p0 := (HP.out wr (on_bl HI.out)).cell hil
      have p1 := lt_of_block (HP.out wr (on_bl HI.out)).blk
      rw [d1] at p0
      rw [← List.foldl_append, ← hcat] at d3
      have HC := Lib.hid d3
      clear hbnd hcat hle l1 l2 d1 d3 HI HL1 HD HP HO hil
      go_wp2_with (refine HC.out.mono ?_; rintro e w2 ⟨rfl, hR⟩; clear HC)
      exact ⟨⟨i + 1, by first | rfl | (congr 1), by omega, hR.out⟩, by simp [intOf]; omega⟩
    · obtain rfl : k = i := by omega
      have hltI : ¬ (k : Int) < (k : Int) := by omega
      have ho := HI.out
      rw [← HK.out, List.take_length] at ho
      have HO2 := Lib.hid ho
      clear ho HI HL1 HD HP HO
      go_wp2_with fail
      go_end0
      exact ⟨rfl, HO2.out⟩
theorem join_any {w : World} {g k cc : Nat} {L : List (Value × List O)} (h : Pcs w g L) (hk : L.length = k) (hk2 : k ≤ 4096) : Calls Tryz.prog 64 #[.slice (some ⟨g, 0, none⟩) k cc] w fun e w' => Gv w (catL L) e w' := by
  refine (join_raw g k cc w).mono ?_
  rintro e w' ⟨rfl, rfl⟩
  refine ⟨_, _, rfl, ⟨_, _, rfl, join_enter, fun B u b s hB ho h1 h2 => ?_⟩, bl1 _ _⟩
  have eb := hB.blk _ _ _ (heap_alloc_new w (.cells #[.slice (some ⟨g, 0, none⟩) k cc] 148)) (.inr (.inl rfl))
  have e0 := ((on_bl ho).block _ (lt_of_block eb)).trans eb
  exact join_call ((cell_of_row u _ 0 _ _ _ e0).trans rfl) (h.ag (agree_of (bl1 _ _))) hk hk2 hB ho h1 h2
end Go.Proofs.YtaliehikdidiaaaGreatDoor.Dq
namespace Go.Proofs.YtaliehikdidiaaaGreatDoor.Dq
open Go.ChangeShapes Go.WideShapes Go.ChangeAt Go.RowKit Num Go.Maps As
open Go.ChangeMaps Go.MapKept
attribute [local go_sem] run_store_float frombits_run bits_run
theorem join_acc {W u : World} {L : List (Value × List O)} {vs : Array Value} {k : Nat} (h : Acc W u L) (hv : (L.reverse.map (·.1)).toArray = vs) (hk : L.length = k) (hk2 : k ≤ 4096) : Calls Tryz.prog 64 #[.slice (some ⟨u.heap.size, 0, none⟩) k k] (u.alloc (.cells vs 82)) fun e w' => Gv W (catL L.reverse) e w' := by
  refine (join_any (h.parts hv) (by rw [List.length_reverse]; exact hk) hk2).mono ?_
  rintro e w' ⟨fn, cp, rfl, hR⟩
  exact ⟨fn, cp, rfl, hR.out.1, h.bl.trans (((bl1 u _).trans (hR.out.2.mono (by simp))).mono h.bl.size)⟩
theorem Acc.sub {W u : World} {L L' : List (Value × List O)} (h : Acc W u L) (k : ∀ t ∈ L', t ∈ L) : Acc W u L' := ⟨h.bl, fun t ht => h.it t (k t ht)⟩
set_option maxRecDepth 100000 in
theorem c_one (n : Int) (w : World) : Calls Tryz.prog 77 #[.int .i64 n] w fun e w' => Gv w [⟨0, 9, n⟩] e w' := by
  go_enter Tryz.func77, Tryz.ntmps77
  go_wp2_with (go_at_call 69; refine (c_do _ _ _).mono ?_; rintro e u ⟨fn, cp, rfl, h⟩)
  go_ret
  exact ⟨fn, cp, rfl, h.out⟩
set_option maxRecDepth 100000 in
theorem c_two (n : Int) (w : World) : Calls Tryz.prog 67 #[.int .i64 n] w fun e w' => Gv w [⟨0, 10, n⟩] e w' := by
  go_enter Tryz.func67, Tryz.ntmps67
  go_wp2_with (go_at_call 69; refine (c_do _ _ _).mono ?_; rintro e u ⟨fn, cp, rfl, h⟩)
  go_ret
  exact ⟨fn, cp, rfl, h.out⟩
set_option maxRecDepth 100000 in
theorem c_get (n : Int) (w : World) : Calls Tryz.prog 65 #[.int .i64 n] w fun e w' => Gv w [⟨0, 7, n⟩] e w' := by
  go_enter Tryz.func65, Tryz.ntmps65
  go_wp2_with (go_at_call 69; refine (c_do _ _ _).mono ?_; rintro e u ⟨fn, cp, rfl, h⟩)
  go_ret
  exact ⟨fn, cp, rfl, h.out⟩
set_option maxRecDepth 100000 in
theorem c_set (n : Int) (w : World) : Calls Tryz.prog 78 #[.int .i64 n] w fun e w' => Gv w [⟨0, 8, n⟩] e w' := by
  go_enter Tryz.func78, Tryz.ntmps78
  go_wp2_with (go_at_call 69; refine (c_do _ _ _).mono ?_; rintro e u ⟨fn, cp, rfl, h⟩)
  go_ret
  exact ⟨fn, cp, rfl, h.out⟩
set_option maxRecDepth 100000 in
theorem c_read (w : World) : Calls Tryz.prog 105 #[] w fun e w' => Gv w [⟨0, 16, 0⟩] e w' := by
  go_enter Tryz.func105, Tryz.ntmps105
  go_wp2_with (go_at_call 69; refine (c_do _ _ _).mono ?_; rintro e u ⟨fn, cp, rfl, h⟩)
  go_ret
  exact ⟨fn, cp, rfl, h.out⟩
set_option maxRecDepth 100000 in
theorem c_write (w : World) : Calls Tryz.prog 104 #[] w fun e w' => Gv w [⟨0, 17, 0⟩] e w' := by
  go_enter Tryz.func104, Tryz.ntmps104
  go_wp2_with (go_at_call 69; refine (c_do _ _ _).mono ?_; rintro e u ⟨fn, cp, rfl, h⟩)
  go_ret
  exact ⟨fn, cp, rfl, h.out⟩
set_option maxRecDepth 100000 in
theorem c_emit (w : World) : Calls Tryz.prog 118 #[] w fun e w' => Gv w [⟨0, 18, 0⟩] e w' := by
  go_enter Tryz.func118, Tryz.ntmps118
  go_wp2_with (go_at_call 69; refine (c_do _ _ _).mono ?_; rintro e u ⟨fn, cp, rfl, h⟩)
  go_ret
  exact ⟨fn, cp, rfl, h.out⟩
set_option maxRecDepth 100000 in
theorem c_halt (w : World) : Calls Tryz.prog 76 #[] w fun e w' => Gv w [⟨0, 20, 0⟩] e w' := by
  go_enter Tryz.func76, Tryz.ntmps76
  go_wp2_with (go_at_call 69; refine (c_do _ _ _).mono ?_; rintro e u ⟨fn, cp, rfl, h⟩)
  go_ret
  exact ⟨fn, cp, rfl, h.out⟩
def foldO (R : Int) : List O := [⟨1, 0, R⟩, ⟨0, 10, 5⟩]
set_option maxRecDepth 100000 in
theorem c_foldTo (n : Int) (w : World) : Calls Tryz.prog 62 #[.int .i64 n] w fun e w' => Gv w (foldO n) e w' := by
  have A : Hid (Acc w w []) := acc_nil (Below.refl _ _)
  go_enter Tryz.func62, Tryz.ntmps62
  go_wp2_with (first
    | (go_at_call 66; refine (c_push _ _).mono ?_; rintro e u ⟨fn, cp, rfl, h⟩; replace A := Lib.hid (A.out.more h.out); clear h)
    | (go_at_call 67; refine (c_two _ _).mono ?_; rintro e u ⟨fn, cp, rfl, h⟩; replace A := Lib.hid (A.out.more h.out); clear h)
    | (go_at_call 64; refine (join_acc A.out rfl rfl (Nat.le_of_ble_eq_true rfl)).mono ?_; rintro e u ⟨fn, cp, rfl, hZ⟩; clear A))
  go_ret
  exact ⟨fn, cp, rfl, hZ.out⟩
def manyO : List O := [⟨0, 7, 1⟩, ⟨0, 18, 0⟩, ⟨0, 20, 0⟩]
set_option maxRecDepth 100000 in
theorem c_tellMany (w : World) : Calls Tryz.prog 74 #[] w fun e w' => Gv w manyO e w' := by
  have A : Hid (Acc w w []) := acc_nil (Below.refl _ _)
  go_enter Tryz.func74, Tryz.ntmps74
  go_wp2_with (first
    | (go_at_call 65; refine (c_get _ _).mono ?_; rintro e u ⟨fn, cp, rfl, h⟩; replace A := Lib.hid (A.out.more h.out); clear h)
    | (go_at_call 118; refine (c_emit _).mono ?_; rintro e u ⟨fn, cp, rfl, h⟩; replace A := Lib.hid (A.out.more h.out); clear h)
    | (go_at_call 76; refine (c_halt _).mono ?_; rintro e u ⟨fn, cp, rfl, h⟩; replace A := Lib.hid (A.out.more h.out); clear h)
    | (go_at_call 64; refine (join_acc A.out rfl rfl (Nat.le_of_ble_eq_true rfl)).mono ?_; rintro e u ⟨fn, cp, rfl, hZ⟩; clear A))
  go_ret
  exact ⟨fn, cp, rfl, hZ.out⟩
def turnO (c size l by_ : Int) : List O := [⟨0, 7, l⟩, ⟨1, 0, by_⟩, ⟨0, 10, 1⟩, ⟨1, 0, size⟩, ⟨0, 10, 5⟩, ⟨0, 8, l⟩, ⟨0, 7, l⟩, ⟨1, 0, c⟩, ⟨0, 17, 0⟩]
theorem capt3 {w u : World} {x y z : Int} (h : Below (((w.alloc (iO x)).alloc (iO y)).alloc (iO z)).heap.size (((w.alloc (iO x)).alloc (iO y)).alloc (iO z)) u) : (u.cell? ⟨w.heap.size, 0, none⟩ = some (.int .i64 x) ∧ u.cell? ⟨w.heap.size + 1, 0, none⟩ = some (.int .i64 y) ∧ u.cell? ⟨w.heap.size + 2, 0, none⟩ = some (.int .i64 z)) ∧ w.heap.size + 2 < u.heap.size := by
  have e0 : (((w.alloc (iO x)).alloc (iO y)).alloc (iO z)).heap[w.heap.size]? = some (iO x) := (heap_alloc_old _ _ (by simp; omega)).trans ((heap_alloc_old _ _ (by simp)).trans (heap_alloc_new w _))
  have e1 : (((w.alloc (iO x)).alloc (iO y)).alloc (iO z)).heap[w.heap.size + 1]? = some (iO y) := (heap_alloc_old _ _ (by simp)).trans (by have := heap_alloc_new (w.alloc (iO x)) (iO y); rwa [World.size_alloc] at this)
  have e2 : (((w.alloc (iO x)).alloc (iO y)).alloc (iO z)).heap[w.heap.size + 2]? = some (iO z) := by have := heap_alloc_new ((w.alloc (iO x)).alloc (iO y)) (iO z); rwa [World.size_alloc, World.size_alloc] at this
  have f0 := (h.block _ (lt_of_block e0)).trans e0
  have f1 := (h.block _ (lt_of_block e1)).trans e1
  have f2 := (h.block _ (lt_of_block e2)).trans e2
  exact ⟨⟨(cell_of_row u _ 0 _ _ _ f0).trans rfl, (cell_of_row u _ 0 _ _ _ f1).trans rfl, (cell_of_row u _ 0 _ _ _ f2).trans rfl⟩, lt_of_block f2⟩
set_option maxRecDepth 100000 in
set_option maxHeartbeats 1000000 in
theorem c_turn {u : World} {gl gs gc : Nat} {c size l : Int} (by_ : Int) (hl : ∀ v, Below u.heap.size u v → (v.cell? ⟨gl, 0, none⟩ = some (.int .i64 l) ∧ v.cell? ⟨gs, 0, none⟩ = some (.int .i64 size) ∧ v.cell? ⟨gc, 0, none⟩ = some (.int .i64 c)) ∧ gl < v.heap.size ∧ gs < v.heap.size ∧ gc < v.heap.size) : Calls Tryz.prog 103 #[.int .i64 by_, .pointer (some ⟨gl, 0, none⟩), .pointer (some ⟨gs, 0, none⟩), .pointer (some ⟨gc, 0, none⟩)] u fun e w' => Gv u (turnO c size l by_) e w' := by
  have HX := Lib.hid hl
  have A : Hid (Acc u u.drew []) := acc_nil ((Same.drew _).below _)
  clear hl
  go_enter Tryz.func103, Tryz.ntmps103
  go_wp2_with fail
  refine wp_region_seq (fun v => (v.cell? ⟨gl, 0, none⟩ = some (.int .i64 l) ∧ v.cell? ⟨gs, 0, none⟩ = some (.int .i64 size) ∧ v.cell? ⟨gc, 0, none⟩ = some (.int .i64 c)) ∧ gl < v.heap.size ∧ gs < v.heap.size ∧ gc < v.heap.size) ((0, true) :: (2, true) :: (5, true) :: (7, true) :: (9, true) :: (11, true) :: (1, false) :: (3, false) :: (4, false) :: (6, false) :: (8, false) :: (10, false) :: (12, false) :: (13, false) :: (14, false) :: (15, false) :: (16, true) :: []) follows (by kernel_rfl) (fun _ _ _ _ _ h => h) (HX.out _ ((Same.drew _).below _)) ?_
  (repeat ((first | (refine wpSeq_take (v := ?_) rfl (by rfl) (fun wq hSq => ?_) ?_; rotate_left; (focus ((try dsimp only at hSq); go_simp; try with_reducible rfl))) | refine wpSeq_skip rfl (by rfl) ?_); simp only [Act.put, List.setIfInBounds_toArray, List.set_cons_zero, List.set_cons_succ]))
  (refine wpSeq_do rfl (by rfl) (fun KK hK => ?_); go_simp)
  refine (c_get _ _).mono ?_
  rintro e u1 ⟨fn, cp, rfl, h⟩
  replace A := Lib.hid (A.out.more h.out)
  clear h
  refine hK.out _ _ (HX.out _ A.out.bl) ?_
  (clear hK KK; try simp only [Act.put, List.setIfInBounds_toArray, List.set_cons_zero, List.set_cons_succ])
  (repeat ((first | (refine wpSeq_take (v := ?_) rfl (by rfl) (fun wq hSq => ?_) ?_; rotate_left; (focus ((try dsimp only at hSq); go_simp; try with_reducible rfl))) | refine wpSeq_skip rfl (by rfl) ?_); simp only [Act.put, List.setIfInBounds_toArray, List.set_cons_zero, List.set_cons_succ]))
  (refine wpSeq_do rfl (by rfl) (fun KK hK => ?_); go_simp)
  refine (c_push _ _).mono ?_
  rintro e u1 ⟨fn, cp, rfl, h⟩
  replace A := Lib.hid (A.out.more h.out)
  clear h
  refine hK.out _ _ (HX.out _ A.out.bl) ?_
  (clear hK KK; try simp only [Act.put, List.setIfInBounds_toArray, List.set_cons_zero, List.set_cons_succ])
  (repeat ((first | (refine wpSeq_take (v := ?_) rfl (by rfl) (fun wq hSq => ?_) ?_; rotate_left; (focus ((try dsimp only at hSq); go_simp; try with_reducible rfl))) | refine wpSeq_skip rfl (by rfl) ?_); simp only [Act.put, List.setIfInBounds_toArray, List.set_cons_zero, List.set_cons_succ]))
  (refine wpSeq_do rfl (by rfl) (fun KK hK => ?_); go_simp)
  refine (c_two _ _).mono ?_
  rintro e u1 ⟨fn, cp, rfl, h⟩
  replace A := Lib.hid (A.out.more h.out)
  clear h
  refine hK.out _ _ (HX.out _ A.out.bl) ?_
  (clear hK KK; try simp only [Act.put, List.setIfInBounds_toArray, List.set_cons_zero, List.set_cons_succ])
  (repeat ((first | (refine wpSeq_take (v := ?_) rfl (by rfl) (fun wq hSq => ?_) ?_; rotate_left; (focus ((try dsimp only at hSq); go_simp; try with_reducible rfl))) | refine wpSeq_skip rfl (by rfl) ?_); simp only [Act.put, List.setIfInBounds_toArray, List.set_cons_zero, List.set_cons_succ]))
  (refine wpSeq_do rfl (by rfl) (fun KK hK => ?_); go_simp)
  refine (c_foldTo _ _).mono ?_
  rintro e u1 ⟨fn, cp, rfl, h⟩
  replace A := Lib.hid (A.out.more h.out)
  clear h
  refine hK.out _ _ (HX.out _ A.out.bl) ?_
  (clear hK KK; try simp only [Act.put, List.setIfInBounds_toArray, List.set_cons_zero, List.set_cons_succ])
  (repeat ((first | (refine wpSeq_take (v := ?_) rfl (by rfl) (fun wq hSq => ?_) ?_; rotate_left; (focus ((try dsimp only at hSq); go_simp; try with_reducible rfl))) | refine wpSeq_skip rfl (by rfl) ?_); simp only [Act.put, List.setIfInBounds_toArray, List.set_cons_zero, List.set_cons_succ]))
  (refine wpSeq_do rfl (by rfl) (fun KK hK => ?_); go_simp)
  refine (c_set _ _).mono ?_
  rintro e u1 ⟨fn, cp, rfl, h⟩
  replace A := Lib.hid (A.out.more h.out)
  clear h
  refine hK.out _ _ (HX.out _ A.out.bl) ?_
  (clear hK KK; try simp only [Act.put, List.setIfInBounds_toArray, List.set_cons_zero, List.set_cons_succ])
  (repeat ((first | (refine wpSeq_take (v := ?_) rfl (by rfl) (fun wq hSq => ?_) ?_; rotate_left; (focus ((try dsimp only at hSq); go_simp; try with_reducible rfl))) | refine wpSeq_skip rfl (by rfl) ?_); simp only [Act.put, List.setIfInBounds_toArray, List.set_cons_zero, List.set_cons_succ]))
  (refine wpSeq_do rfl (by rfl) (fun KK hK => ?_); go_simp)
  refine (c_get _ _).mono ?_
  rintro e u1 ⟨fn, cp, rfl, h⟩
  replace A := Lib.hid (A.out.more h.out)
  clear h
  refine hK.out _ _ (HX.out _ A.out.bl) ?_
  (clear hK KK; try simp only [Act.put, List.setIfInBounds_toArray, List.set_cons_zero, List.set_cons_succ])
  (repeat ((first | (refine wpSeq_take (v := ?_) rfl (by rfl) (fun wq hSq => ?_) ?_; rotate_left; (focus ((try dsimp only at hSq); go_simp; try with_reducible rfl))) | refine wpSeq_skip rfl (by rfl) ?_); simp only [Act.put, List.setIfInBounds_toArray, List.set_cons_zero, List.set_cons_succ]))
  (refine wpSeq_do rfl (by rfl) (fun KK hK => ?_); go_simp)
  refine (c_push _ _).mono ?_
  rintro e u1 ⟨fn, cp, rfl, h⟩
  replace A := Lib.hid (A.out.more h.out)
  clear h
  refine hK.out _ _ (HX.out _ A.out.bl) ?_
  (clear hK KK; try simp only [Act.put, List.setIfInBounds_toArray, List.set_cons_zero, List.set_cons_succ])
  (repeat ((first | (refine wpSeq_take (v := ?_) rfl (by rfl) (fun wq hSq => ?_) ?_; rotate_left; (focus ((try dsimp only at hSq); go_simp; try with_reducible rfl))) | refine wpSeq_skip rfl (by rfl) ?_); simp only [Act.put, List.setIfInBounds_toArray, List.set_cons_zero, List.set_cons_succ]))
  (refine wpSeq_do rfl (by rfl) (fun KK hK => ?_); go_simp)
  refine (c_write _).mono ?_
  rintro e u1 ⟨fn, cp, rfl, h⟩
  replace A := Lib.hid (A.out.more h.out)
  clear h
  refine hK.out _ _ (HX.out _ A.out.bl) ?_
  (clear hK KK; try simp only [Act.put, List.setIfInBounds_toArray, List.set_cons_zero, List.set_cons_succ])
  (repeat ((first | (refine wpSeq_take (v := ?_) rfl (by rfl) (fun wq hSq => ?_) ?_; rotate_left; (focus ((try dsimp only at hSq); go_simp; try with_reducible rfl))) | refine wpSeq_skip rfl (by rfl) ?_); simp only [Act.put, List.setIfInBounds_toArray, List.set_cons_zero, List.set_cons_succ]))
  (refine wpSeq_do rfl (by rfl) (fun KK hK => ?_); go_simp)
  refine hK.out _ _ (HX.out _ (A.out.on (bl1 _ _)).bl) ?_
  (clear hK KK; try simp only [Act.put, List.setIfInBounds_toArray, List.set_cons_zero, List.set_cons_succ])
  (repeat ((first | (refine wpSeq_take (v := ?_) rfl (by rfl) (fun wq hSq => ?_) ?_; rotate_left; (focus ((try dsimp only at hSq); go_simp; try with_reducible rfl))) | refine wpSeq_skip rfl (by rfl) ?_); simp only [Act.put, List.setIfInBounds_toArray, List.set_cons_zero, List.set_cons_succ]))
  (refine wpSeq_do rfl (by rfl) (fun KK hK => ?_); go_simp)
  refine (join_acc A.out rfl rfl (Nat.le_of_ble_eq_true rfl)).mono ?_
  rintro e u9 ⟨fn, cp, rfl, hZ⟩
  refine hK.out _ _ (HX.out _ hZ.out.2) ?_
  (clear hK KK; try simp only [Act.put, List.setIfInBounds_toArray, List.set_cons_zero, List.set_cons_succ])
  (repeat ((first | (refine wpSeq_take (v := ?_) rfl (by rfl) (fun wq hSq => ?_) ?_; rotate_left; (focus ((try dsimp only at hSq); go_simp; try with_reducible rfl))) | refine wpSeq_skip rfl (by rfl) ?_); simp only [Act.put, List.setIfInBounds_toArray, List.set_cons_zero, List.set_cons_succ]))
  refine wpSeq_nil ?_
  go_wp2_with fail
  go_ret
  exact ⟨fn, cp, rfl, hZ.out⟩
end Go.Proofs.YtaliehikdidiaaaGreatDoor.Dq
namespace Go.Proofs.YtaliehikdidiaaaGreatDoor.Dq
open Go.ChangeShapes Go.WideShapes Go.ChangeAt Go.RowKit Num Go.Maps As
open Go.ChangeMaps Go.MapKept
attribute [local go_sem] run_store_float frombits_run bits_run
theorem Acc.n0 {W u : World} {L : List (Value × List O)} {t : Value × List O} (h : Acc W u (t :: L)) : Does u t.1 t.2 := h.it _ (List.mem_cons_self ..)
theorem Acc.n1 {W u : World} {L : List (Value × List O)} {s t : Value × List O} (h : Acc W u (s :: t :: L)) : Does u t.1 t.2 := h.it _ (by simp)
theorem Acc.n2 {W u : World} {L : List (Value × List O)} {r s t : Value × List O} (h : Acc W u (r :: s :: t :: L)) : Does u t.1 t.2 := h.it _ (by simp)
theorem dialInfo : (Tryz.prog.info? 84).map (·.size) = some 3 := by kernel_rfl
theorem rowInfo : (Tryz.prog.info? 86).map (·.size) = some 9 := by kernel_rfl
def loadO (c l : Int) : List O := [⟨1, 0, c⟩, ⟨0, 16, 0⟩, ⟨0, 8, l⟩]
abbrev dlA (f g h : Nat × Array Value) : Array Value := #[fv f.1 f.2, fv g.1 g.2, fv h.1 h.2]
theorem dl_one (f g h : Nat × Array Value) : (dlA f g h).all (·.oneCell') = true := by simp [Value.oneCell']
abbrev dlZ : Obj := .cells #[.nilFunc, .nilFunc, .nilFunc] 84
theorem dial_back {fn : Func} {p : Tmp} (h : fn.results = #[.cell p 84]) {Q : Ending → World → Prop} {a : Act} {w : World} (g : Nat) (arr : Array Value) (h3 : arr.size = 3) (hp : a.tmps.getD p undef = .pointer (some ⟨g, 0, none⟩))
    (hg : w.heap[g]? = some (.cells arr 84 (0, 0))) (hd : a.defers = []) (hR : Q (.returned (.agg arr)) w) : bodyPost Tryz.prog fn Q .ret a w :=
  bodyPost_ret (results_cell_row h _ _ g _ _ _ _ hp hg Tryz.underlying84 rfl (by rw [h3]; kernel_rfl)) hd hR
theorem row_back {fn : Func} {p : Tmp} (h : fn.results = #[.cell p 86]) {Q : Ending → World → Prop} {a : Act} {w : World} (g : Nat) (arr : Array Value) (h3 : arr.size = 9) (hp : a.tmps.getD p undef = .pointer (some ⟨g, 0, none⟩))
    (hg : w.heap[g]? = some (.cells arr 86 (0, 0))) (hd : a.defers = []) (hR : Q (.returned (.agg arr)) w) : bodyPost Tryz.prog fn Q .ret a w :=
  bodyPost_ret (results_cell_row h _ _ g _ _ _ _ hp hg Tryz.underlying86 rfl (by rw [h3]; kernel_rfl)) hd hR
def dlW (w : World) (c size l : Int) : World := (((w.alloc (iO c)).alloc (iO size)).alloc (iO l)).alloc dlZ
theorem dl_facts {w u : World} {c size l : Int} (k : Below (dlW w c size l).heap.size (dlW w c size l) u) : ((u.cell? ⟨w.heap.size + 2, 0, none⟩ = some (.int .i64 l) ∧ u.cell? ⟨w.heap.size + 1, 0, none⟩ = some (.int .i64 size) ∧ u.cell? ⟨w.heap.size, 0, none⟩ = some (.int .i64 c)) ∧ w.heap.size + 2 < u.heap.size ∧ w.heap.size + 1 < u.heap.size ∧ w.heap.size < u.heap.size) ∧ u.heap[w.heap.size + 3]? = some dlZ ∧ Below w.heap.size w u := by
  have k0 : Below (((w.alloc (iO c)).alloc (iO size)).alloc (iO l)).heap.size (((w.alloc (iO c)).alloc (iO size)).alloc (iO l)) u := (bl1 _ _).trans (k.mono (by simp [dlW]))
  obtain ⟨⟨a1, a2, a3⟩, a4⟩ := capt3 k0
  have e := heap_alloc_new (((w.alloc (iO c)).alloc (iO size)).alloc (iO l)) dlZ
  rw [World.size_alloc, World.size_alloc, World.size_alloc] at e
  have hb : Below w.heap.size w (((w.alloc (iO c)).alloc (iO size)).alloc (iO l)) := (bl2 _ _ _).trans ((bl1 _ _).mono (by simp; omega))
  exact ⟨⟨⟨a3, a2, a1⟩, a4, by omega, by omega⟩, (k.block _ (lt_of_block e)).trans e, hb.trans (k0.mono hb.size)⟩
set_option maxRecDepth 100000 in
set_option maxHeartbeats 1000000 in
theorem c_dialAt (c size l : Int) (hs : IntKind.i64.wrap (size - 1) = size - 1) (w : World) : Calls Tryz.prog 63 #[.int .i64 c, .int .i64 size, .int .i64 l] w fun e w' => ∃ f g h : Nat × Array Value, e = .returned (.agg (dlA f g h)) ∧ Hid (Does w' (fv f.1 f.2) (loadO c l) ∧ Does w' (fv g.1 g.2) (turnO c size l 1) ∧ Does w' (fv h.1 h.2) (turnO c size l (size - 1)) ∧ Below w.heap.size w w') := by
  have hmf : ∀ (fn : Fn) (first cap : Array Value) (w : World), (Instr.makeFunc fn first cap).run Tryz.prog w = .ok (.func fn first cap) w := fun _ _ _ _ => rfl
  have HX : Hid (∀ u, Below (dlW w c size l).heap.size (dlW w c size l) u → _) := fun u k => (dl_facts k).1
  have HX2 : Hid (∀ u, Below (dlW w c size l).heap.size (dlW w c size l) u → _) := fun u k => (dl_facts k).2
  have A : Hid (Acc (dlW w c size l) (dlW w c size l).drew []) := acc_nil ((Same.drew _).below _)
  have HT : Hid (∀ (u : World) (n : Int), Below (dlW w c size l).heap.size (dlW w c size l) u → Calls Tryz.prog 103 #[.int .i64 n, .pointer (some ⟨w.heap.size + 2, 0, none⟩), .pointer (some ⟨w.heap.size + 1, 0, none⟩), .pointer (some ⟨w.heap.size, 0, none⟩)] u fun e w' => Gv u (turnO c size l n) e w') := fun u n k => c_turn n (fun v q => (dl_facts (k.trans (q.mono k.size))).1)
  have hcall : ∀ (args : Array Value) (u : World), (callFunc 103 args).run Tryz.prog u = .ok (.enter 103 args) u := fun args u => enter_run Tryz.func103 (by kernel_rfl) (by kernel_rfl) args u
  go_enter Tryz.func63, Tryz.ntmps63
  go_upto_region 2 with fail
  refine wp_region_seqE (fun v => (v.cell? ⟨w.heap.size + 2, 0, none⟩ = some (.int .i64 l) ∧ v.cell? ⟨w.heap.size + 1, 0, none⟩ = some (.int .i64 size) ∧ v.cell? ⟨w.heap.size, 0, none⟩ = some (.int .i64 c)) ∧ w.heap.size + 2 < v.heap.size ∧ w.heap.size + 1 < v.heap.size ∧ w.heap.size < v.heap.size) ((0, true) :: (3, true) :: (7, true) :: (9, true) :: (10, true) :: (11, true) :: (1, false) :: (2, false) :: (4, false) :: (5, false) :: (6, false) :: (8, false) :: (12, false) :: (13, true) :: (14, false) :: []) follows (by kernel_rfl) (fun _ _ _ _ _ h => h) (HX.out _ ((Same.drew _).below _)) ?_
  (repeat (refine wpSeqE_take (v := ?_) rfl (by rfl) (fun wq hSq => ?_) ?_; rotate_left; (focus ((try dsimp only at hSq); go_simp; try with_reducible rfl)); simp only [Act.put, List.setIfInBounds_toArray, List.set_cons_zero, List.set_cons_succ]))
  (refine wpSeqE_do rfl (by rfl) (fun KK hK => ?_); go_simp)
  refine (c_push _ _).mono ?_
  rintro e u1 ⟨fn, cp, rfl, h⟩
  replace A := Lib.hid (A.out.more h.out)
  clear h
  refine hK.out _ _ (fun _ => HX.out _ A.out.bl) ?_
  (clear hK KK; try simp only [Act.put, List.setIfInBounds_toArray, List.set_cons_zero, List.set_cons_succ])
  (repeat (refine wpSeqE_take (v := ?_) rfl (by rfl) (fun wq hSq => ?_) ?_; rotate_left; (focus ((try dsimp only at hSq); go_simp; try with_reducible rfl)); simp only [Act.put, List.setIfInBounds_toArray, List.set_cons_zero, List.set_cons_succ]))
  (refine wpSeqE_do rfl (by rfl) (fun KK hK => ?_); go_simp)
  refine (c_read _).mono ?_
  rintro e u1 ⟨fn, cp, rfl, h⟩
  replace A := Lib.hid (A.out.more h.out)
  clear h
  refine hK.out _ _ (fun _ => HX.out _ A.out.bl) ?_
  (clear hK KK; try simp only [Act.put, List.setIfInBounds_toArray, List.set_cons_zero, List.set_cons_succ])
  (repeat (refine wpSeqE_take (v := ?_) rfl (by rfl) (fun wq hSq => ?_) ?_; rotate_left; (focus ((try dsimp only at hSq); go_simp; try with_reducible rfl)); simp only [Act.put, List.setIfInBounds_toArray, List.set_cons_zero, List.set_cons_succ]))
  (refine wpSeqE_do rfl (by rfl) (fun KK hK => ?_); go_simp)
  refine (c_set _ _).mono ?_
  rintro e u1 ⟨fn, cp, rfl, h⟩
  replace A := Lib.hid (A.out.more h.out)
  clear h
  refine hK.out _ _ (fun _ => HX.out _ A.out.bl) ?_
  (clear hK KK; try simp only [Act.put, List.setIfInBounds_toArray, List.set_cons_zero, List.set_cons_succ])
  (repeat (refine wpSeqE_take (v := ?_) rfl (by rfl) (fun wq hSq => ?_) ?_; rotate_left; (focus ((try dsimp only at hSq); go_simp; try with_reducible rfl)); simp only [Act.put, List.setIfInBounds_toArray, List.set_cons_zero, List.set_cons_succ]))
  (refine wpSeqE_do rfl (by rfl) (fun KK hK => ?_); go_simp)
  refine hK.out _ _ (fun _ => HX.out _ (A.out.on (bl1 _ _)).bl) ?_
  (clear hK KK; try simp only [Act.put, List.setIfInBounds_toArray, List.set_cons_zero, List.set_cons_succ])
  (repeat (refine wpSeqE_take (v := ?_) rfl (by rfl) (fun wq hSq => ?_) ?_; rotate_left; (focus ((try dsimp only at hSq); go_simp; try with_reducible rfl)); simp only [Act.put, List.setIfInBounds_toArray, List.set_cons_zero, List.set_cons_succ]))
  (refine wpSeqE_do rfl (by rfl) (fun KK hK => ?_); go_simp)
  refine (join_acc A.out rfl rfl (Nat.le_of_ble_eq_true rfl)).mono ?_
  rintro e u4 ⟨f0, k0, rfl, hZ⟩
  have A2 := Lib.hid (Acc.also (acc_nil hZ.out.2) hZ.out.1)
  clear A hZ
  refine hK.out _ _ (fun _ => HX.out _ A2.out.bl) ?_
  (clear hK KK; try simp only [Act.put, List.setIfInBounds_toArray, List.set_cons_zero, List.set_cons_succ])
  (repeat (refine wpSeqE_take (v := ?_) rfl (by rfl) (fun wq hSq => ?_) ?_; rotate_left; (focus ((try dsimp only at hSq); go_simp; try with_reducible rfl)); simp only [Act.put, List.setIfInBounds_toArray, List.set_cons_zero, List.set_cons_succ]))
  (refine wpSeqE_do rfl (by rfl) (fun KK hK => ?_); go_simp)
  refine (HT.out _ 1 A2.out.bl).mono ?_
  rintro e u5 ⟨f1, k1, rfl, h⟩
  replace A2 := Lib.hid (A2.out.more h.out)
  clear h
  refine hK.out _ _ (fun _ => HX.out _ A2.out.bl) ?_
  (clear hK KK; try simp only [Act.put, List.setIfInBounds_toArray, List.set_cons_zero, List.set_cons_succ])
  (repeat (refine wpSeqE_take (v := ?_) rfl (by rfl) (fun wq hSq => ?_) ?_; rotate_left; (focus ((try dsimp only at hSq); go_simp; try with_reducible rfl)); simp only [Act.put, List.setIfInBounds_toArray, List.set_cons_zero, List.set_cons_succ]))
  (refine wpSeqE_do rfl (by rfl) (fun KK hK => ?_); go_simp)
  refine (HT.out _ (size - 1) A2.out.bl).mono ?_
  rintro e u6 ⟨f2, k2, rfl, h⟩
  replace A2 := Lib.hid (A2.out.more h.out)
  clear h
  refine hK.out _ _ (fun _ => HX.out _ A2.out.bl) ?_
  (clear hK KK; try simp only [Act.put, List.setIfInBounds_toArray, List.set_cons_zero, List.set_cons_succ])
  (repeat (refine wpSeqE_take (v := ?_) rfl (by rfl) (fun wq hSq => ?_) ?_; rotate_left; (focus ((try dsimp only at hSq); go_simp; try with_reducible rfl)); simp only [Act.put, List.setIfInBounds_toArray, List.set_cons_zero, List.set_cons_succ]))
  refine wpSeqE_do rfl (by rfl) (fun KK hK => ?_)
  have hb := (HX2.out _ A2.out.bl).1
  refine wp_store_row 84 _ _ rfl (w.heap.size + 3) (dlA (f0, k0) (f1, k1) (f2, k2)) rfl rfl _ _ hb dialInfo rfl (dl_one _ _ _) ?_
  refine hK.out _ _ (fun hn => absurd rfl hn) ?_
  (clear hK KK; try simp only [Act.put])
  refine wpSeqE_nil ?_
  go_wp2_with fail
  have hag := agree_set (cs := dlA (f0, k0) (f1, k1) (f2, k2)) hb (by decide) (by decide) (by decide)
  have hbl := (HX2.out _ A2.out.bl).2
  refine dial_back rfl (w.heap.size + 3) _ rfl rfl (setRow_heap u6 _ _ _ _ _ hb) rfl ⟨(f0, k0), (f1, k1), (f2, k2), rfl, ?_, ?_, ?_, ?_⟩
  · exact A2.out.n2.ag hag
  · exact A2.out.n1.ag hag
  · exact A2.out.n0.ag hag
  · exact hbl.trans ⟨rfl, rfl, rfl, by simp, fun k hk => setRow_other u6 _ k _ (by omega)⟩
end Go.Proofs.YtaliehikdidiaaaGreatDoor.Dq
namespace Go.Proofs.YtaliehikdidiaaaGreatDoor.Dq
open Go.ChangeShapes Go.WideShapes Go.ChangeAt Go.RowKit Num Go.Maps As
open Go.ChangeMaps Go.MapKept
attribute [local go_sem] run_store_float frombits_run bits_run
theorem wf_small {n : Int} (h : 0 ≤ n ∧ n ≤ 1000) : Wf n := by
  show (Lit.int .i64 n).wf = true
  have e1 : IntKind.i64.min = -9223372036854775808 := by decide
  have e2 : IntKind.i64.max = 9223372036854775807 := by decide
  simp [Lit.wf]
  omega
theorem Acc.over {W u u' : World} {L : List (Value × List O)} {v : Value} {l : List O} (h : Acc W u L) (k : Does u' v l ∧ Below u.heap.size u u') : Acc W u' ((v, l) :: L) := h.more k
def needO (R : Int) : List O := [⟨0, 7, 1⟩, ⟨1, 0, R⟩, ⟨0, 10, 8⟩, ⟨2, 12, 0⟩, ⟨0, 19, 1⟩, ⟨3, 0, 0⟩]
def cellO (B R : Int) : List O := [⟨0, 7, 0⟩, ⟨0, 10, 1⟩, ⟨1, 0, R⟩, ⟨0, 10, 5⟩, ⟨1, 0, B + 2⟩, ⟨0, 10, 1⟩]
theorem join_on {u : World} {W : World} {L : List (Value × List O)} {vs : Array Value} {k : Nat} (h : Acc W u L) (hv : (L.reverse.map (·.1)).toArray = vs) (hk : L.length = k) (hk2 : k ≤ 4096) : Calls Tryz.prog 64 #[.slice (some ⟨u.heap.size, 0, none⟩) k k] (u.alloc (.cells vs 82)) fun e w' => Gv u (catL L.reverse) e w' :=
  join_acc ⟨Below.refl _ _, h.it⟩ hv hk hk2
abbrev rwA (f : Nat → Nat × Array Value) : Array Value := #[fv (f 0).1 (f 0).2, fv (f 1).1 (f 1).2, fv (f 2).1 (f 2).2, fv (f 3).1 (f 3).2, fv (f 4).1 (f 4).2, fv (f 5).1 (f 5).2, fv (f 6).1 (f 6).2, fv (f 7).1 (f 7).2, fv (f 8).1 (f 8).2]
theorem rw_one (f : Nat → Nat × Array Value) : (rwA f).all (·.oneCell') = true := by simp [Value.oneCell']
abbrev rwZ : Obj := .cells #[.nilFunc, .nilFunc, .nilFunc, .nilFunc, .nilFunc, .nilFunc, .nilFunc, .nilFunc, .nilFunc] 86
def rowO (B R : Int) : Nat → List O
  | 0 => loadO B 0
  | 1 => turnO B R 0 1
  | 2 => turnO B R 0 (R - 1)
  | 3 => loadO (B + 1) 1
  | 4 => turnO (B + 1) (R + 1) 1 1
  | 5 => turnO (B + 1) (R + 1) 1 R
  | 6 => needO R
  | 7 => foldO R
  | _ => cellO B R
structure RwAt (w : World) (f : Nat → Nat × Array Value) (B R : Int) : Prop where
  at_ : ∀ i, i < 9 → Does w (fv (f i).1 (f i).2) (rowO B R i)
theorem RwAt.ag {w w' : World} {f : Nat → Nat × Array Value} {B R : Int} (h : RwAt w f B R) (k : Agree w w') : RwAt w' f B R := ⟨fun i hi => (h.at_ i hi).ag k⟩
theorem RwAt.on {w w' : World} {f : Nat → Nat × Array Value} {B R : Int} (h : RwAt w f B R) (k : Below w.heap.size w w') : RwAt w' f B R := h.ag (agree_of k)
def pick9 (a0 a1 a2 a3 a4 a5 a6 a7 a8 : Nat × Array Value) : Nat → Nat × Array Value
  | 0 => a0
  | 1 => a1
  | 2 => a2
  | 3 => a3
  | 4 => a4
  | 5 => a5
  | 6 => a6
  | 7 => a7
  | _ => a8
set_option maxRecDepth 100000 in
set_option maxHeartbeats 300000 in
theorem c_rowAt {B R : Int} (hB : 0 ≤ B ∧ B ≤ 256) (hR : 0 ≤ R ∧ R ≤ 16) (w : World) : Calls Tryz.prog 32 #[.int .i64 B, .int .i64 R] w fun e w' => ∃ f, e = .returned (.agg (rwA f)) ∧ Hid (RwAt w' f B R ∧ Below w.heap.size w w') := by
  have hs1 : IntKind.i64.wrap (R - 1) = R - 1 := Go.IntWalk.i64_in _ ⟨by omega, by omega⟩
  have hs2 : IntKind.i64.wrap (R + 1 - 1) = R + 1 - 1 := Go.IntWalk.i64_in _ ⟨by omega, by omega⟩
  have w0 : wrap64 B = B := by unfold wrap64; omega
  have w1 : wrap64 (B + 1) = B + 1 := by unfold wrap64; omega
  have w2 : wrap64 (R + 1) = R + 1 := by unfold wrap64; omega
  have w3 : wrap64 (B + 2) = B + 2 := by unfold wrap64; omega
  have A : Hid (Acc (w.alloc rwZ) (w.alloc rwZ) []) := acc_nil (Below.refl _ _)
  have HZ := Lib.hid (heap_alloc_new w rwZ)
  have C0 : Hid (∀ u, _) := fun u => c_foldTo R u
  go_enter Tryz.func32, Tryz.ntmps32
  go_wp2_with (first
    | (refine wpList_store_row rfl 86 _ _ rfl w.heap.size (rwA (pick9 (fxa, kxa) (fxb, kxb) (fxc, kxc) (fya, kya) (fyb, kyb) (fyc, kyc) (fN, kN) (fF, kF) (fC, kC))) rfl rfl _ _ ((A.out.bl.block _ (lt_of_block HZ.out)).trans HZ.out) rowInfo rfl (rw_one _) ?_)
    | (go_at_call 62; refine (C0.out _).mono ?_; rintro e u0 ⟨fF, kF, rfl, h⟩; replace A := Lib.hid (A.out.more h.out); clear h C0; have C1 : Hid (∀ u, _) := fun u => c_dialAt B R 0 hs1 u)
    | (go_at_call 63; refine (C1.out _).mono ?_; rintro e u1 ⟨⟨fxa, kxa⟩, ⟨fxb, kxb⟩, ⟨fxc, kxc⟩, rfl, h⟩; replace A := Lib.hid (((A.out.more ⟨h.out.1, h.out.2.2.2⟩).also h.out.2.1).also h.out.2.2.1); clear h C1; have C2 : Hid (∀ u, _) := fun u => c_dialAt (B + 1) (R + 1) 1 hs2 u)
    | (go_at_call 63; refine (C2.out _).mono ?_; rintro e u2 ⟨⟨fya, kya⟩, ⟨fyb, kyb⟩, ⟨fyc, kyc⟩, rfl, h⟩; replace A := Lib.hid (((A.out.more ⟨h.out.1, h.out.2.2.2⟩).also h.out.2.1).also h.out.2.2.1); clear h C2; have C3 : Hid (∀ u, _) := fun u => c_get 1 u)
    | (go_at_call 65; refine (C3.out _).mono ?_; rintro e u3 ⟨f1, k1, rfl, h⟩; replace A := Lib.hid (A.out.more h.out); clear h C3; have C4 : Hid (∀ u, _) := fun u => c_push R u)
    | (go_at_call 66; refine (C4.out _).mono ?_; rintro e u4 ⟨f2, k2, rfl, h⟩; replace A := Lib.hid (A.out.more h.out); clear h C4; have C5 : Hid (∀ u, _) := fun u => c_two 8 u)
    | (go_at_call 67; refine (C5.out _).mono ?_; rintro e u5 ⟨f3, k3, rfl, h⟩; replace A := Lib.hid (A.out.more h.out); clear h C5; have C6 : Hid (∀ u, _) := fun u => c_to 12 0 (wf_small (by decide)) u)
    | (go_at_call 68; refine (C6.out _).mono ?_; rintro e u6 ⟨f4, k4, rfl, h⟩; replace A := Lib.hid (A.out.more h.out); clear h C6; have C7 : Hid (∀ u, _) := fun u => c_do 19 1 u)
    | (go_at_call 69; refine (C7.out _).mono ?_; rintro e u7 ⟨f5, k5, rfl, h⟩; replace A := Lib.hid (A.out.more h.out); clear h C7; have C8 : Hid (∀ u, _) := fun u => c_mark 0 (wf_small (by decide)) u)
    | (go_at_call 70; refine (C8.out _).mono ?_; rintro e u8 ⟨f6, k6, rfl, h⟩; replace A := Lib.hid (A.out.more h.out); clear h C8; have C9 : Hid True := trivial)
    | (go_at_call 64; have C9m := C9.out; refine (join_on (L := [(fv f6 k6, [⟨3, 0, 0⟩]), (fv f5 k5, [⟨0, 19, 1⟩]), (fv f4 k4, [⟨2, 12, 0⟩]), (fv f3 k3, [⟨0, 10, 8⟩]), (fv f2 k2, [⟨1, 0, R⟩]), (fv f1 k1, [⟨0, 7, 1⟩])]) (A.out.sub (by simp)) rfl rfl (Nat.le_of_ble_eq_true rfl)).mono ?_; rintro e u9 ⟨fN, kN, rfl, h⟩; replace A := Lib.hid (A.out.over h.out); clear h C9 C9m; have C10 : Hid (∀ u, _) := fun u => c_get 0 u)
    | (go_at_call 65; refine (C10.out _).mono ?_; rintro e u10 ⟨f7, k7, rfl, h⟩; replace A := Lib.hid (A.out.more h.out); clear h C10; have C11 : Hid (∀ u, _) := fun u => c_two 1 u)
    | (go_at_call 67; refine (C11.out _).mono ?_; rintro e u11 ⟨f8, k8, rfl, h⟩; replace A := Lib.hid (A.out.more h.out); clear h C11; have C12 : Hid (∀ u, _) := fun u => c_push (B + 2) u)
    | (go_at_call 66; refine (C12.out _).mono ?_; rintro e u12 ⟨f9, k9, rfl, h⟩; replace A := Lib.hid (A.out.more h.out); clear h C12; have C13 : Hid (∀ u, _) := fun u => c_two 1 u)
    | (go_at_call 67; refine (C13.out _).mono ?_; rintro e u13 ⟨f10, k10, rfl, h⟩; replace A := Lib.hid (A.out.more h.out); clear h C13; have C14 : Hid True := trivial)
    | (go_at_call 64; have C14m := C14.out; refine (join_on (L := [(fv f10 k10, [⟨0, 10, 1⟩]), (fv f9 k9, [⟨1, 0, B + 2⟩]), (fv fF kF, foldO R), (fv f8 k8, [⟨0, 10, 1⟩]), (fv f7 k7, [⟨0, 7, 0⟩])]) (A.out.sub (by simp)) rfl rfl (Nat.le_of_ble_eq_true rfl)).mono ?_; rintro e u14 ⟨fC, kC, rfl, h⟩; replace A := Lib.hid (A.out.over h.out); clear h C14 C14m))
  have hb := (A.out.bl.block _ (lt_of_block HZ.out)).trans HZ.out
  have hag := agree_set (cs := rwA (pick9 (fxa, kxa) (fxb, kxb) (fxc, kxc) (fya, kya) (fyb, kyb) (fyc, kyc) (fN, kN) (fF, kF) (fC, kC))) hb (by decide) (by decide) (by decide)
  refine row_back rfl w.heap.size _ rfl rfl (setRow_heap _ _ _ _ _ _ hb) rfl ⟨(pick9 (fxa, kxa) (fxb, kxb) (fxc, kxc) (fya, kya) (fyb, kyb) (fyc, kyc) (fN, kN) (fF, kF) (fC, kC)), rfl, ⟨fun i hi => ?_⟩, ((bl1 w rwZ).trans (A.out.bl.mono (by simp))).trans ⟨rfl, rfl, rfl, by simp, fun k hk => setRow_other _ _ k _ (by omega)⟩⟩
  have q := A.out.it
  have e5 : R + 1 - 1 = R := by omega
  rw [e5] at q
  have key : ∀ t : Value × List O, t ∈ _ → Does _ t.1 t.2 := q
  match i, hi with
  | 0, _ => exact (key (fv fxa kxa, loadO B 0) (by simp)).ag hag
  | 1, _ => exact (key (fv fxb kxb, turnO B R 0 1) (by simp)).ag hag
  | 2, _ => exact (key (fv fxc kxc, turnO B R 0 (R - 1)) (by simp)).ag hag
  | 3, _ => exact (key (fv fya kya, loadO (B + 1) 1) (by simp)).ag hag
  | 4, _ => exact (key (fv fyb kyb, turnO (B + 1) (R + 1) 1 1) (by simp)).ag hag
  | 5, _ => exact (key (fv fyc kyc, turnO (B + 1) (R + 1) 1 R) (by simp)).ag hag
  | 6, _ => exact (show Does _ (fv fN kN) (needO R) from key (fv fN kN, catL (List.reverse [(fv f6 k6, [⟨3, 0, 0⟩]), (fv f5 k5, [⟨0, 19, 1⟩]), (fv f4 k4, [⟨2, 12, 0⟩]), (fv f3 k3, [⟨0, 10, 8⟩]), (fv f2 k2, [⟨1, 0, R⟩]), (fv f1 k1, [⟨0, 7, 1⟩])])) (by simp)).ag hag
  | 7, _ => exact (key (fv fF kF, foldO R) (by simp)).ag hag
  | 8, _ => exact (show Does _ (fv fC kC) (cellO B R) from key (fv fC kC, catL (List.reverse [(fv f10 k10, [⟨0, 10, 1⟩]), (fv f9 k9, [⟨1, 0, B + 2⟩]), (fv fF kF, foldO R), (fv f8 k8, [⟨0, 10, 1⟩]), (fv f7 k7, [⟨0, 7, 0⟩])])) (by simp)).ag hag
end Go.Proofs.YtaliehikdidiaaaGreatDoor.Dq
namespace Go.Proofs.YtaliehikdidiaaaGreatDoor.Dq
open Go.ChangeShapes Go.WideShapes Go.ChangeAt Go.RowKit Num Go.Maps As
open Go.ChangeMaps Go.MapKept
attribute [local go_sem] run_store_float frombits_run bits_run
theorem pgInfo : (Tryz.prog.info? 26).map (·.size) = some 2 := by kernel_rfl
abbrev pgA (t : Int) (p : Option Addr) (n c : Nat) : Array Value := #[.int .i64 t, .slice p n c]
abbrev pgZ : Obj := .cells #[.int .i64 0, .slice none 0 0] 26
theorem pg_one (t : Int) (p : Option Addr) (n c : Nat) : (pgA t p n c).all (·.oneCell') = true := by simp [Value.oneCell']
theorem pg_back {fn : Func} {p : Tmp} (h : fn.results = #[.cell p 26]) {Q : Ending → World → Prop} {a : Act} {w : World} (g : Nat) (t : Int) (po : Option Addr) (n c : Nat) (hp : a.tmps.getD p undef = .pointer (some ⟨g, 0, none⟩))
    (hg : w.heap[g]? = some (.cells (pgA t po n c) 26 (0, 0))) (hd : a.defers = []) (hR : Q (.returned (.agg #[.int .i64 t, .slice po n c])) w) : bodyPost Tryz.prog fn Q .ret a w :=
  bodyPost_ret (results_cell_row h _ _ g _ _ _ _ hp hg Tryz.underlying26 rfl (by kernel_rfl)) hd hR
def PgC (W : World) (t : Int) (cs : List Ins) (e : Ending) (w' : World) : Prop := ∃ p n c, e = .returned (.agg #[.int .i64 t, .slice p n c]) ∧ Hid (n = cs.length ∧ RowW 90 3 w' p c n (codC cs) ∧ Below W.heap.size W w')
theorem bs_len {t : Int} {l : List O} {cs : List Ins} (h : (bsOf t l).filled.map fixI = cs) : (bsOf t l).code.length = cs.length := by rw [← h, List.length_map, filled_len]
def wfB (l : List O) : Bool := l.all fun o => (o.kind != 2 && o.kind != 3) || (decide (0 ≤ o.n) && decide (o.n ≤ 1000))
theorem wf_all {l : List O} (h : wfB l = true) : ∀ o ∈ l, o.kind = 2 ∨ o.kind = 3 → Wf o.n := by
  intro o ho hk
  have h1 := List.all_eq_true.1 h o ho
  rw [Bool.or_eq_true, Bool.and_eq_true, Bool.and_eq_true, decide_eq_true_eq, decide_eq_true_eq] at h1
  rcases h1 with ⟨h1, h2⟩ | ⟨h1, h2⟩
  · rcases hk with hk | hk <;> rw [hk] at h1 h2
    · exact absurd h1 (by decide)
    · exact absurd h2 (by decide)
  · exact wf_small ⟨h1, h2⟩
set_option maxHeartbeats 2000000 in
set_option maxRecDepth 100000 in
theorem c_program {w : World} {g k cc : Nat} {L : List (Value × List O)} (t : Int) (h : Pcs w g L) (hk : L.length = k) (hk2 : k ≤ 4096) (hT : Shaped5 w) {cs : List Ins} (hl : (catL L).length ≤ 4000) (hwf : wfB (catL L) = true) (hans : (bsOf t (catL L)).ans = 0) (hcs : (bsOf t (catL L)).filled.map fixI = cs) : Calls Tryz.prog 71 #[.int .i64 t, .slice (some ⟨g, 0, none⟩) k cc] w fun e w' => PgC w t cs e w' := by
  obtain ⟨W, hW⟩ : ∃ W, w.alloc pgZ = W := ⟨_, rfl⟩
  have hbW : Below w.heap.size w W := hW ▸ bl1 w _
  have hin : W.heap[w.heap.size]? = some pgZ := hW ▸ heap_alloc_new _ _
  have HT : Hid (Shaped5 W) := hT.on hbW
  have HP := Lib.hid h
  have HK := Lib.hid hk
  have HLN := Lib.hid hl
  have HWF := Lib.hid hwf
  have HANS := Lib.hid hans
  have HCS := Lib.hid hcs
  have HIN := Lib.hid hin
  have HBW := Lib.hid hbW
  clear h hk hl hwf hans hcs hT hin hbW
  go_enter Tryz.func71, Tryz.ntmps71
  go_wp2_with (go_at_call 115; refine (new_on W W (Below.refl _ _) t).mono ?_; rintro e w1 ⟨bb, rfl, HB⟩)
  go_loopw [10] (fun vi wr => ∃ i : Nat, vi = .int .i64 i ∧ i ≤ 3 ∧ Hid (On W wr bb (labs i (new t)))) (fun vi _ => 3 - (intOf vi).toNat)
  case atStart => exact ⟨0, rfl, Nat.zero_le _, HB.out⟩
  case round =>
    obtain ⟨i, rfl, hi, HI⟩ := hrel
    by_cases hlt : i < 3
    · have hltI : (i : Int) < 3 := by omega
      have HC := Lib.hid HI.out.label
      clear HI HT HP HK HLN HWF HANS HCS HIN HBW
      go_wp2_with (go_at_call 116; refine HC.out.mono ?_; rintro e w2 ⟨rfl, hR⟩; clear HC)
      exact ⟨⟨i + 1, by first | rfl | (congr 1), by omega, hR.out⟩, by simp [intOf]; omega⟩
    · have hltI : ¬ (i : Int) < 3 := by omega
      obtain rfl : 3 = i := by omega
      have hjoin := join_enter
      have ho2 : On W (wr.alloc (.cells #[.slice (some ⟨g, 0, none⟩) k cc] 148)) bb (labs 3 (new t)) := HI.out.on (bl1 _ _)
      have HJ := Lib.hid (join_call (cc := cc) (x := wr.heap.size) ((cell_of_row _ _ 0 _ _ _ (heap_alloc_new wr (.cells #[.slice (some ⟨g, 0, none⟩) k cc] 148))).trans rfl) HP.out HK.out hk2 (agree_of HBW.out) ho2 (by rw [(labs_len 3 t).1]; have := HLN.out; simp; omega) (by rw [(labs_len 3 t).2.1]; have := HLN.out; simp; omega))
      clear HI ho2
      go_upto_region 7 with (first
        | (refine HJ.out.mono ?_; rintro e w2 ⟨rfl, hR⟩; clear HJ)
        | (go_at_call 64; refine (join_raw g k cc _).mono ?_; rintro e z ⟨rfl, hz⟩; subst z))
      have hcode : (bsOf t (catL L)).code.length ≤ 4096 := by
        have h1 := foldB_len (catL L) (labs 3 (new t))
        rw [(labs_len 3 t).1] at h1
        have h2 := HLN.out
        simp at h1
        unfold bsOf
        omega
      have HON : Hid (On W w2 bb (bsOf t (catL L))) := hR.out
      have HPR := Lib.hid (HON.out.prog HT.out (by unfold lim; omega) (fold_marks _ _ (wf_all HWF.out) (fun x hx => by rw [(labs_len 3 t).2.1] at hx; cases hx)))
      have hans := HANS.out
      rw [hans] at HPR
      have HZ : Hid (∀ w' t' p n' c', PrE w2 w' (bsOf t (catL L)) t' p n' c' ∧ On W w' bb (bsOf t (catL L)) → t' = t ∧ n' = cs.length ∧ RowW 90 3 w' p c' n' (codC cs) ∧ Below W.heap.size W w' ∧ Abv W.heap.size (fpR p)) := fun w' t' p n' c' ⟨k1, k2⟩ => by
        have hbq := on_bl HON.out
        obtain ⟨z1, z2, ⟨z3, z4, z5, z6⟩ | ⟨z3, _⟩⟩ := k1
        · rw [HCS.out] at z6
          exact ⟨z4.trans ((fold_tag _ _).trans (labs_len 3 t).2.2), z5.trans (bs_len HCS.out), z6, hbq.trans (z1.mono hbq.size), z2.mono hbq.size⟩
        · exact absurd hans z3
      have hlw := lt_of_block HIN.out
      clear HON hR HT HP HK HLN HWF HANS HCS hans hcode hjoin
      go_upto_region 8 with (go_at_call 117; refine HPR.out.mono ?_; rintro e w3 ⟨t', p, n', c', rfl, hR⟩; obtain ⟨y1, y2, y3, y4, y5⟩ := HZ.out _ _ _ _ _ hR.out; subst y1; have hF := Lib.hid (And.intro y2 (And.intro y3 (And.intro y4 y5))); clear y2 y3 y4 y5 hR HPR HZ)
      obtain ⟨f1, f2, f3, f4⟩ := hF.out
      have ka := bl1 w3 (.cells (pgA t' p n' c') 26)
      have hz := (ka.block _ (Nat.lt_of_lt_of_le hlw f3.size)).trans ((f3.block _ hlw).trans HIN.out)
      have e6 := heap_alloc_new w3 (.cells (pgA t' p n' c') 26)
      have x0 := (cell_of_row _ _ 0 _ _ _ e6).trans rfl
      have x1 := (cell_of_row _ _ 1 _ _ _ e6).trans rfl
      have x2 := lt_of_block e6
      have HF2 := Lib.hid (And.intro f1 (And.intro (f2.keep (kept_below ka f2.blw)) (And.intro (f3.trans (ka.mono f3.size)) f4)))
      obtain ⟨v3, hv3⟩ : ∃ v3, v3 = w3.alloc (.cells (pgA t' p n' c') 26) := ⟨_, rfl⟩
      obtain ⟨g6, hg6⟩ : ∃ g6, w3.heap.size = g6 := ⟨_, rfl⟩
      rw [hg6] at x0 x1 x2 ⊢
      rw [← hv3] at hz x0 x1 x2 HF2 ⊢
      clear hv3 hg6 ka e6 f1 f2 f3 f4 hF
      go_wp2_with (first
        | (refine wpList_store_row rfl 26 _ _ rfl w.heap.size (pgA t' p n' c') rfl rfl _ _ hz pgInfo rfl (pg_one _ _ _ _) ?_))
      obtain ⟨f1, f2, f3, f4⟩ := HF2.out
      refine pg_back rfl w.heap.size t' p n' c' rfl (setRow_heap _ _ _ _ _ _ hz) rfl ⟨p, n', c', rfl, f1, f2.keep ⟨by simp, fun x hx => setRow_other _ _ _ _ (fun e => ?_)⟩, (HBW.out.trans (f3.mono HBW.out.size)).trans ⟨rfl, rfl, rfl, by simp, fun k hk => setRow_other _ _ k _ (by omega)⟩⟩
      have := f4 x hx
      omega
end Go.Proofs.YtaliehikdidiaaaGreatDoor.Dq
namespace Go.Proofs.YtaliehikdidiaaaGreatDoor.Dq
open Num As
def ldO (B : Int) : List O := [loadO (B + 1) 1, loadO B 0].flatten
def putO (B R : Int) (l : List O) : List O := [[⟨0, 6, 0⟩], l, cellO B R, [⟨0, 17, 0⟩]].flatten
def telO (B R : Int) (l : List O) : List O := [l, cellO B R, [⟨0, 16, 0⟩], [⟨0, 18, 0⟩]].flatten
def pfO (B R : Int) : List O := [ldO B, needO R, turnO B R 0 (R - 1), putO B R [⟨1, 0, 0⟩], turnO (B + 1) (R + 1) 1 1, manyO].flatten
def pbO (B R : Int) : List O := [ldO B, needO R, putO B R [⟨0, 7, 1⟩], turnO (B + 1) (R + 1) 1 1, manyO].flatten
def ofO (B R : Int) : List O := [ldO B, [⟨0, 7, 1⟩], [⟨2, 13, 2⟩], telO B R [⟨1, 0, 0⟩], turnO B R 0 1, turnO (B + 1) (R + 1) 1 R, [⟨3, 0, 2⟩], [⟨0, 20, 0⟩]].flatten
def obO (B R : Int) : List O := [ldO B, [⟨0, 7, 1⟩], [⟨2, 13, 2⟩], turnO (B + 1) (R + 1) 1 R, telO B R [⟨0, 7, 1⟩], [⟨3, 0, 2⟩], [⟨0, 20, 0⟩]].flatten
def atO (B R : Int) : List O := [ldO B, [⟨0, 6, 0⟩], [⟨0, 7, 1⟩], [⟨0, 10, 8⟩], [⟨2, 13, 2⟩], [⟨0, 6, 0⟩], foldO R, [⟨0, 9, 6⟩], [⟨2, 12, 2⟩], telO B R [⟨0, 6, 0⟩], [⟨3, 0, 2⟩], [⟨0, 20, 0⟩]].flatten
def lenO (B : Int) : List O := [loadO (B + 1) 1, manyO].flatten
def allO (B R : Int) : List O := [ldO B, [⟨3, 0, 1⟩], [⟨0, 7, 2⟩], [⟨0, 7, 1⟩], [⟨0, 10, 8⟩], [⟨2, 13, 2⟩], telO B R [⟨0, 7, 2⟩], [⟨0, 7, 2⟩], [⟨1, 0, 1⟩], [⟨0, 10, 1⟩], [⟨0, 8, 2⟩], [⟨2, 11, 1⟩], [⟨3, 0, 2⟩], [⟨0, 20, 0⟩]].flatten
structure Good (t : Int) (l : List O) (cs : List Ins) : Prop where
  len : l.length ≤ 4000
  wf : wfB l = true
  ans : (bsOf t l).ans = 0
  code : (bsOf t l).filled.map fixI = cs
theorem pf_good (B R : Int) : Good 2 (pfO B R) (pfC B R) := ⟨Nat.le_of_ble_eq_true (by kernel_rfl), by kernel_rfl, by kernel_rfl, by kernel_rfl⟩
theorem pb_good (B R : Int) : Good 2 (pbO B R) (pbC B R) := ⟨Nat.le_of_ble_eq_true (by kernel_rfl), by kernel_rfl, by kernel_rfl, by kernel_rfl⟩
theorem of_good (B R : Int) : Good 2 (ofO B R) (ofC B R) := ⟨Nat.le_of_ble_eq_true (by kernel_rfl), by kernel_rfl, by kernel_rfl, by kernel_rfl⟩
theorem ob_good (B R : Int) : Good 2 (obO B R) (obC B R) := ⟨Nat.le_of_ble_eq_true (by kernel_rfl), by kernel_rfl, by kernel_rfl, by kernel_rfl⟩
theorem at_good (B R : Int) : Good 1 (atO B R) (atC B R) := ⟨Nat.le_of_ble_eq_true (by kernel_rfl), by kernel_rfl, by kernel_rfl, by kernel_rfl⟩
theorem len_good (B : Int) : Good 1 (lenO B) (lenC B) := ⟨Nat.le_of_ble_eq_true (by kernel_rfl), by kernel_rfl, by kernel_rfl, by kernel_rfl⟩
theorem all_good (B R : Int) : Good 1 (allO B R) (allC B R) := ⟨Nat.le_of_ble_eq_true (by kernel_rfl), by kernel_rfl, by kernel_rfl, by kernel_rfl⟩
end Go.Proofs.YtaliehikdidiaaaGreatDoor.Dq
namespace Go.Proofs.YtaliehikdidiaaaGreatDoor.Dq
open Go.ChangeShapes Go.WideShapes Go.ChangeAt Go.RowKit Num Go.Maps As
open Go.ChangeMaps Go.MapKept
attribute [local go_sem] run_store_float frombits_run bits_run
abbrev rwB (f : Nat → Nat × Array Value) : Obj := .cells (rwA f) 86
abbrev Sr (n : Nat) (f : Nat → Nat × Array Value) (u : World) : Prop := (u.cell? ⟨n, 0, none⟩ = some (fv (f 0).1 (f 0).2) ∧ u.cell? ⟨n, 1, none⟩ = some (fv (f 1).1 (f 1).2) ∧ u.cell? ⟨n, 2, none⟩ = some (fv (f 2).1 (f 2).2) ∧ u.cell? ⟨n, 3, none⟩ = some (fv (f 3).1 (f 3).2) ∧ u.cell? ⟨n, 4, none⟩ = some (fv (f 4).1 (f 4).2) ∧ u.cell? ⟨n, 5, none⟩ = some (fv (f 5).1 (f 5).2) ∧ u.cell? ⟨n, 6, none⟩ = some (fv (f 6).1 (f 6).2) ∧ u.cell? ⟨n, 7, none⟩ = some (fv (f 7).1 (f 7).2) ∧ u.cell? ⟨n, 8, none⟩ = some (fv (f 8).1 (f 8).2)) ∧ n < u.heap.size
theorem sr_of {u : World} {n : Nat} {f : Nat → Nat × Array Value} (h : u.heap[n]? = some (rwB f)) : Sr n f u :=
  ⟨⟨(cell_of_row _ _ 0 _ _ _ h).trans rfl, (cell_of_row _ _ 1 _ _ _ h).trans rfl, (cell_of_row _ _ 2 _ _ _ h).trans rfl, (cell_of_row _ _ 3 _ _ _ h).trans rfl, (cell_of_row _ _ 4 _ _ _ h).trans rfl, (cell_of_row _ _ 5 _ _ _ h).trans rfl, (cell_of_row _ _ 6 _ _ _ h).trans rfl, (cell_of_row _ _ 7 _ _ _ h).trans rfl, (cell_of_row _ _ 8 _ _ _ h).trans rfl⟩, lt_of_block h⟩
theorem rw_acc {W u : World} {f : Nat → Nat × Array Value} {B R : Int} (h : RwAt u f B R) (k : Below W.heap.size W u) : Acc W u [(fv (f 0).1 (f 0).2, loadO B 0), (fv (f 1).1 (f 1).2, turnO B R 0 1), (fv (f 2).1 (f 2).2, turnO B R 0 (R - 1)), (fv (f 3).1 (f 3).2, loadO (B + 1) 1), (fv (f 4).1 (f 4).2, turnO (B + 1) (R + 1) 1 1), (fv (f 5).1 (f 5).2, turnO (B + 1) (R + 1) 1 R), (fv (f 6).1 (f 6).2, needO R), (fv (f 7).1 (f 7).2, foldO R), (fv (f 8).1 (f 8).2, cellO B R)] := ⟨k, fun t ht => by
  simp only [List.mem_cons, List.not_mem_nil, or_false] at ht
  rcases ht with rfl | rfl | rfl | rfl | rfl | rfl | rfl | rfl | rfl
  · exact h.at_ 0 (by decide)
  · exact h.at_ 1 (by decide)
  · exact h.at_ 2 (by decide)
  · exact h.at_ 3 (by decide)
  · exact h.at_ 4 (by decide)
  · exact h.at_ 5 (by decide)
  · exact h.at_ 6 (by decide)
  · exact h.at_ 7 (by decide)
  · exact h.at_ 8 (by decide)⟩
theorem join_at {W u : World} {s : Nat} {L : List (Value × List O)} {vs : Array Value} {k : Nat} (h : Acc W u L) (hs : u.heap.size = s) (hv : (L.reverse.map (·.1)).toArray = vs) (hk : L.length = k) (hk2 : k ≤ 4096) : Calls Tryz.prog 64 #[.slice (some ⟨s, 0, none⟩) k k] (u.alloc (.cells vs 82)) fun e w' => Gv W (catL L.reverse) e w' := by
  subst hs
  exact join_acc h hv hk hk2
section
variable {w : World} {f : Nat → Nat × Array Value} {B R : Int}
set_option maxRecDepth 100000 in
set_option maxHeartbeats 1000000 in
theorem c_load (h : RwAt w f B R) : Calls Tryz.prog 72 #[.agg (rwA f)] w fun e w' => Gv w (ldO B) e w' := by
  have HX : Hid (∀ u, Below (w.alloc (rwB f)).heap.size (w.alloc (rwB f)) u → Sr w.heap.size f u) := fun u k => sr_of ((k.block _ (by simp)).trans (heap_alloc_new w (rwB f)))
  have A : Hid (Acc (w.alloc (rwB f)) (w.alloc (rwB f)) _) := rw_acc (h.on (bl1 _ _)) (Below.refl _ _)
  obtain ⟨⟨y0, y1, y2, y3, y4, y5, y6, y7, y8⟩, y9⟩ := HX.out _ (Below.refl _ _)
  clear h
  go_enter Tryz.func72, Tryz.ntmps72
  go_wp2_with (go_at_call 64; refine (join_at (L := [(fv (f 0).1 (f 0).2, loadO B 0), (fv (f 3).1 (f 3).2, loadO (B + 1) 1)]) (A.out.sub (by simp)) (by simp) rfl rfl (Nat.le_of_ble_eq_true rfl)).mono ?_; rintro e u ⟨fn, cp, rfl, hZ⟩; clear A)
  go_ret
  exact ⟨fn, cp, rfl, hZ.out.1, (bl1 w (rwB f)).trans (hZ.out.2.mono (by simp))⟩
set_option maxRecDepth 100000 in
set_option maxHeartbeats 1000000 in
theorem c_put (h : RwAt w f B R) {fa : Nat} {ka : Array Value} {la : List O} (ha : Does w (fv fa ka) la) : Calls Tryz.prog 73 #[.agg (rwA f), fv fa ka] w fun e w' => Gv w (putO B R la) e w' := by
  have HX : Hid (∀ u, Below (w.alloc (rwB f)).heap.size (w.alloc (rwB f)) u → Sr w.heap.size f u) := fun u k => sr_of ((k.block _ (by simp)).trans (heap_alloc_new w (rwB f)))
  have A : Hid (Acc (w.alloc (rwB f)) (w.alloc (rwB f)).drew _) := rw_acc ((h.on (bl1 _ _)).on ((Same.drew _).below _)) ((Same.drew _).below _)
  replace A := Lib.hid (A.out.also ((ha.on (bl1 _ _)).on ((Same.drew _).below _)))
  clear h ha
  go_enter Tryz.func73, Tryz.ntmps73
  go_wp2_with fail
  refine wp_region_seq (Sr w.heap.size f) ((1, true) :: (2, true) :: (3, true) :: (0, false) :: (4, false) :: (5, false) :: (6, false) :: (7, true) :: []) follows (by kernel_rfl) (fun _ _ _ _ _ h => h) (HX.out _ ((Same.drew _).below _)) ?_
  (repeat ((first | (refine wpSeq_take (v := ?_) rfl (by rfl) (fun wq hSq => ?_) ?_; rotate_left; (focus ((try dsimp only at hSq); go_simp; try with_reducible rfl))) | refine wpSeq_skip rfl (by rfl) ?_); simp only [Act.put, List.setIfInBounds_toArray, List.set_cons_zero, List.set_cons_succ]))
  (refine wpSeq_do rfl (by rfl) (fun KK hK => ?_); go_simp)
  refine (c_do _ _ _).mono ?_
  rintro e u1 ⟨f1, k1, rfl, h⟩
  replace A := Lib.hid (A.out.more h.out)
  clear h
  refine hK.out _ _ (HX.out _ A.out.bl) ?_
  (clear hK KK; try simp only [Act.put, List.setIfInBounds_toArray, List.set_cons_zero, List.set_cons_succ])
  (repeat ((first | (refine wpSeq_take (v := ?_) rfl (by rfl) (fun wq hSq => ?_) ?_; rotate_left; (focus ((try dsimp only at hSq); go_simp; try with_reducible rfl))) | refine wpSeq_skip rfl (by rfl) ?_); simp only [Act.put, List.setIfInBounds_toArray, List.set_cons_zero, List.set_cons_succ]))
  (refine wpSeq_do rfl (by rfl) (fun KK hK => ?_); go_simp)
  refine (c_write _).mono ?_
  rintro e u2 ⟨f2, k2, rfl, h⟩
  replace A := Lib.hid (A.out.more h.out)
  clear h
  refine hK.out _ _ (HX.out _ A.out.bl) ?_
  (clear hK KK; try simp only [Act.put, List.setIfInBounds_toArray, List.set_cons_zero, List.set_cons_succ])
  (repeat ((first | (refine wpSeq_take (v := ?_) rfl (by rfl) (fun wq hSq => ?_) ?_; rotate_left; (focus ((try dsimp only at hSq); go_simp; try with_reducible rfl))) | refine wpSeq_skip rfl (by rfl) ?_); simp only [Act.put, List.setIfInBounds_toArray, List.set_cons_zero, List.set_cons_succ]))
  (refine wpSeq_do rfl (by rfl) (fun KK hK => ?_); go_simp)
  refine hK.out _ _ (HX.out _ (A.out.on (bl1 _ _)).bl) ?_
  (clear hK KK; try simp only [Act.put, List.setIfInBounds_toArray, List.set_cons_zero, List.set_cons_succ])
  (repeat ((first | (refine wpSeq_take (v := ?_) rfl (by rfl) (fun wq hSq => ?_) ?_; rotate_left; (focus ((try dsimp only at hSq); go_simp; try with_reducible rfl))) | refine wpSeq_skip rfl (by rfl) ?_); simp only [Act.put, List.setIfInBounds_toArray, List.set_cons_zero, List.set_cons_succ]))
  (refine wpSeq_do rfl (by rfl) (fun KK hK => ?_); go_simp)
  refine (join_acc (L := [(fv f2 k2, [⟨0, 17, 0⟩]), (fv (f 8).1 (f 8).2, cellO B R), (fv fa ka, la), (fv f1 k1, [⟨0, 6, 0⟩])]) (A.out.sub (by simp)) rfl rfl (Nat.le_of_ble_eq_true rfl)).mono ?_
  rintro e u9 ⟨fn, cp, rfl, hZ⟩
  refine hK.out _ _ (HX.out _ hZ.out.2) ?_
  (clear hK KK; try simp only [Act.put, List.setIfInBounds_toArray, List.set_cons_zero, List.set_cons_succ])
  (repeat ((first | (refine wpSeq_take (v := ?_) rfl (by rfl) (fun wq hSq => ?_) ?_; rotate_left; (focus ((try dsimp only at hSq); go_simp; try with_reducible rfl))) | refine wpSeq_skip rfl (by rfl) ?_); simp only [Act.put, List.setIfInBounds_toArray, List.set_cons_zero, List.set_cons_succ]))
  refine wpSeq_nil ?_
  go_wp2_with fail
  go_ret
  exact ⟨fn, cp, rfl, hZ.out.1, (bl1 w (rwB f)).trans (hZ.out.2.mono (by simp))⟩
set_option maxRecDepth 100000 in
set_option maxHeartbeats 1000000 in
theorem c_tell (h : RwAt w f B R) {fa : Nat} {ka : Array Value} {la : List O} (ha : Does w (fv fa ka) la) : Calls Tryz.prog 75 #[.agg (rwA f), fv fa ka] w fun e w' => Gv w (telO B R la) e w' := by
  have HX : Hid (∀ u, Below (w.alloc (rwB f)).heap.size (w.alloc (rwB f)) u → Sr w.heap.size f u) := fun u k => sr_of ((k.block _ (by simp)).trans (heap_alloc_new w (rwB f)))
  have A : Hid (Acc (w.alloc (rwB f)) (w.alloc (rwB f)).drew _) := rw_acc ((h.on (bl1 _ _)).on ((Same.drew _).below _)) ((Same.drew _).below _)
  replace A := Lib.hid (A.out.also ((ha.on (bl1 _ _)).on ((Same.drew _).below _)))
  clear h ha
  go_enter Tryz.func75, Tryz.ntmps75
  go_wp2_with fail
  refine wp_region_seq (Sr w.heap.size f) ((0, true) :: (1, true) :: (2, true) :: (3, false) :: (4, false) :: (5, false) :: (6, false) :: (7, true) :: []) follows (by kernel_rfl) (fun _ _ _ _ _ h => h) (HX.out _ ((Same.drew _).below _)) ?_
  (repeat ((first | (refine wpSeq_take (v := ?_) rfl (by rfl) (fun wq hSq => ?_) ?_; rotate_left; (focus ((try dsimp only at hSq); go_simp; try with_reducible rfl))) | refine wpSeq_skip rfl (by rfl) ?_); simp only [Act.put, List.setIfInBounds_toArray, List.set_cons_zero, List.set_cons_succ]))
  (refine wpSeq_do rfl (by rfl) (fun KK hK => ?_); go_simp)
  refine (c_read _).mono ?_
  rintro e u1 ⟨f1, k1, rfl, h⟩
  replace A := Lib.hid (A.out.more h.out)
  clear h
  refine hK.out _ _ (HX.out _ A.out.bl) ?_
  (clear hK KK; try simp only [Act.put, List.setIfInBounds_toArray, List.set_cons_zero, List.set_cons_succ])
  (repeat ((first | (refine wpSeq_take (v := ?_) rfl (by rfl) (fun wq hSq => ?_) ?_; rotate_left; (focus ((try dsimp only at hSq); go_simp; try with_reducible rfl))) | refine wpSeq_skip rfl (by rfl) ?_); simp only [Act.put, List.setIfInBounds_toArray, List.set_cons_zero, List.set_cons_succ]))
  (refine wpSeq_do rfl (by rfl) (fun KK hK => ?_); go_simp)
  refine (c_emit _).mono ?_
  rintro e u2 ⟨f2, k2, rfl, h⟩
  replace A := Lib.hid (A.out.more h.out)
  clear h
  refine hK.out _ _ (HX.out _ A.out.bl) ?_
  (clear hK KK; try simp only [Act.put, List.setIfInBounds_toArray, List.set_cons_zero, List.set_cons_succ])
  (repeat ((first | (refine wpSeq_take (v := ?_) rfl (by rfl) (fun wq hSq => ?_) ?_; rotate_left; (focus ((try dsimp only at hSq); go_simp; try with_reducible rfl))) | refine wpSeq_skip rfl (by rfl) ?_); simp only [Act.put, List.setIfInBounds_toArray, List.set_cons_zero, List.set_cons_succ]))
  (refine wpSeq_do rfl (by rfl) (fun KK hK => ?_); go_simp)
  refine hK.out _ _ (HX.out _ (A.out.on (bl1 _ _)).bl) ?_
  (clear hK KK; try simp only [Act.put, List.setIfInBounds_toArray, List.set_cons_zero, List.set_cons_succ])
  (repeat ((first | (refine wpSeq_take (v := ?_) rfl (by rfl) (fun wq hSq => ?_) ?_; rotate_left; (focus ((try dsimp only at hSq); go_simp; try with_reducible rfl))) | refine wpSeq_skip rfl (by rfl) ?_); simp only [Act.put, List.setIfInBounds_toArray, List.set_cons_zero, List.set_cons_succ]))
  (refine wpSeq_do rfl (by rfl) (fun KK hK => ?_); go_simp)
  refine (join_acc (L := [(fv f2 k2, [⟨0, 18, 0⟩]), (fv f1 k1, [⟨0, 16, 0⟩]), (fv (f 8).1 (f 8).2, cellO B R), (fv fa ka, la)]) (A.out.sub (by simp)) rfl rfl (Nat.le_of_ble_eq_true rfl)).mono ?_
  rintro e u9 ⟨fn, cp, rfl, hZ⟩
  refine hK.out _ _ (HX.out _ hZ.out.2) ?_
  (clear hK KK; try simp only [Act.put, List.setIfInBounds_toArray, List.set_cons_zero, List.set_cons_succ])
  (repeat ((first | (refine wpSeq_take (v := ?_) rfl (by rfl) (fun wq hSq => ?_) ?_; rotate_left; (focus ((try dsimp only at hSq); go_simp; try with_reducible rfl))) | refine wpSeq_skip rfl (by rfl) ?_); simp only [Act.put, List.setIfInBounds_toArray, List.set_cons_zero, List.set_cons_succ]))
  refine wpSeq_nil ?_
  go_wp2_with fail
  go_ret
  exact ⟨fn, cp, rfl, hZ.out.1, (bl1 w (rwB f)).trans (hZ.out.2.mono (by simp))⟩
end
end Go.Proofs.YtaliehikdidiaaaGreatDoor.Dq
namespace Go.Proofs.YtaliehikdidiaaaGreatDoor.Dq
open Go.ChangeShapes Go.WideShapes Go.ChangeAt Go.RowKit Num Go.Maps As
open Go.ChangeMaps Go.MapKept
attribute [local go_sem] run_store_float frombits_run bits_run
theorem pw_facts {w u : World} {f : Nat → Nat × Array Value} (k : Below ((w.alloc (rwB f)).alloc pgZ).heap.size ((w.alloc (rwB f)).alloc pgZ) u) : Sr w.heap.size f u ∧ u.heap[w.heap.size + 1]? = some pgZ ∧ Below w.heap.size w u := by
  have e0 : ((w.alloc (rwB f)).alloc pgZ).heap[w.heap.size]? = some (rwB f) := (heap_alloc_old _ _ (by simp)).trans (heap_alloc_new w _)
  have e1 : ((w.alloc (rwB f)).alloc pgZ).heap[w.heap.size + 1]? = some pgZ := by have := heap_alloc_new (w.alloc (rwB f)) pgZ; rwa [World.size_alloc] at this
  exact ⟨sr_of ((k.block _ (lt_of_block e0)).trans e0), (k.block _ (lt_of_block e1)).trans e1, (bl2 _ _ _).trans (k.mono (bl2 _ _ _).size)⟩
section
variable {w : World} {f : Nat → Nat × Array Value} {B R : Int}
set_option maxRecDepth 100000 in
set_option maxHeartbeats 400000 in
theorem g_pushFront (h : RwAt w f B R) (hT : Shaped5 w) : Calls Tryz.prog 33 #[.agg (rwA f)] w fun e w' => PgC w 2 (pfC B R) e w' := by
  have HX : Hid (∀ u, Below ((w.alloc (rwB f)).alloc pgZ).heap.size ((w.alloc (rwB f)).alloc pgZ) u → Sr w.heap.size f u) := fun u k => (pw_facts k).1
  have HX2 : Hid (∀ u, Below ((w.alloc (rwB f)).alloc pgZ).heap.size ((w.alloc (rwB f)).alloc pgZ) u → u.heap[w.heap.size + 1]? = some pgZ ∧ Below w.heap.size w u) := fun u k => (pw_facts k).2
  have HRW : Hid (∀ u, Below ((w.alloc (rwB f)).alloc pgZ).heap.size ((w.alloc (rwB f)).alloc pgZ) u → RwAt u f B R) := fun u k => h.on (pw_facts k).2.2
  have HT : Hid (∀ u, Below ((w.alloc (rwB f)).alloc pgZ).heap.size ((w.alloc (rwB f)).alloc pgZ) u → Shaped5 u) := fun u k => hT.on (pw_facts k).2.2
  have A : Hid (Acc ((w.alloc (rwB f)).alloc pgZ) ((w.alloc (rwB f)).alloc pgZ) _) := rw_acc (HRW.out _ (Below.refl _ _)) (Below.refl _ _)
  have HGD := Lib.hid (pf_good B R)
  clear h hT
  go_enter Tryz.func33, Tryz.ntmps33
  go_wp2_with fail
  replace A := Lib.hid (A.out.on ((Same.drew _).below _))
  refine wp_region_seqE (Sr w.heap.size f) ((0, true) :: (2, true) :: (3, true) :: (4, true) :: (5, true) :: (6, true) :: (7, true) :: (10, true) :: (11, true) :: (12, true) :: (1, false) :: (8, false) :: (9, false) :: (13, false) :: (14, false) :: (15, false) :: (16, false) :: []) follows (by kernel_rfl) (fun _ _ _ _ _ h => h) (HX.out _ A.out.bl) ?_
  (repeat (refine wpSeqE_take (v := ?_) rfl (by rfl) (fun wq hSq => ?_) ?_; rotate_left; (focus ((try dsimp only at hSq); go_simp; try with_reducible rfl)); simp only [Act.put, List.setIfInBounds_toArray, List.set_cons_zero, List.set_cons_succ]))
  (refine wpSeqE_do rfl (by rfl) (fun KK hK => ?_); go_simp)
  refine (c_load (HRW.out _ A.out.bl)).mono ?_
  rintro e u1 ⟨f1, k1, rfl, h⟩
  replace A := Lib.hid (A.out.more h.out)
  clear h
  refine hK.out _ _ (fun _ => HX.out _ A.out.bl) ?_
  (clear hK KK; try simp only [Act.put, List.setIfInBounds_toArray, List.set_cons_zero, List.set_cons_succ])
  (repeat (refine wpSeqE_take (v := ?_) rfl (by rfl) (fun wq hSq => ?_) ?_; rotate_left; (focus ((try dsimp only at hSq); go_simp; try with_reducible rfl)); simp only [Act.put, List.setIfInBounds_toArray, List.set_cons_zero, List.set_cons_succ]))
  (refine wpSeqE_do rfl (by rfl) (fun KK hK => ?_); go_simp)
  refine (c_push _ _).mono ?_
  rintro e u2 ⟨f2, k2, rfl, h⟩
  replace A := Lib.hid (A.out.more h.out)
  clear h
  refine hK.out _ _ (fun _ => HX.out _ A.out.bl) ?_
  (clear hK KK; try simp only [Act.put, List.setIfInBounds_toArray, List.set_cons_zero, List.set_cons_succ])
  (repeat (refine wpSeqE_take (v := ?_) rfl (by rfl) (fun wq hSq => ?_) ?_; rotate_left; (focus ((try dsimp only at hSq); go_simp; try with_reducible rfl)); simp only [Act.put, List.setIfInBounds_toArray, List.set_cons_zero, List.set_cons_succ]))
  (refine wpSeqE_do rfl (by rfl) (fun KK hK => ?_); go_simp)
  refine (c_put (HRW.out _ A.out.bl) (A.out.it (fv f2 k2, [⟨1, 0, 0⟩]) (by simp))).mono ?_
  rintro e u3 ⟨f3, k3, rfl, h⟩
  replace A := Lib.hid (A.out.more h.out)
  clear h
  refine hK.out _ _ (fun _ => HX.out _ A.out.bl) ?_
  (clear hK KK; try simp only [Act.put, List.setIfInBounds_toArray, List.set_cons_zero, List.set_cons_succ])
  (repeat (refine wpSeqE_take (v := ?_) rfl (by rfl) (fun wq hSq => ?_) ?_; rotate_left; (focus ((try dsimp only at hSq); go_simp; try with_reducible rfl)); simp only [Act.put, List.setIfInBounds_toArray, List.set_cons_zero, List.set_cons_succ]))
  (refine wpSeqE_do rfl (by rfl) (fun KK hK => ?_); go_simp)
  refine (c_tellMany _).mono ?_
  rintro e u4 ⟨f4, k4, rfl, h⟩
  replace A := Lib.hid (A.out.more h.out)
  clear h
  refine hK.out _ _ (fun _ => HX.out _ A.out.bl) ?_
  (clear hK KK; try simp only [Act.put, List.setIfInBounds_toArray, List.set_cons_zero, List.set_cons_succ])
  (repeat (refine wpSeqE_take (v := ?_) rfl (by rfl) (fun wq hSq => ?_) ?_; rotate_left; (focus ((try dsimp only at hSq); go_simp; try with_reducible rfl)); simp only [Act.put, List.setIfInBounds_toArray, List.set_cons_zero, List.set_cons_succ]))
  (refine wpSeqE_do rfl (by rfl) (fun KK hK => ?_); go_simp)
  refine hK.out _ _ (fun _ => HX.out _ (A.out.on (bl1 _ _)).bl) ?_
  (clear hK KK; try simp only [Act.put, List.setIfInBounds_toArray, List.set_cons_zero, List.set_cons_succ])
  (repeat (refine wpSeqE_take (v := ?_) rfl (by rfl) (fun wq hSq => ?_) ?_; rotate_left; (focus ((try dsimp only at hSq); go_simp; try with_reducible rfl)); simp only [Act.put, List.setIfInBounds_toArray, List.set_cons_zero, List.set_cons_succ]))
  (refine wpSeqE_do rfl (by rfl) (fun KK hK => ?_); go_simp)
  refine (c_program 2 ((A.out.sub (L' := [(fv f4 k4, manyO), (fv (f 4).1 (f 4).2, turnO (B + 1) (R + 1) 1 1), (fv f3 k3, putO B R [⟨1, 0, 0⟩]), (fv (f 2).1 (f 2).2, turnO B R 0 (R - 1)), (fv (f 6).1 (f 6).2, needO R), (fv f1 k1, ldO B)]) (by simp)).parts rfl) rfl (Nat.le_of_ble_eq_true rfl) (HT.out _ (A.out.on (bl1 _ _)).bl) HGD.out.len HGD.out.wf HGD.out.ans HGD.out.code).mono ?_
  rintro e u99 ⟨p, n, c, rfl, hZ⟩
  have HBL := Lib.hid ((A.out.on (bl1 _ _)).bl.trans (hZ.out.2.2.mono (A.out.on (bl1 _ _)).bl.size))
  refine hK.out _ _ (fun _ => HX.out _ HBL.out) ?_
  (clear hK KK; try simp only [Act.put, List.setIfInBounds_toArray, List.set_cons_zero, List.set_cons_succ])
  (repeat (refine wpSeqE_take (v := ?_) rfl (by rfl) (fun wq hSq => ?_) ?_; rotate_left; (focus ((try dsimp only at hSq); go_simp; try with_reducible rfl)); simp only [Act.put, List.setIfInBounds_toArray, List.set_cons_zero, List.set_cons_succ]))
  refine wpSeqE_do rfl (by rfl) (fun KK hK => ?_)
  have hb := (HX2.out _ HBL.out).1
  refine wp_store_row 26 _ _ rfl (w.heap.size + 1) (pgA 2 p n c) rfl rfl _ _ hb pgInfo rfl (pg_one _ _ _ _) ?_
  refine hK.out _ _ (fun hn => absurd rfl hn) ?_
  (clear hK KK; try simp only [Act.put])
  refine wpSeqE_nil ?_
  go_wp2_with fail
  have hbl := (HX2.out _ HBL.out).2
  refine pg_back rfl (w.heap.size + 1) 2 p n c rfl (setRow_heap _ _ _ _ _ _ hb) rfl ⟨p, n, c, rfl, hZ.out.1, hZ.out.2.1.keep ⟨by simp, fun x hx => setRow_other _ _ _ _ (fun e => ?_)⟩, hbl.trans ⟨rfl, rfl, rfl, by simp, fun k hk => setRow_other _ _ k _ (by omega)⟩⟩
  obtain ⟨arr, e2⟩ := hZ.out.2.1.blk hx
  exact ne_ty e2 hb (by decide) e
set_option maxRecDepth 100000 in
set_option maxHeartbeats 400000 in
theorem g_pushBack (h : RwAt w f B R) (hT : Shaped5 w) : Calls Tryz.prog 34 #[.agg (rwA f)] w fun e w' => PgC w 2 (pbC B R) e w' := by
  have HX : Hid (∀ u, Below ((w.alloc (rwB f)).alloc pgZ).heap.size ((w.alloc (rwB f)).alloc pgZ) u → Sr w.heap.size f u) := fun u k => (pw_facts k).1
  have HX2 : Hid (∀ u, Below ((w.alloc (rwB f)).alloc pgZ).heap.size ((w.alloc (rwB f)).alloc pgZ) u → u.heap[w.heap.size + 1]? = some pgZ ∧ Below w.heap.size w u) := fun u k => (pw_facts k).2
  have HRW : Hid (∀ u, Below ((w.alloc (rwB f)).alloc pgZ).heap.size ((w.alloc (rwB f)).alloc pgZ) u → RwAt u f B R) := fun u k => h.on (pw_facts k).2.2
  have HT : Hid (∀ u, Below ((w.alloc (rwB f)).alloc pgZ).heap.size ((w.alloc (rwB f)).alloc pgZ) u → Shaped5 u) := fun u k => hT.on (pw_facts k).2.2
  have A : Hid (Acc ((w.alloc (rwB f)).alloc pgZ) ((w.alloc (rwB f)).alloc pgZ) _) := rw_acc (HRW.out _ (Below.refl _ _)) (Below.refl _ _)
  have HGD := Lib.hid (pb_good B R)
  clear h hT
  go_enter Tryz.func34, Tryz.ntmps34
  go_wp2_with fail
  replace A := Lib.hid (A.out.on ((Same.drew _).below _))
  refine wp_region_seqE (Sr w.heap.size f) ((0, true) :: (2, true) :: (3, true) :: (4, true) :: (7, true) :: (8, true) :: (9, true) :: (1, false) :: (5, false) :: (6, false) :: (10, false) :: (11, false) :: (12, false) :: (13, false) :: []) follows (by kernel_rfl) (fun _ _ _ _ _ h => h) (HX.out _ A.out.bl) ?_
  (repeat (refine wpSeqE_take (v := ?_) rfl (by rfl) (fun wq hSq => ?_) ?_; rotate_left; (focus ((try dsimp only at hSq); go_simp; try with_reducible rfl)); simp only [Act.put, List.setIfInBounds_toArray, List.set_cons_zero, List.set_cons_succ]))
  (refine wpSeqE_do rfl (by rfl) (fun KK hK => ?_); go_simp)
  refine (c_load (HRW.out _ A.out.bl)).mono ?_
  rintro e u1 ⟨f1, k1, rfl, h⟩
  replace A := Lib.hid (A.out.more h.out)
  clear h
  refine hK.out _ _ (fun _ => HX.out _ A.out.bl) ?_
  (clear hK KK; try simp only [Act.put, List.setIfInBounds_toArray, List.set_cons_zero, List.set_cons_succ])
  (repeat (refine wpSeqE_take (v := ?_) rfl (by rfl) (fun wq hSq => ?_) ?_; rotate_left; (focus ((try dsimp only at hSq); go_simp; try with_reducible rfl)); simp only [Act.put, List.setIfInBounds_toArray, List.set_cons_zero, List.set_cons_succ]))
  (refine wpSeqE_do rfl (by rfl) (fun KK hK => ?_); go_simp)
  refine (c_get _ _).mono ?_
  rintro e u2 ⟨f2, k2, rfl, h⟩
  replace A := Lib.hid (A.out.more h.out)
  clear h
  refine hK.out _ _ (fun _ => HX.out _ A.out.bl) ?_
  (clear hK KK; try simp only [Act.put, List.setIfInBounds_toArray, List.set_cons_zero, List.set_cons_succ])
  (repeat (refine wpSeqE_take (v := ?_) rfl (by rfl) (fun wq hSq => ?_) ?_; rotate_left; (focus ((try dsimp only at hSq); go_simp; try with_reducible rfl)); simp only [Act.put, List.setIfInBounds_toArray, List.set_cons_zero, List.set_cons_succ]))
  (refine wpSeqE_do rfl (by rfl) (fun KK hK => ?_); go_simp)
  refine (c_put (HRW.out _ A.out.bl) (A.out.it (fv f2 k2, [⟨0, 7, 1⟩]) (by simp))).mono ?_
  rintro e u3 ⟨f3, k3, rfl, h⟩
  replace A := Lib.hid (A.out.more h.out)
  clear h
  refine hK.out _ _ (fun _ => HX.out _ A.out.bl) ?_
  (clear hK KK; try simp only [Act.put, List.setIfInBounds_toArray, List.set_cons_zero, List.set_cons_succ])
  (repeat (refine wpSeqE_take (v := ?_) rfl (by rfl) (fun wq hSq => ?_) ?_; rotate_left; (focus ((try dsimp only at hSq); go_simp; try with_reducible rfl)); simp only [Act.put, List.setIfInBounds_toArray, List.set_cons_zero, List.set_cons_succ]))
  (refine wpSeqE_do rfl (by rfl) (fun KK hK => ?_); go_simp)
  refine (c_tellMany _).mono ?_
  rintro e u4 ⟨f4, k4, rfl, h⟩
  replace A := Lib.hid (A.out.more h.out)
  clear h
  refine hK.out _ _ (fun _ => HX.out _ A.out.bl) ?_
  (clear hK KK; try simp only [Act.put, List.setIfInBounds_toArray, List.set_cons_zero, List.set_cons_succ])
  (repeat (refine wpSeqE_take (v := ?_) rfl (by rfl) (fun wq hSq => ?_) ?_; rotate_left; (focus ((try dsimp only at hSq); go_simp; try with_reducible rfl)); simp only [Act.put, List.setIfInBounds_toArray, List.set_cons_zero, List.set_cons_succ]))
  (refine wpSeqE_do rfl (by rfl) (fun KK hK => ?_); go_simp)
  refine hK.out _ _ (fun _ => HX.out _ (A.out.on (bl1 _ _)).bl) ?_
  (clear hK KK; try simp only [Act.put, List.setIfInBounds_toArray, List.set_cons_zero, List.set_cons_succ])
  (repeat (refine wpSeqE_take (v := ?_) rfl (by rfl) (fun wq hSq => ?_) ?_; rotate_left; (focus ((try dsimp only at hSq); go_simp; try with_reducible rfl)); simp only [Act.put, List.setIfInBounds_toArray, List.set_cons_zero, List.set_cons_succ]))
  (refine wpSeqE_do rfl (by rfl) (fun KK hK => ?_); go_simp)
  refine (c_program 2 ((A.out.sub (L' := [(fv f4 k4, manyO), (fv (f 4).1 (f 4).2, turnO (B + 1) (R + 1) 1 1), (fv f3 k3, putO B R [⟨0, 7, 1⟩]), (fv (f 6).1 (f 6).2, needO R), (fv f1 k1, ldO B)]) (by simp)).parts rfl) rfl (Nat.le_of_ble_eq_true rfl) (HT.out _ (A.out.on (bl1 _ _)).bl) HGD.out.len HGD.out.wf HGD.out.ans HGD.out.code).mono ?_
  rintro e u99 ⟨p, n, c, rfl, hZ⟩
  have HBL := Lib.hid ((A.out.on (bl1 _ _)).bl.trans (hZ.out.2.2.mono (A.out.on (bl1 _ _)).bl.size))
  refine hK.out _ _ (fun _ => HX.out _ HBL.out) ?_
  (clear hK KK; try simp only [Act.put, List.setIfInBounds_toArray, List.set_cons_zero, List.set_cons_succ])
  (repeat (refine wpSeqE_take (v := ?_) rfl (by rfl) (fun wq hSq => ?_) ?_; rotate_left; (focus ((try dsimp only at hSq); go_simp; try with_reducible rfl)); simp only [Act.put, List.setIfInBounds_toArray, List.set_cons_zero, List.set_cons_succ]))
  refine wpSeqE_do rfl (by rfl) (fun KK hK => ?_)
  have hb := (HX2.out _ HBL.out).1
  refine wp_store_row 26 _ _ rfl (w.heap.size + 1) (pgA 2 p n c) rfl rfl _ _ hb pgInfo rfl (pg_one _ _ _ _) ?_
  refine hK.out _ _ (fun hn => absurd rfl hn) ?_
  (clear hK KK; try simp only [Act.put])
  refine wpSeqE_nil ?_
  go_wp2_with fail
  have hbl := (HX2.out _ HBL.out).2
  refine pg_back rfl (w.heap.size + 1) 2 p n c rfl (setRow_heap _ _ _ _ _ _ hb) rfl ⟨p, n, c, rfl, hZ.out.1, hZ.out.2.1.keep ⟨by simp, fun x hx => setRow_other _ _ _ _ (fun e => ?_)⟩, hbl.trans ⟨rfl, rfl, rfl, by simp, fun k hk => setRow_other _ _ k _ (by omega)⟩⟩
  obtain ⟨arr, e2⟩ := hZ.out.2.1.blk hx
  exact ne_ty e2 hb (by decide) e
set_option maxRecDepth 100000 in
set_option maxHeartbeats 400000 in
theorem g_popFront (h : RwAt w f B R) (hT : Shaped5 w) : Calls Tryz.prog 35 #[.agg (rwA f)] w fun e w' => PgC w 2 (ofC B R) e w' := by
  have HX : Hid (∀ u, Below ((w.alloc (rwB f)).alloc pgZ).heap.size ((w.alloc (rwB f)).alloc pgZ) u → Sr w.heap.size f u) := fun u k => (pw_facts k).1
  have HX2 : Hid (∀ u, Below ((w.alloc (rwB f)).alloc pgZ).heap.size ((w.alloc (rwB f)).alloc pgZ) u → u.heap[w.heap.size + 1]? = some pgZ ∧ Below w.heap.size w u) := fun u k => (pw_facts k).2
  have HRW : Hid (∀ u, Below ((w.alloc (rwB f)).alloc pgZ).heap.size ((w.alloc (rwB f)).alloc pgZ) u → RwAt u f B R) := fun u k => h.on (pw_facts k).2.2
  have HT : Hid (∀ u, Below ((w.alloc (rwB f)).alloc pgZ).heap.size ((w.alloc (rwB f)).alloc pgZ) u → Shaped5 u) := fun u k => hT.on (pw_facts k).2.2
  have A : Hid (Acc ((w.alloc (rwB f)).alloc pgZ) ((w.alloc (rwB f)).alloc pgZ) _) := rw_acc (HRW.out _ (Below.refl _ _)) (Below.refl _ _)
  have HGD := Lib.hid (of_good B R)
  clear h hT
  go_enter Tryz.func35, Tryz.ntmps35
  go_wp2_with fail
  replace A := Lib.hid (A.out.on ((Same.drew _).below _))
  refine wp_region_seqE (Sr w.heap.size f) ((0, true) :: (4, true) :: (7, true) :: (8, true) :: (9, true) :: (10, true) :: (11, true) :: (12, true) :: (1, false) :: (2, false) :: (3, false) :: (5, false) :: (6, false) :: (13, false) :: (14, false) :: (15, false) :: (16, false) :: (17, false) :: []) follows (by kernel_rfl) (fun _ _ _ _ _ h => h) (HX.out _ A.out.bl) ?_
  (repeat (refine wpSeqE_take (v := ?_) rfl (by rfl) (fun wq hSq => ?_) ?_; rotate_left; (focus ((try dsimp only at hSq); go_simp; try with_reducible rfl)); simp only [Act.put, List.setIfInBounds_toArray, List.set_cons_zero, List.set_cons_succ]))
  (refine wpSeqE_do rfl (by rfl) (fun KK hK => ?_); go_simp)
  refine (c_load (HRW.out _ A.out.bl)).mono ?_
  rintro e u1 ⟨f1, k1, rfl, h⟩
  replace A := Lib.hid (A.out.more h.out)
  clear h
  refine hK.out _ _ (fun _ => HX.out _ A.out.bl) ?_
  (clear hK KK; try simp only [Act.put, List.setIfInBounds_toArray, List.set_cons_zero, List.set_cons_succ])
  (repeat (refine wpSeqE_take (v := ?_) rfl (by rfl) (fun wq hSq => ?_) ?_; rotate_left; (focus ((try dsimp only at hSq); go_simp; try with_reducible rfl)); simp only [Act.put, List.setIfInBounds_toArray, List.set_cons_zero, List.set_cons_succ]))
  (refine wpSeqE_do rfl (by rfl) (fun KK hK => ?_); go_simp)
  refine (c_get _ _).mono ?_
  rintro e u2 ⟨f2, k2, rfl, h⟩
  replace A := Lib.hid (A.out.more h.out)
  clear h
  refine hK.out _ _ (fun _ => HX.out _ A.out.bl) ?_
  (clear hK KK; try simp only [Act.put, List.setIfInBounds_toArray, List.set_cons_zero, List.set_cons_succ])
  (repeat (refine wpSeqE_take (v := ?_) rfl (by rfl) (fun wq hSq => ?_) ?_; rotate_left; (focus ((try dsimp only at hSq); go_simp; try with_reducible rfl)); simp only [Act.put, List.setIfInBounds_toArray, List.set_cons_zero, List.set_cons_succ]))
  (refine wpSeqE_do rfl (by rfl) (fun KK hK => ?_); go_simp)
  refine (c_to _ _ (wf_small (by decide)) _).mono ?_
  rintro e u3 ⟨f3, k3, rfl, h⟩
  replace A := Lib.hid (A.out.more h.out)
  clear h
  refine hK.out _ _ (fun _ => HX.out _ A.out.bl) ?_
  (clear hK KK; try simp only [Act.put, List.setIfInBounds_toArray, List.set_cons_zero, List.set_cons_succ])
  (repeat (refine wpSeqE_take (v := ?_) rfl (by rfl) (fun wq hSq => ?_) ?_; rotate_left; (focus ((try dsimp only at hSq); go_simp; try with_reducible rfl)); simp only [Act.put, List.setIfInBounds_toArray, List.set_cons_zero, List.set_cons_succ]))
  (refine wpSeqE_do rfl (by rfl) (fun KK hK => ?_); go_simp)
  refine (c_push _ _).mono ?_
  rintro e u4 ⟨f4, k4, rfl, h⟩
  replace A := Lib.hid (A.out.more h.out)
  clear h
  refine hK.out _ _ (fun _ => HX.out _ A.out.bl) ?_
  (clear hK KK; try simp only [Act.put, List.setIfInBounds_toArray, List.set_cons_zero, List.set_cons_succ])
  (repeat (refine wpSeqE_take (v := ?_) rfl (by rfl) (fun wq hSq => ?_) ?_; rotate_left; (focus ((try dsimp only at hSq); go_simp; try with_reducible rfl)); simp only [Act.put, List.setIfInBounds_toArray, List.set_cons_zero, List.set_cons_succ]))
  (refine wpSeqE_do rfl (by rfl) (fun KK hK => ?_); go_simp)
  refine (c_tell (HRW.out _ A.out.bl) (A.out.it (fv f4 k4, [⟨1, 0, 0⟩]) (by simp))).mono ?_
  rintro e u5 ⟨f5, k5, rfl, h⟩
  replace A := Lib.hid (A.out.more h.out)
  clear h
  refine hK.out _ _ (fun _ => HX.out _ A.out.bl) ?_
  (clear hK KK; try simp only [Act.put, List.setIfInBounds_toArray, List.set_cons_zero, List.set_cons_succ])
  (repeat (refine wpSeqE_take (v := ?_) rfl (by rfl) (fun wq hSq => ?_) ?_; rotate_left; (focus ((try dsimp only at hSq); go_simp; try with_reducible rfl)); simp only [Act.put, List.setIfInBounds_toArray, List.set_cons_zero, List.set_cons_succ]))
  (refine wpSeqE_do rfl (by rfl) (fun KK hK => ?_); go_simp)
  refine (c_mark _ (wf_small (by decide)) _).mono ?_
  rintro e u6 ⟨f6, k6, rfl, h⟩
  replace A := Lib.hid (A.out.more h.out)
  clear h
  refine hK.out _ _ (fun _ => HX.out _ A.out.bl) ?_
  (clear hK KK; try simp only [Act.put, List.setIfInBounds_toArray, List.set_cons_zero, List.set_cons_succ])
  (repeat (refine wpSeqE_take (v := ?_) rfl (by rfl) (fun wq hSq => ?_) ?_; rotate_left; (focus ((try dsimp only at hSq); go_simp; try with_reducible rfl)); simp only [Act.put, List.setIfInBounds_toArray, List.set_cons_zero, List.set_cons_succ]))
  (refine wpSeqE_do rfl (by rfl) (fun KK hK => ?_); go_simp)
  refine (c_halt _).mono ?_
  rintro e u7 ⟨f7, k7, rfl, h⟩
  replace A := Lib.hid (A.out.more h.out)
  clear h
  refine hK.out _ _ (fun _ => HX.out _ A.out.bl) ?_
  (clear hK KK; try simp only [Act.put, List.setIfInBounds_toArray, List.set_cons_zero, List.set_cons_succ])
  (repeat (refine wpSeqE_take (v := ?_) rfl (by rfl) (fun wq hSq => ?_) ?_; rotate_left; (focus ((try dsimp only at hSq); go_simp; try with_reducible rfl)); simp only [Act.put, List.setIfInBounds_toArray, List.set_cons_zero, List.set_cons_succ]))
  (refine wpSeqE_do rfl (by rfl) (fun KK hK => ?_); go_simp)
  refine hK.out _ _ (fun _ => HX.out _ (A.out.on (bl1 _ _)).bl) ?_
  (clear hK KK; try simp only [Act.put, List.setIfInBounds_toArray, List.set_cons_zero, List.set_cons_succ])
  (repeat (refine wpSeqE_take (v := ?_) rfl (by rfl) (fun wq hSq => ?_) ?_; rotate_left; (focus ((try dsimp only at hSq); go_simp; try with_reducible rfl)); simp only [Act.put, List.setIfInBounds_toArray, List.set_cons_zero, List.set_cons_succ]))
  (refine wpSeqE_do rfl (by rfl) (fun KK hK => ?_); go_simp)
  refine (c_program 2 ((A.out.sub (L' := [(fv f7 k7, [⟨0, 20, 0⟩]), (fv f6 k6, [⟨3, 0, 2⟩]), (fv (f 5).1 (f 5).2, turnO (B + 1) (R + 1) 1 R), (fv (f 1).1 (f 1).2, turnO B R 0 1), (fv f5 k5, telO B R [⟨1, 0, 0⟩]), (fv f3 k3, [⟨2, 13, 2⟩]), (fv f2 k2, [⟨0, 7, 1⟩]), (fv f1 k1, ldO B)]) (by simp)).parts rfl) rfl (Nat.le_of_ble_eq_true rfl) (HT.out _ (A.out.on (bl1 _ _)).bl) HGD.out.len HGD.out.wf HGD.out.ans HGD.out.code).mono ?_
  rintro e u99 ⟨p, n, c, rfl, hZ⟩
  have HBL := Lib.hid ((A.out.on (bl1 _ _)).bl.trans (hZ.out.2.2.mono (A.out.on (bl1 _ _)).bl.size))
  refine hK.out _ _ (fun _ => HX.out _ HBL.out) ?_
  (clear hK KK; try simp only [Act.put, List.setIfInBounds_toArray, List.set_cons_zero, List.set_cons_succ])
  (repeat (refine wpSeqE_take (v := ?_) rfl (by rfl) (fun wq hSq => ?_) ?_; rotate_left; (focus ((try dsimp only at hSq); go_simp; try with_reducible rfl)); simp only [Act.put, List.setIfInBounds_toArray, List.set_cons_zero, List.set_cons_succ]))
  refine wpSeqE_do rfl (by rfl) (fun KK hK => ?_)
  have hb := (HX2.out _ HBL.out).1
  refine wp_store_row 26 _ _ rfl (w.heap.size + 1) (pgA 2 p n c) rfl rfl _ _ hb pgInfo rfl (pg_one _ _ _ _) ?_
  refine hK.out _ _ (fun hn => absurd rfl hn) ?_
  (clear hK KK; try simp only [Act.put])
  refine wpSeqE_nil ?_
  go_wp2_with fail
  have hbl := (HX2.out _ HBL.out).2
  refine pg_back rfl (w.heap.size + 1) 2 p n c rfl (setRow_heap _ _ _ _ _ _ hb) rfl ⟨p, n, c, rfl, hZ.out.1, hZ.out.2.1.keep ⟨by simp, fun x hx => setRow_other _ _ _ _ (fun e => ?_)⟩, hbl.trans ⟨rfl, rfl, rfl, by simp, fun k hk => setRow_other _ _ k _ (by omega)⟩⟩
  obtain ⟨arr, e2⟩ := hZ.out.2.1.blk hx
  exact ne_ty e2 hb (by decide) e
set_option maxRecDepth 100000 in
set_option maxHeartbeats 400000 in
theorem g_popBack (h : RwAt w f B R) (hT : Shaped5 w) : Calls Tryz.prog 36 #[.agg (rwA f)] w fun e w' => PgC w 2 (obC B R) e w' := by
  have HX : Hid (∀ u, Below ((w.alloc (rwB f)).alloc pgZ).heap.size ((w.alloc (rwB f)).alloc pgZ) u → Sr w.heap.size f u) := fun u k => (pw_facts k).1
  have HX2 : Hid (∀ u, Below ((w.alloc (rwB f)).alloc pgZ).heap.size ((w.alloc (rwB f)).alloc pgZ) u → u.heap[w.heap.size + 1]? = some pgZ ∧ Below w.heap.size w u) := fun u k => (pw_facts k).2
  have HRW : Hid (∀ u, Below ((w.alloc (rwB f)).alloc pgZ).heap.size ((w.alloc (rwB f)).alloc pgZ) u → RwAt u f B R) := fun u k => h.on (pw_facts k).2.2
  have HT : Hid (∀ u, Below ((w.alloc (rwB f)).alloc pgZ).heap.size ((w.alloc (rwB f)).alloc pgZ) u → Shaped5 u) := fun u k => hT.on (pw_facts k).2.2
  have A : Hid (Acc ((w.alloc (rwB f)).alloc pgZ) ((w.alloc (rwB f)).alloc pgZ) _) := rw_acc (HRW.out _ (Below.refl _ _)) (Below.refl _ _)
  have HGD := Lib.hid (ob_good B R)
  clear h hT
  go_enter Tryz.func36, Tryz.ntmps36
  go_wp2_with fail
  replace A := Lib.hid (A.out.on ((Same.drew _).below _))
  refine wp_region_seqE (Sr w.heap.size f) ((0, true) :: (4, true) :: (5, true) :: (6, true) :: (7, true) :: (1, false) :: (2, false) :: (3, false) :: (8, false) :: (9, false) :: (10, false) :: (11, false) :: (12, false) :: (13, false) :: (14, false) :: []) follows (by kernel_rfl) (fun _ _ _ _ _ h => h) (HX.out _ A.out.bl) ?_
  (repeat (refine wpSeqE_take (v := ?_) rfl (by rfl) (fun wq hSq => ?_) ?_; rotate_left; (focus ((try dsimp only at hSq); go_simp; try with_reducible rfl)); simp only [Act.put, List.setIfInBounds_toArray, List.set_cons_zero, List.set_cons_succ]))
  (refine wpSeqE_do rfl (by rfl) (fun KK hK => ?_); go_simp)
  refine (c_load (HRW.out _ A.out.bl)).mono ?_
  rintro e u1 ⟨f1, k1, rfl, h⟩
  replace A := Lib.hid (A.out.more h.out)
  clear h
  refine hK.out _ _ (fun _ => HX.out _ A.out.bl) ?_
  (clear hK KK; try simp only [Act.put, List.setIfInBounds_toArray, List.set_cons_zero, List.set_cons_succ])
  (repeat (refine wpSeqE_take (v := ?_) rfl (by rfl) (fun wq hSq => ?_) ?_; rotate_left; (focus ((try dsimp only at hSq); go_simp; try with_reducible rfl)); simp only [Act.put, List.setIfInBounds_toArray, List.set_cons_zero, List.set_cons_succ]))
  (refine wpSeqE_do rfl (by rfl) (fun KK hK => ?_); go_simp)
  refine (c_get _ _).mono ?_
  rintro e u2 ⟨f2, k2, rfl, h⟩
  replace A := Lib.hid (A.out.more h.out)
  clear h
  refine hK.out _ _ (fun _ => HX.out _ A.out.bl) ?_
  (clear hK KK; try simp only [Act.put, List.setIfInBounds_toArray, List.set_cons_zero, List.set_cons_succ])
  (repeat (refine wpSeqE_take (v := ?_) rfl (by rfl) (fun wq hSq => ?_) ?_; rotate_left; (focus ((try dsimp only at hSq); go_simp; try with_reducible rfl)); simp only [Act.put, List.setIfInBounds_toArray, List.set_cons_zero, List.set_cons_succ]))
  (refine wpSeqE_do rfl (by rfl) (fun KK hK => ?_); go_simp)
  refine (c_to _ _ (wf_small (by decide)) _).mono ?_
  rintro e u3 ⟨f3, k3, rfl, h⟩
  replace A := Lib.hid (A.out.more h.out)
  clear h
  refine hK.out _ _ (fun _ => HX.out _ A.out.bl) ?_
  (clear hK KK; try simp only [Act.put, List.setIfInBounds_toArray, List.set_cons_zero, List.set_cons_succ])
  (repeat (refine wpSeqE_take (v := ?_) rfl (by rfl) (fun wq hSq => ?_) ?_; rotate_left; (focus ((try dsimp only at hSq); go_simp; try with_reducible rfl)); simp only [Act.put, List.setIfInBounds_toArray, List.set_cons_zero, List.set_cons_succ]))
  (refine wpSeqE_do rfl (by rfl) (fun KK hK => ?_); go_simp)
  refine (c_get _ _).mono ?_
  rintro e u4 ⟨f4, k4, rfl, h⟩
  replace A := Lib.hid (A.out.more h.out)
  clear h
  refine hK.out _ _ (fun _ => HX.out _ A.out.bl) ?_
  (clear hK KK; try simp only [Act.put, List.setIfInBounds_toArray, List.set_cons_zero, List.set_cons_succ])
  (repeat (refine wpSeqE_take (v := ?_) rfl (by rfl) (fun wq hSq => ?_) ?_; rotate_left; (focus ((try dsimp only at hSq); go_simp; try with_reducible rfl)); simp only [Act.put, List.setIfInBounds_toArray, List.set_cons_zero, List.set_cons_succ]))
  (refine wpSeqE_do rfl (by rfl) (fun KK hK => ?_); go_simp)
  refine (c_tell (HRW.out _ A.out.bl) (A.out.it (fv f4 k4, [⟨0, 7, 1⟩]) (by simp))).mono ?_
  rintro e u5 ⟨f5, k5, rfl, h⟩
  replace A := Lib.hid (A.out.more h.out)
  clear h
  refine hK.out _ _ (fun _ => HX.out _ A.out.bl) ?_
  (clear hK KK; try simp only [Act.put, List.setIfInBounds_toArray, List.set_cons_zero, List.set_cons_succ])
  (repeat (refine wpSeqE_take (v := ?_) rfl (by rfl) (fun wq hSq => ?_) ?_; rotate_left; (focus ((try dsimp only at hSq); go_simp; try with_reducible rfl)); simp only [Act.put, List.setIfInBounds_toArray, List.set_cons_zero, List.set_cons_succ]))
  (refine wpSeqE_do rfl (by rfl) (fun KK hK => ?_); go_simp)
  refine (c_mark _ (wf_small (by decide)) _).mono ?_
  rintro e u6 ⟨f6, k6, rfl, h⟩
  replace A := Lib.hid (A.out.more h.out)
  clear h
  refine hK.out _ _ (fun _ => HX.out _ A.out.bl) ?_
  (clear hK KK; try simp only [Act.put, List.setIfInBounds_toArray, List.set_cons_zero, List.set_cons_succ])
  (repeat (refine wpSeqE_take (v := ?_) rfl (by rfl) (fun wq hSq => ?_) ?_; rotate_left; (focus ((try dsimp only at hSq); go_simp; try with_reducible rfl)); simp only [Act.put, List.setIfInBounds_toArray, List.set_cons_zero, List.set_cons_succ]))
  (refine wpSeqE_do rfl (by rfl) (fun KK hK => ?_); go_simp)
  refine (c_halt _).mono ?_
  rintro e u7 ⟨f7, k7, rfl, h⟩
  replace A := Lib.hid (A.out.more h.out)
  clear h
  refine hK.out _ _ (fun _ => HX.out _ A.out.bl) ?_
  (clear hK KK; try simp only [Act.put, List.setIfInBounds_toArray, List.set_cons_zero, List.set_cons_succ])
  (repeat (refine wpSeqE_take (v := ?_) rfl (by rfl) (fun wq hSq => ?_) ?_; rotate_left; (focus ((try dsimp only at hSq); go_simp; try with_reducible rfl)); simp only [Act.put, List.setIfInBounds_toArray, List.set_cons_zero, List.set_cons_succ]))
  (refine wpSeqE_do rfl (by rfl) (fun KK hK => ?_); go_simp)
  refine hK.out _ _ (fun _ => HX.out _ (A.out.on (bl1 _ _)).bl) ?_
  (clear hK KK; try simp only [Act.put, List.setIfInBounds_toArray, List.set_cons_zero, List.set_cons_succ])
  (repeat (refine wpSeqE_take (v := ?_) rfl (by rfl) (fun wq hSq => ?_) ?_; rotate_left; (focus ((try dsimp only at hSq); go_simp; try with_reducible rfl)); simp only [Act.put, List.setIfInBounds_toArray, List.set_cons_zero, List.set_cons_succ]))
  (refine wpSeqE_do rfl (by rfl) (fun KK hK => ?_); go_simp)
  refine (c_program 2 ((A.out.sub (L' := [(fv f7 k7, [⟨0, 20, 0⟩]), (fv f6 k6, [⟨3, 0, 2⟩]), (fv f5 k5, telO B R [⟨0, 7, 1⟩]), (fv (f 5).1 (f 5).2, turnO (B + 1) (R + 1) 1 R), (fv f3 k3, [⟨2, 13, 2⟩]), (fv f2 k2, [⟨0, 7, 1⟩]), (fv f1 k1, ldO B)]) (by simp)).parts rfl) rfl (Nat.le_of_ble_eq_true rfl) (HT.out _ (A.out.on (bl1 _ _)).bl) HGD.out.len HGD.out.wf HGD.out.ans HGD.out.code).mono ?_
  rintro e u99 ⟨p, n, c, rfl, hZ⟩
  have HBL := Lib.hid ((A.out.on (bl1 _ _)).bl.trans (hZ.out.2.2.mono (A.out.on (bl1 _ _)).bl.size))
  refine hK.out _ _ (fun _ => HX.out _ HBL.out) ?_
  (clear hK KK; try simp only [Act.put, List.setIfInBounds_toArray, List.set_cons_zero, List.set_cons_succ])
  (repeat (refine wpSeqE_take (v := ?_) rfl (by rfl) (fun wq hSq => ?_) ?_; rotate_left; (focus ((try dsimp only at hSq); go_simp; try with_reducible rfl)); simp only [Act.put, List.setIfInBounds_toArray, List.set_cons_zero, List.set_cons_succ]))
  refine wpSeqE_do rfl (by rfl) (fun KK hK => ?_)
  have hb := (HX2.out _ HBL.out).1
  refine wp_store_row 26 _ _ rfl (w.heap.size + 1) (pgA 2 p n c) rfl rfl _ _ hb pgInfo rfl (pg_one _ _ _ _) ?_
  refine hK.out _ _ (fun hn => absurd rfl hn) ?_
  (clear hK KK; try simp only [Act.put])
  refine wpSeqE_nil ?_
  go_wp2_with fail
  have hbl := (HX2.out _ HBL.out).2
  refine pg_back rfl (w.heap.size + 1) 2 p n c rfl (setRow_heap _ _ _ _ _ _ hb) rfl ⟨p, n, c, rfl, hZ.out.1, hZ.out.2.1.keep ⟨by simp, fun x hx => setRow_other _ _ _ _ (fun e => ?_)⟩, hbl.trans ⟨rfl, rfl, rfl, by simp, fun k hk => setRow_other _ _ k _ (by omega)⟩⟩
  obtain ⟨arr, e2⟩ := hZ.out.2.1.blk hx
  exact ne_ty e2 hb (by decide) e
set_option maxRecDepth 100000 in
set_option maxHeartbeats 400000 in
theorem g_len (h : RwAt w f B R) (hT : Shaped5 w) : Calls Tryz.prog 38 #[.agg (rwA f)] w fun e w' => PgC w 1 (lenC B) e w' := by
  have HX : Hid (∀ u, Below ((w.alloc (rwB f)).alloc pgZ).heap.size ((w.alloc (rwB f)).alloc pgZ) u → Sr w.heap.size f u) := fun u k => (pw_facts k).1
  have HX2 : Hid (∀ u, Below ((w.alloc (rwB f)).alloc pgZ).heap.size ((w.alloc (rwB f)).alloc pgZ) u → u.heap[w.heap.size + 1]? = some pgZ ∧ Below w.heap.size w u) := fun u k => (pw_facts k).2
  have HRW : Hid (∀ u, Below ((w.alloc (rwB f)).alloc pgZ).heap.size ((w.alloc (rwB f)).alloc pgZ) u → RwAt u f B R) := fun u k => h.on (pw_facts k).2.2
  have HT : Hid (∀ u, Below ((w.alloc (rwB f)).alloc pgZ).heap.size ((w.alloc (rwB f)).alloc pgZ) u → Shaped5 u) := fun u k => hT.on (pw_facts k).2.2
  have A : Hid (Acc ((w.alloc (rwB f)).alloc pgZ) ((w.alloc (rwB f)).alloc pgZ) _) := rw_acc (HRW.out _ (Below.refl _ _)) (Below.refl _ _)
  have HGD := Lib.hid (len_good B)
  clear h hT
  go_enter Tryz.func38, Tryz.ntmps38
  go_wp2_with fail
  replace A := Lib.hid (A.out.on ((Same.drew _).below _))
  refine wp_region_seqE (Sr w.heap.size f) ((0, true) :: (1, true) :: (2, true) :: (3, false) :: (4, false) :: (5, false) :: (6, false) :: []) follows (by kernel_rfl) (fun _ _ _ _ _ h => h) (HX.out _ A.out.bl) ?_
  (repeat (refine wpSeqE_take (v := ?_) rfl (by rfl) (fun wq hSq => ?_) ?_; rotate_left; (focus ((try dsimp only at hSq); go_simp; try with_reducible rfl)); simp only [Act.put, List.setIfInBounds_toArray, List.set_cons_zero, List.set_cons_succ]))
  (refine wpSeqE_do rfl (by rfl) (fun KK hK => ?_); go_simp)
  refine (c_tellMany _).mono ?_
  rintro e u1 ⟨f1, k1, rfl, h⟩
  replace A := Lib.hid (A.out.more h.out)
  clear h
  refine hK.out _ _ (fun _ => HX.out _ A.out.bl) ?_
  (clear hK KK; try simp only [Act.put, List.setIfInBounds_toArray, List.set_cons_zero, List.set_cons_succ])
  (repeat (refine wpSeqE_take (v := ?_) rfl (by rfl) (fun wq hSq => ?_) ?_; rotate_left; (focus ((try dsimp only at hSq); go_simp; try with_reducible rfl)); simp only [Act.put, List.setIfInBounds_toArray, List.set_cons_zero, List.set_cons_succ]))
  (refine wpSeqE_do rfl (by rfl) (fun KK hK => ?_); go_simp)
  refine hK.out _ _ (fun _ => HX.out _ (A.out.on (bl1 _ _)).bl) ?_
  (clear hK KK; try simp only [Act.put, List.setIfInBounds_toArray, List.set_cons_zero, List.set_cons_succ])
  (repeat (refine wpSeqE_take (v := ?_) rfl (by rfl) (fun wq hSq => ?_) ?_; rotate_left; (focus ((try dsimp only at hSq); go_simp; try with_reducible rfl)); simp only [Act.put, List.setIfInBounds_toArray, List.set_cons_zero, List.set_cons_succ]))
  (refine wpSeqE_do rfl (by rfl) (fun KK hK => ?_); go_simp)
  refine (c_program 1 ((A.out.sub (L' := [(fv f1 k1, manyO), (fv (f 3).1 (f 3).2, loadO (B + 1) 1)]) (by simp)).parts rfl) rfl (Nat.le_of_ble_eq_true rfl) (HT.out _ (A.out.on (bl1 _ _)).bl) HGD.out.len HGD.out.wf HGD.out.ans HGD.out.code).mono ?_
  rintro e u99 ⟨p, n, c, rfl, hZ⟩
  have HBL := Lib.hid ((A.out.on (bl1 _ _)).bl.trans (hZ.out.2.2.mono (A.out.on (bl1 _ _)).bl.size))
  refine hK.out _ _ (fun _ => HX.out _ HBL.out) ?_
  (clear hK KK; try simp only [Act.put, List.setIfInBounds_toArray, List.set_cons_zero, List.set_cons_succ])
  (repeat (refine wpSeqE_take (v := ?_) rfl (by rfl) (fun wq hSq => ?_) ?_; rotate_left; (focus ((try dsimp only at hSq); go_simp; try with_reducible rfl)); simp only [Act.put, List.setIfInBounds_toArray, List.set_cons_zero, List.set_cons_succ]))
  refine wpSeqE_do rfl (by rfl) (fun KK hK => ?_)
  have hb := (HX2.out _ HBL.out).1
  refine wp_store_row 26 _ _ rfl (w.heap.size + 1) (pgA 1 p n c) rfl rfl _ _ hb pgInfo rfl (pg_one _ _ _ _) ?_
  refine hK.out _ _ (fun hn => absurd rfl hn) ?_
  (clear hK KK; try simp only [Act.put])
  refine wpSeqE_nil ?_
  go_wp2_with fail
  have hbl := (HX2.out _ HBL.out).2
  refine pg_back rfl (w.heap.size + 1) 1 p n c rfl (setRow_heap _ _ _ _ _ _ hb) rfl ⟨p, n, c, rfl, hZ.out.1, hZ.out.2.1.keep ⟨by simp, fun x hx => setRow_other _ _ _ _ (fun e => ?_)⟩, hbl.trans ⟨rfl, rfl, rfl, by simp, fun k hk => setRow_other _ _ k _ (by omega)⟩⟩
  obtain ⟨arr, e2⟩ := hZ.out.2.1.blk hx
  exact ne_ty e2 hb (by decide) e
set_option maxRecDepth 100000 in
set_option maxHeartbeats 400000 in
theorem g_all (h : RwAt w f B R) (hT : Shaped5 w) : Calls Tryz.prog 39 #[.agg (rwA f)] w fun e w' => PgC w 1 (allC B R) e w' := by
  have HX : Hid (∀ u, Below ((w.alloc (rwB f)).alloc pgZ).heap.size ((w.alloc (rwB f)).alloc pgZ) u → Sr w.heap.size f u) := fun u k => (pw_facts k).1
  have HX2 : Hid (∀ u, Below ((w.alloc (rwB f)).alloc pgZ).heap.size ((w.alloc (rwB f)).alloc pgZ) u → u.heap[w.heap.size + 1]? = some pgZ ∧ Below w.heap.size w u) := fun u k => (pw_facts k).2
  have HRW : Hid (∀ u, Below ((w.alloc (rwB f)).alloc pgZ).heap.size ((w.alloc (rwB f)).alloc pgZ) u → RwAt u f B R) := fun u k => h.on (pw_facts k).2.2
  have HT : Hid (∀ u, Below ((w.alloc (rwB f)).alloc pgZ).heap.size ((w.alloc (rwB f)).alloc pgZ) u → Shaped5 u) := fun u k => hT.on (pw_facts k).2.2
  have A : Hid (Acc ((w.alloc (rwB f)).alloc pgZ) ((w.alloc (rwB f)).alloc pgZ) _) := rw_acc (HRW.out _ (Below.refl _ _)) (Below.refl _ _)
  have HGD := Lib.hid (all_good B R)
  clear h hT
  go_enter Tryz.func39, Tryz.ntmps39
  go_wp2_with fail
  replace A := Lib.hid (A.out.on ((Same.drew _).below _))
  refine wp_region_seqE (Sr w.heap.size f) ((0, true) :: (7, true) :: (1, false) :: (2, false) :: (3, false) :: (4, false) :: (5, false) :: (6, false) :: (8, false) :: (9, false) :: (10, false) :: (11, false) :: (12, false) :: (13, false) :: (14, false) :: (15, false) :: (16, false) :: (17, false) :: (18, false) :: (19, false) :: []) follows (by kernel_rfl) (fun _ _ _ _ _ h => h) (HX.out _ A.out.bl) ?_
  (repeat (refine wpSeqE_take (v := ?_) rfl (by rfl) (fun wq hSq => ?_) ?_; rotate_left; (focus ((try dsimp only at hSq); go_simp; try with_reducible rfl)); simp only [Act.put, List.setIfInBounds_toArray, List.set_cons_zero, List.set_cons_succ]))
  (refine wpSeqE_do rfl (by rfl) (fun KK hK => ?_); go_simp)
  refine (c_load (HRW.out _ A.out.bl)).mono ?_
  rintro e u1 ⟨f1, k1, rfl, h⟩
  replace A := Lib.hid (A.out.more h.out)
  clear h
  refine hK.out _ _ (fun _ => HX.out _ A.out.bl) ?_
  (clear hK KK; try simp only [Act.put, List.setIfInBounds_toArray, List.set_cons_zero, List.set_cons_succ])
  (repeat (refine wpSeqE_take (v := ?_) rfl (by rfl) (fun wq hSq => ?_) ?_; rotate_left; (focus ((try dsimp only at hSq); go_simp; try with_reducible rfl)); simp only [Act.put, List.setIfInBounds_toArray, List.set_cons_zero, List.set_cons_succ]))
  (refine wpSeqE_do rfl (by rfl) (fun KK hK => ?_); go_simp)
  refine (c_mark _ (wf_small (by decide)) _).mono ?_
  rintro e u2 ⟨f2, k2, rfl, h⟩
  replace A := Lib.hid (A.out.more h.out)
  clear h
  refine hK.out _ _ (fun _ => HX.out _ A.out.bl) ?_
  (clear hK KK; try simp only [Act.put, List.setIfInBounds_toArray, List.set_cons_zero, List.set_cons_succ])
  (repeat (refine wpSeqE_take (v := ?_) rfl (by rfl) (fun wq hSq => ?_) ?_; rotate_left; (focus ((try dsimp only at hSq); go_simp; try with_reducible rfl)); simp only [Act.put, List.setIfInBounds_toArray, List.set_cons_zero, List.set_cons_succ]))
  (refine wpSeqE_do rfl (by rfl) (fun KK hK => ?_); go_simp)
  refine (c_get _ _).mono ?_
  rintro e u3 ⟨f3, k3, rfl, h⟩
  replace A := Lib.hid (A.out.more h.out)
  clear h
  refine hK.out _ _ (fun _ => HX.out _ A.out.bl) ?_
  (clear hK KK; try simp only [Act.put, List.setIfInBounds_toArray, List.set_cons_zero, List.set_cons_succ])
  (repeat (refine wpSeqE_take (v := ?_) rfl (by rfl) (fun wq hSq => ?_) ?_; rotate_left; (focus ((try dsimp only at hSq); go_simp; try with_reducible rfl)); simp only [Act.put, List.setIfInBounds_toArray, List.set_cons_zero, List.set_cons_succ]))
  (refine wpSeqE_do rfl (by rfl) (fun KK hK => ?_); go_simp)
  refine (c_get _ _).mono ?_
  rintro e u4 ⟨f4, k4, rfl, h⟩
  replace A := Lib.hid (A.out.more h.out)
  clear h
  refine hK.out _ _ (fun _ => HX.out _ A.out.bl) ?_
  (clear hK KK; try simp only [Act.put, List.setIfInBounds_toArray, List.set_cons_zero, List.set_cons_succ])
  (repeat (refine wpSeqE_take (v := ?_) rfl (by rfl) (fun wq hSq => ?_) ?_; rotate_left; (focus ((try dsimp only at hSq); go_simp; try with_reducible rfl)); simp only [Act.put, List.setIfInBounds_toArray, List.set_cons_zero, List.set_cons_succ]))
  (refine wpSeqE_do rfl (by rfl) (fun KK hK => ?_); go_simp)
  refine (c_two _ _).mono ?_
  rintro e u5 ⟨f5, k5, rfl, h⟩
  replace A := Lib.hid (A.out.more h.out)
  clear h
  refine hK.out _ _ (fun _ => HX.out _ A.out.bl) ?_
  (clear hK KK; try simp only [Act.put, List.setIfInBounds_toArray, List.set_cons_zero, List.set_cons_succ])
  (repeat (refine wpSeqE_take (v := ?_) rfl (by rfl) (fun wq hSq => ?_) ?_; rotate_left; (focus ((try dsimp only at hSq); go_simp; try with_reducible rfl)); simp only [Act.put, List.setIfInBounds_toArray, List.set_cons_zero, List.set_cons_succ]))
  (refine wpSeqE_do rfl (by rfl) (fun KK hK => ?_); go_simp)
  refine (c_to _ _ (wf_small (by decide)) _).mono ?_
  rintro e u6 ⟨f6, k6, rfl, h⟩
  replace A := Lib.hid (A.out.more h.out)
  clear h
  refine hK.out _ _ (fun _ => HX.out _ A.out.bl) ?_
  (clear hK KK; try simp only [Act.put, List.setIfInBounds_toArray, List.set_cons_zero, List.set_cons_succ])
  (repeat (refine wpSeqE_take (v := ?_) rfl (by rfl) (fun wq hSq => ?_) ?_; rotate_left; (focus ((try dsimp only at hSq); go_simp; try with_reducible rfl)); simp only [Act.put, List.setIfInBounds_toArray, List.set_cons_zero, List.set_cons_succ]))
  (refine wpSeqE_do rfl (by rfl) (fun KK hK => ?_); go_simp)
  refine (c_get _ _).mono ?_
  rintro e u7 ⟨f7, k7, rfl, h⟩
  replace A := Lib.hid (A.out.more h.out)
  clear h
  refine hK.out _ _ (fun _ => HX.out _ A.out.bl) ?_
  (clear hK KK; try simp only [Act.put, List.setIfInBounds_toArray, List.set_cons_zero, List.set_cons_succ])
  (repeat (refine wpSeqE_take (v := ?_) rfl (by rfl) (fun wq hSq => ?_) ?_; rotate_left; (focus ((try dsimp only at hSq); go_simp; try with_reducible rfl)); simp only [Act.put, List.setIfInBounds_toArray, List.set_cons_zero, List.set_cons_succ]))
  (refine wpSeqE_do rfl (by rfl) (fun KK hK => ?_); go_simp)
  refine (c_tell (HRW.out _ A.out.bl) (A.out.it (fv f7 k7, [⟨0, 7, 2⟩]) (by simp))).mono ?_
  rintro e u8 ⟨f8, k8, rfl, h⟩
  replace A := Lib.hid (A.out.more h.out)
  clear h
  refine hK.out _ _ (fun _ => HX.out _ A.out.bl) ?_
  (clear hK KK; try simp only [Act.put, List.setIfInBounds_toArray, List.set_cons_zero, List.set_cons_succ])
  (repeat (refine wpSeqE_take (v := ?_) rfl (by rfl) (fun wq hSq => ?_) ?_; rotate_left; (focus ((try dsimp only at hSq); go_simp; try with_reducible rfl)); simp only [Act.put, List.setIfInBounds_toArray, List.set_cons_zero, List.set_cons_succ]))
  (refine wpSeqE_do rfl (by rfl) (fun KK hK => ?_); go_simp)
  refine (c_get _ _).mono ?_
  rintro e u9 ⟨f9, k9, rfl, h⟩
  replace A := Lib.hid (A.out.more h.out)
  clear h
  refine hK.out _ _ (fun _ => HX.out _ A.out.bl) ?_
  (clear hK KK; try simp only [Act.put, List.setIfInBounds_toArray, List.set_cons_zero, List.set_cons_succ])
  (repeat (refine wpSeqE_take (v := ?_) rfl (by rfl) (fun wq hSq => ?_) ?_; rotate_left; (focus ((try dsimp only at hSq); go_simp; try with_reducible rfl)); simp only [Act.put, List.setIfInBounds_toArray, List.set_cons_zero, List.set_cons_succ]))
  (refine wpSeqE_do rfl (by rfl) (fun KK hK => ?_); go_simp)
  refine (c_push _ _).mono ?_
  rintro e u10 ⟨f10, k10, rfl, h⟩
  replace A := Lib.hid (A.out.more h.out)
  clear h
  refine hK.out _ _ (fun _ => HX.out _ A.out.bl) ?_
  (clear hK KK; try simp only [Act.put, List.setIfInBounds_toArray, List.set_cons_zero, List.set_cons_succ])
  (repeat (refine wpSeqE_take (v := ?_) rfl (by rfl) (fun wq hSq => ?_) ?_; rotate_left; (focus ((try dsimp only at hSq); go_simp; try with_reducible rfl)); simp only [Act.put, List.setIfInBounds_toArray, List.set_cons_zero, List.set_cons_succ]))
  (refine wpSeqE_do rfl (by rfl) (fun KK hK => ?_); go_simp)
  refine (c_two _ _).mono ?_
  rintro e u11 ⟨f11, k11, rfl, h⟩
  replace A := Lib.hid (A.out.more h.out)
  clear h
  refine hK.out _ _ (fun _ => HX.out _ A.out.bl) ?_
  (clear hK KK; try simp only [Act.put, List.setIfInBounds_toArray, List.set_cons_zero, List.set_cons_succ])
  (repeat (refine wpSeqE_take (v := ?_) rfl (by rfl) (fun wq hSq => ?_) ?_; rotate_left; (focus ((try dsimp only at hSq); go_simp; try with_reducible rfl)); simp only [Act.put, List.setIfInBounds_toArray, List.set_cons_zero, List.set_cons_succ]))
  (refine wpSeqE_do rfl (by rfl) (fun KK hK => ?_); go_simp)
  refine (c_set _ _).mono ?_
  rintro e u12 ⟨f12, k12, rfl, h⟩
  replace A := Lib.hid (A.out.more h.out)
  clear h
  refine hK.out _ _ (fun _ => HX.out _ A.out.bl) ?_
  (clear hK KK; try simp only [Act.put, List.setIfInBounds_toArray, List.set_cons_zero, List.set_cons_succ])
  (repeat (refine wpSeqE_take (v := ?_) rfl (by rfl) (fun wq hSq => ?_) ?_; rotate_left; (focus ((try dsimp only at hSq); go_simp; try with_reducible rfl)); simp only [Act.put, List.setIfInBounds_toArray, List.set_cons_zero, List.set_cons_succ]))
  (refine wpSeqE_do rfl (by rfl) (fun KK hK => ?_); go_simp)
  refine (c_to _ _ (wf_small (by decide)) _).mono ?_
  rintro e u13 ⟨f13, k13, rfl, h⟩
  replace A := Lib.hid (A.out.more h.out)
  clear h
  refine hK.out _ _ (fun _ => HX.out _ A.out.bl) ?_
  (clear hK KK; try simp only [Act.put, List.setIfInBounds_toArray, List.set_cons_zero, List.set_cons_succ])
  (repeat (refine wpSeqE_take (v := ?_) rfl (by rfl) (fun wq hSq => ?_) ?_; rotate_left; (focus ((try dsimp only at hSq); go_simp; try with_reducible rfl)); simp only [Act.put, List.setIfInBounds_toArray, List.set_cons_zero, List.set_cons_succ]))
  (refine wpSeqE_do rfl (by rfl) (fun KK hK => ?_); go_simp)
  refine (c_mark _ (wf_small (by decide)) _).mono ?_
  rintro e u14 ⟨f14, k14, rfl, h⟩
  replace A := Lib.hid (A.out.more h.out)
  clear h
  refine hK.out _ _ (fun _ => HX.out _ A.out.bl) ?_
  (clear hK KK; try simp only [Act.put, List.setIfInBounds_toArray, List.set_cons_zero, List.set_cons_succ])
  (repeat (refine wpSeqE_take (v := ?_) rfl (by rfl) (fun wq hSq => ?_) ?_; rotate_left; (focus ((try dsimp only at hSq); go_simp; try with_reducible rfl)); simp only [Act.put, List.setIfInBounds_toArray, List.set_cons_zero, List.set_cons_succ]))
  (refine wpSeqE_do rfl (by rfl) (fun KK hK => ?_); go_simp)
  refine (c_halt _).mono ?_
  rintro e u15 ⟨f15, k15, rfl, h⟩
  replace A := Lib.hid (A.out.more h.out)
  clear h
  refine hK.out _ _ (fun _ => HX.out _ A.out.bl) ?_
  (clear hK KK; try simp only [Act.put, List.setIfInBounds_toArray, List.set_cons_zero, List.set_cons_succ])
  (repeat (refine wpSeqE_take (v := ?_) rfl (by rfl) (fun wq hSq => ?_) ?_; rotate_left; (focus ((try dsimp only at hSq); go_simp; try with_reducible rfl)); simp only [Act.put, List.setIfInBounds_toArray, List.set_cons_zero, List.set_cons_succ]))
  (refine wpSeqE_do rfl (by rfl) (fun KK hK => ?_); go_simp)
  refine hK.out _ _ (fun _ => HX.out _ (A.out.on (bl1 _ _)).bl) ?_
  (clear hK KK; try simp only [Act.put, List.setIfInBounds_toArray, List.set_cons_zero, List.set_cons_succ])
  (repeat (refine wpSeqE_take (v := ?_) rfl (by rfl) (fun wq hSq => ?_) ?_; rotate_left; (focus ((try dsimp only at hSq); go_simp; try with_reducible rfl)); simp only [Act.put, List.setIfInBounds_toArray, List.set_cons_zero, List.set_cons_succ]))
  (refine wpSeqE_do rfl (by rfl) (fun KK hK => ?_); go_simp)
  refine (c_program 1 ((A.out.sub (L' := [(fv f15 k15, [⟨0, 20, 0⟩]), (fv f14 k14, [⟨3, 0, 2⟩]), (fv f13 k13, [⟨2, 11, 1⟩]), (fv f12 k12, [⟨0, 8, 2⟩]), (fv f11 k11, [⟨0, 10, 1⟩]), (fv f10 k10, [⟨1, 0, 1⟩]), (fv f9 k9, [⟨0, 7, 2⟩]), (fv f8 k8, telO B R [⟨0, 7, 2⟩]), (fv f6 k6, [⟨2, 13, 2⟩]), (fv f5 k5, [⟨0, 10, 8⟩]), (fv f4 k4, [⟨0, 7, 1⟩]), (fv f3 k3, [⟨0, 7, 2⟩]), (fv f2 k2, [⟨3, 0, 1⟩]), (fv f1 k1, ldO B)]) (by simp)).parts rfl) rfl (Nat.le_of_ble_eq_true rfl) (HT.out _ (A.out.on (bl1 _ _)).bl) HGD.out.len HGD.out.wf HGD.out.ans HGD.out.code).mono ?_
  rintro e u99 ⟨p, n, c, rfl, hZ⟩
  have HBL := Lib.hid ((A.out.on (bl1 _ _)).bl.trans (hZ.out.2.2.mono (A.out.on (bl1 _ _)).bl.size))
  refine hK.out _ _ (fun _ => HX.out _ HBL.out) ?_
  (clear hK KK; try simp only [Act.put, List.setIfInBounds_toArray, List.set_cons_zero, List.set_cons_succ])
  (repeat (refine wpSeqE_take (v := ?_) rfl (by rfl) (fun wq hSq => ?_) ?_; rotate_left; (focus ((try dsimp only at hSq); go_simp; try with_reducible rfl)); simp only [Act.put, List.setIfInBounds_toArray, List.set_cons_zero, List.set_cons_succ]))
  refine wpSeqE_do rfl (by rfl) (fun KK hK => ?_)
  have hb := (HX2.out _ HBL.out).1
  refine wp_store_row 26 _ _ rfl (w.heap.size + 1) (pgA 1 p n c) rfl rfl _ _ hb pgInfo rfl (pg_one _ _ _ _) ?_
  refine hK.out _ _ (fun hn => absurd rfl hn) ?_
  (clear hK KK; try simp only [Act.put])
  refine wpSeqE_nil ?_
  go_wp2_with fail
  have hbl := (HX2.out _ HBL.out).2
  refine pg_back rfl (w.heap.size + 1) 1 p n c rfl (setRow_heap _ _ _ _ _ _ hb) rfl ⟨p, n, c, rfl, hZ.out.1, hZ.out.2.1.keep ⟨by simp, fun x hx => setRow_other _ _ _ _ (fun e => ?_)⟩, hbl.trans ⟨rfl, rfl, rfl, by simp, fun k hk => setRow_other _ _ k _ (by omega)⟩⟩
  obtain ⟨arr, e2⟩ := hZ.out.2.1.blk hx
  exact ne_ty e2 hb (by decide) e
set_option maxRecDepth 100000 in
set_option maxHeartbeats 400000 in
theorem g_at (h : RwAt w f B R) (hT : Shaped5 w) : Calls Tryz.prog 37 #[.agg (rwA f)] w fun e w' => PgC w 1 (atC B R) e w' := by
  have HX : Hid (∀ u, Below ((w.alloc (rwB f)).alloc pgZ).heap.size ((w.alloc (rwB f)).alloc pgZ) u → Sr w.heap.size f u) := fun u k => (pw_facts k).1
  have HX2 : Hid (∀ u, Below ((w.alloc (rwB f)).alloc pgZ).heap.size ((w.alloc (rwB f)).alloc pgZ) u → u.heap[w.heap.size + 1]? = some pgZ ∧ Below w.heap.size w u) := fun u k => (pw_facts k).2
  have HRW : Hid (∀ u, Below ((w.alloc (rwB f)).alloc pgZ).heap.size ((w.alloc (rwB f)).alloc pgZ) u → RwAt u f B R) := fun u k => h.on (pw_facts k).2.2
  have HT : Hid (∀ u, Below ((w.alloc (rwB f)).alloc pgZ).heap.size ((w.alloc (rwB f)).alloc pgZ) u → Shaped5 u) := fun u k => hT.on (pw_facts k).2.2
  have A : Hid (Acc ((w.alloc (rwB f)).alloc pgZ) ((w.alloc (rwB f)).alloc pgZ) _) := rw_acc (HRW.out _ (Below.refl _ _)) (Below.refl _ _)
  have HGD := Lib.hid (at_good B R)
  clear h hT
  go_enter Tryz.func37, Tryz.ntmps37
  go_upto_region 2 with (go_at_call 69; refine (c_do _ _ _).mono ?_; rintro e u0 ⟨f0, k0, rfl, h⟩; replace A := Lib.hid (A.out.more h.out); clear h)
  replace A := Lib.hid (A.out.on ((Same.drew _).below _))
  refine wp_region_seqE (Sr w.heap.size f) ((0, true) :: (2, true) :: (6, true) :: (7, true) :: (8, true) :: (11, true) :: (12, true) :: (1, false) :: (3, false) :: (4, false) :: (5, false) :: (9, false) :: (10, false) :: (13, false) :: (14, false) :: (15, false) :: (16, false) :: (17, false) :: (18, false) :: []) follows (by kernel_rfl) (fun _ _ _ _ _ h => h) (HX.out _ A.out.bl) ?_
  (repeat (refine wpSeqE_take (v := ?_) rfl (by rfl) (fun wq hSq => ?_) ?_; rotate_left; (focus ((try dsimp only at hSq); go_simp; try with_reducible rfl)); simp only [Act.put, List.setIfInBounds_toArray, List.set_cons_zero, List.set_cons_succ]))
  (refine wpSeqE_do rfl (by rfl) (fun KK hK => ?_); go_simp)
  refine (c_load (HRW.out _ A.out.bl)).mono ?_
  rintro e u1 ⟨f1, k1, rfl, h⟩
  replace A := Lib.hid (A.out.more h.out)
  clear h
  refine hK.out _ _ (fun _ => HX.out _ A.out.bl) ?_
  (clear hK KK; try simp only [Act.put, List.setIfInBounds_toArray, List.set_cons_zero, List.set_cons_succ])
  (repeat (refine wpSeqE_take (v := ?_) rfl (by rfl) (fun wq hSq => ?_) ?_; rotate_left; (focus ((try dsimp only at hSq); go_simp; try with_reducible rfl)); simp only [Act.put, List.setIfInBounds_toArray, List.set_cons_zero, List.set_cons_succ]))
  (refine wpSeqE_do rfl (by rfl) (fun KK hK => ?_); go_simp)
  refine (c_get _ _).mono ?_
  rintro e u2 ⟨f2, k2, rfl, h⟩
  replace A := Lib.hid (A.out.more h.out)
  clear h
  refine hK.out _ _ (fun _ => HX.out _ A.out.bl) ?_
  (clear hK KK; try simp only [Act.put, List.setIfInBounds_toArray, List.set_cons_zero, List.set_cons_succ])
  (repeat (refine wpSeqE_take (v := ?_) rfl (by rfl) (fun wq hSq => ?_) ?_; rotate_left; (focus ((try dsimp only at hSq); go_simp; try with_reducible rfl)); simp only [Act.put, List.setIfInBounds_toArray, List.set_cons_zero, List.set_cons_succ]))
  (refine wpSeqE_do rfl (by rfl) (fun KK hK => ?_); go_simp)
  refine (c_two _ _).mono ?_
  rintro e u3 ⟨f3, k3, rfl, h⟩
  replace A := Lib.hid (A.out.more h.out)
  clear h
  refine hK.out _ _ (fun _ => HX.out _ A.out.bl) ?_
  (clear hK KK; try simp only [Act.put, List.setIfInBounds_toArray, List.set_cons_zero, List.set_cons_succ])
  (repeat (refine wpSeqE_take (v := ?_) rfl (by rfl) (fun wq hSq => ?_) ?_; rotate_left; (focus ((try dsimp only at hSq); go_simp; try with_reducible rfl)); simp only [Act.put, List.setIfInBounds_toArray, List.set_cons_zero, List.set_cons_succ]))
  (refine wpSeqE_do rfl (by rfl) (fun KK hK => ?_); go_simp)
  refine (c_to _ _ (wf_small (by decide)) _).mono ?_
  rintro e u4 ⟨f4, k4, rfl, h⟩
  replace A := Lib.hid (A.out.more h.out)
  clear h
  refine hK.out _ _ (fun _ => HX.out _ A.out.bl) ?_
  (clear hK KK; try simp only [Act.put, List.setIfInBounds_toArray, List.set_cons_zero, List.set_cons_succ])
  (repeat (refine wpSeqE_take (v := ?_) rfl (by rfl) (fun wq hSq => ?_) ?_; rotate_left; (focus ((try dsimp only at hSq); go_simp; try with_reducible rfl)); simp only [Act.put, List.setIfInBounds_toArray, List.set_cons_zero, List.set_cons_succ]))
  (refine wpSeqE_do rfl (by rfl) (fun KK hK => ?_); go_simp)
  refine (c_one _ _).mono ?_
  rintro e u5 ⟨f5, k5, rfl, h⟩
  replace A := Lib.hid (A.out.more h.out)
  clear h
  refine hK.out _ _ (fun _ => HX.out _ A.out.bl) ?_
  (clear hK KK; try simp only [Act.put, List.setIfInBounds_toArray, List.set_cons_zero, List.set_cons_succ])
  (repeat (refine wpSeqE_take (v := ?_) rfl (by rfl) (fun wq hSq => ?_) ?_; rotate_left; (focus ((try dsimp only at hSq); go_simp; try with_reducible rfl)); simp only [Act.put, List.setIfInBounds_toArray, List.set_cons_zero, List.set_cons_succ]))
  (refine wpSeqE_do rfl (by rfl) (fun KK hK => ?_); go_simp)
  refine (c_to _ _ (wf_small (by decide)) _).mono ?_
  rintro e u6 ⟨f6, k6, rfl, h⟩
  replace A := Lib.hid (A.out.more h.out)
  clear h
  refine hK.out _ _ (fun _ => HX.out _ A.out.bl) ?_
  (clear hK KK; try simp only [Act.put, List.setIfInBounds_toArray, List.set_cons_zero, List.set_cons_succ])
  (repeat (refine wpSeqE_take (v := ?_) rfl (by rfl) (fun wq hSq => ?_) ?_; rotate_left; (focus ((try dsimp only at hSq); go_simp; try with_reducible rfl)); simp only [Act.put, List.setIfInBounds_toArray, List.set_cons_zero, List.set_cons_succ]))
  (refine wpSeqE_do rfl (by rfl) (fun KK hK => ?_); go_simp)
  refine (c_tell (HRW.out _ A.out.bl) (A.out.it (fv f0 k0, [⟨0, 6, 0⟩]) (by simp))).mono ?_
  rintro e u7 ⟨f7, k7, rfl, h⟩
  replace A := Lib.hid (A.out.more h.out)
  clear h
  refine hK.out _ _ (fun _ => HX.out _ A.out.bl) ?_
  (clear hK KK; try simp only [Act.put, List.setIfInBounds_toArray, List.set_cons_zero, List.set_cons_succ])
  (repeat (refine wpSeqE_take (v := ?_) rfl (by rfl) (fun wq hSq => ?_) ?_; rotate_left; (focus ((try dsimp only at hSq); go_simp; try with_reducible rfl)); simp only [Act.put, List.setIfInBounds_toArray, List.set_cons_zero, List.set_cons_succ]))
  (refine wpSeqE_do rfl (by rfl) (fun KK hK => ?_); go_simp)
  refine (c_mark _ (wf_small (by decide)) _).mono ?_
  rintro e u8 ⟨f8, k8, rfl, h⟩
  replace A := Lib.hid (A.out.more h.out)
  clear h
  refine hK.out _ _ (fun _ => HX.out _ A.out.bl) ?_
  (clear hK KK; try simp only [Act.put, List.setIfInBounds_toArray, List.set_cons_zero, List.set_cons_succ])
  (repeat (refine wpSeqE_take (v := ?_) rfl (by rfl) (fun wq hSq => ?_) ?_; rotate_left; (focus ((try dsimp only at hSq); go_simp; try with_reducible rfl)); simp only [Act.put, List.setIfInBounds_toArray, List.set_cons_zero, List.set_cons_succ]))
  (refine wpSeqE_do rfl (by rfl) (fun KK hK => ?_); go_simp)
  refine (c_halt _).mono ?_
  rintro e u9 ⟨f9, k9, rfl, h⟩
  replace A := Lib.hid (A.out.more h.out)
  clear h
  refine hK.out _ _ (fun _ => HX.out _ A.out.bl) ?_
  (clear hK KK; try simp only [Act.put, List.setIfInBounds_toArray, List.set_cons_zero, List.set_cons_succ])
  (repeat (refine wpSeqE_take (v := ?_) rfl (by rfl) (fun wq hSq => ?_) ?_; rotate_left; (focus ((try dsimp only at hSq); go_simp; try with_reducible rfl)); simp only [Act.put, List.setIfInBounds_toArray, List.set_cons_zero, List.set_cons_succ]))
  (refine wpSeqE_do rfl (by rfl) (fun KK hK => ?_); go_simp)
  refine hK.out _ _ (fun _ => HX.out _ (A.out.on (bl1 _ _)).bl) ?_
  (clear hK KK; try simp only [Act.put, List.setIfInBounds_toArray, List.set_cons_zero, List.set_cons_succ])
  (repeat (refine wpSeqE_take (v := ?_) rfl (by rfl) (fun wq hSq => ?_) ?_; rotate_left; (focus ((try dsimp only at hSq); go_simp; try with_reducible rfl)); simp only [Act.put, List.setIfInBounds_toArray, List.set_cons_zero, List.set_cons_succ]))
  (refine wpSeqE_do rfl (by rfl) (fun KK hK => ?_); go_simp)
  refine (c_program 1 ((A.out.sub (L' := [(fv f9 k9, [⟨0, 20, 0⟩]), (fv f8 k8, [⟨3, 0, 2⟩]), (fv f7 k7, telO B R [⟨0, 6, 0⟩]), (fv f6 k6, [⟨2, 12, 2⟩]), (fv f5 k5, [⟨0, 9, 6⟩]), (fv (f 7).1 (f 7).2, foldO R), (fv f0 k0, [⟨0, 6, 0⟩]), (fv f4 k4, [⟨2, 13, 2⟩]), (fv f3 k3, [⟨0, 10, 8⟩]), (fv f2 k2, [⟨0, 7, 1⟩]), (fv f0 k0, [⟨0, 6, 0⟩]), (fv f1 k1, ldO B)]) (by simp)).parts rfl) rfl (Nat.le_of_ble_eq_true rfl) (HT.out _ (A.out.on (bl1 _ _)).bl) HGD.out.len HGD.out.wf HGD.out.ans HGD.out.code).mono ?_
  rintro e u99 ⟨p, n, c, rfl, hZ⟩
  have HBL := Lib.hid ((A.out.on (bl1 _ _)).bl.trans (hZ.out.2.2.mono (A.out.on (bl1 _ _)).bl.size))
  refine hK.out _ _ (fun _ => HX.out _ HBL.out) ?_
  (clear hK KK; try simp only [Act.put, List.setIfInBounds_toArray, List.set_cons_zero, List.set_cons_succ])
  (repeat (refine wpSeqE_take (v := ?_) rfl (by rfl) (fun wq hSq => ?_) ?_; rotate_left; (focus ((try dsimp only at hSq); go_simp; try with_reducible rfl)); simp only [Act.put, List.setIfInBounds_toArray, List.set_cons_zero, List.set_cons_succ]))
  refine wpSeqE_do rfl (by rfl) (fun KK hK => ?_)
  have hb := (HX2.out _ HBL.out).1
  refine wp_store_row 26 _ _ rfl (w.heap.size + 1) (pgA 1 p n c) rfl rfl _ _ hb pgInfo rfl (pg_one _ _ _ _) ?_
  refine hK.out _ _ (fun hn => absurd rfl hn) ?_
  (clear hK KK; try simp only [Act.put])
  refine wpSeqE_nil ?_
  go_wp2_with fail
  have hbl := (HX2.out _ HBL.out).2
  refine pg_back rfl (w.heap.size + 1) 1 p n c rfl (setRow_heap _ _ _ _ _ _ hb) rfl ⟨p, n, c, rfl, hZ.out.1, hZ.out.2.1.keep ⟨by simp, fun x hx => setRow_other _ _ _ _ (fun e => ?_)⟩, hbl.trans ⟨rfl, rfl, rfl, by simp, fun k hk => setRow_other _ _ k _ (by omega)⟩⟩
  obtain ⟨arr, e2⟩ := hZ.out.2.1.blk hx
  exact ne_ty e2 hb (by decide) e
end
end Go.Proofs.YtaliehikdidiaaaGreatDoor.Dq
namespace Go.Proofs.YtaliehikdidiaaaGreatDoor.Dq
open Go.ChangeShapes Go.WideShapes Go.ChangeAt Go.RowKit Num Go.Maps As
open Go.ChangeMaps Go.MapKept
attribute [local go_sem] run_store_float frombits_run bits_run
def roomV (c : Int) : Int := if c < 3 then 0 else if 18 ≤ c then 16 else c - 2
theorem roomV_in (c : Int) : 0 ≤ roomV c ∧ roomV c ≤ 16 := by
  unfold roomV
  split
  · omega
  · split <;> omega
set_option maxRecDepth 100000 in
theorem room_any (c : Int) (hc : c ≤ 9223372036854775807) (w : World) : Calls Tryz.prog 12 #[.int .i64 c] w fun e w' => e = .returned (.int .i64 (roomV c)) ∧ w' = w := by
  unfold roomV
  by_cases h : c < 3
  · rw [if_pos h]
    have h2 : c ≤ 2 := by omega
    go_enter Tryz.func12, Tryz.ntmps12
    go_wp2
    go_ret
    exact ⟨rfl, rfl⟩
  · rw [if_neg h]
    have h0 : ¬ c ≤ 2 := by omega
    have h1 : wrap64 (c - 2) = c - 2 := by unfold wrap64; omega
    by_cases h3 : 18 ≤ c
    · rw [if_pos h3]
      have h4 : 16 ≤ c - 2 := by omega
      have h5 : ¬ c - 2 < 16 := by omega
      go_enter Tryz.func12, Tryz.ntmps12
      go_wp2
      go_ret
      refine ⟨?_, rfl⟩
      first | rfl | (congr 2; omega)
    · rw [if_neg h3]
      have h4 : ¬ 16 ≤ c - 2 := by omega
      have h5 : c - 2 < 16 := by omega
      go_enter Tryz.func12, Tryz.ntmps12
      go_wp2
      go_ret
      refine ⟨?_, rfl⟩
      first | rfl | (congr 2; omega)
abbrev dqZ : Obj := .cells #[.int .i64 0, .slice none 0 0, .int .i64 0, .slice none 0 0, .int .i64 0, .slice none 0 0, .int .i64 0, .slice none 0 0, .int .i64 0, .slice none 0 0, .int .i64 0, .slice none 0 0, .int .i64 0, .slice none 0 0] 28
structure PAcc (W u : World) (L : List (Option Addr × Nat × Nat × List Ins)) : Prop where
  bl : Below W.heap.size W u
  it : ∀ q ∈ L, q.2.1 = q.2.2.2.length ∧ RowW 90 3 u q.1 q.2.2.1 q.2.1 (codC q.2.2.2)
theorem PAcc.more {W u u' : World} {L : List (Option Addr × Nat × Nat × List Ins)} {cs : List Ins} (h : PAcc W u L) (q : Option Addr × Nat × Nat) (k : q.2.1 = cs.length ∧ RowW 90 3 u' q.1 q.2.2 q.2.1 (codC cs) ∧ Below u.heap.size u u') : PAcc W u' ((q.1, q.2.1, q.2.2, cs) :: L) :=
  ⟨h.bl.trans (k.2.2.mono h.bl.size), fun x hx => by
    rcases List.mem_cons.1 hx with rfl | hx
    · exact ⟨k.1, k.2.1⟩
    · exact ⟨(h.it x hx).1, (h.it x hx).2.keep (kept_below k.2.2 (h.it x hx).2.blw)⟩⟩
structure Ptr where
  p : Option Addr
  n : Nat
  c : Nat
def pick7 (a0 a1 a2 a3 a4 a5 a6 : Ptr) : Nat → Ptr
  | 0 => a0
  | 1 => a1
  | 2 => a2
  | 3 => a3
  | 4 => a4
  | 5 => a5
  | _ => a6
abbrev dqA (q : Nat → Ptr) : Array Value := #[.int .i64 2, .slice (q 0).p (q 0).n (q 0).c, .int .i64 2, .slice (q 1).p (q 1).n (q 1).c, .int .i64 2, .slice (q 2).p (q 2).n (q 2).c, .int .i64 2, .slice (q 3).p (q 3).n (q 3).c, .int .i64 1, .slice (q 4).p (q 4).n (q 4).c, .int .i64 1, .slice (q 5).p (q 5).n (q 5).c, .int .i64 1, .slice (q 6).p (q 6).n (q 6).c]
def dequeV (q : Nat → Ptr) : Value := .agg (dqA q)
def deque0 : Value := .agg #[.int .i64 0, .slice none 0 0, .int .i64 0, .slice none 0 0, .int .i64 0, .slice none 0 0, .int .i64 0, .slice none 0 0, .int .i64 0, .slice none 0 0, .int .i64 0, .slice none 0 0, .int .i64 0, .slice none 0 0]
theorem dqInfo : (Tryz.prog.info? 28).map (·.size) = some 14 := by kernel_rfl
theorem dq_one (q : Nat → Ptr) : (dqA q).all (·.oneCell') = true := by simp [Value.oneCell']
structure DqAt (w : World) (B R : Int) (q : Nat → Ptr) : Prop where
  row : ∀ k, k < 7 → (q k).n = (codeOf B R k).length ∧ RowW 90 3 w (q k).p (q k).c (q k).n (codC (codeOf B R k))
theorem DqAt.on {w w' : World} {B R : Int} {q : Nat → Ptr} (h : DqAt w B R q) (k : Below w.heap.size w w') : DqAt w' B R q := ⟨fun i hi => ⟨(h.row i hi).1, (h.row i hi).2.keep (kept_below k (h.row i hi).2.blw)⟩⟩
theorem deque_back {fn : Func} {p r : Tmp} (h : fn.results = #[.cell p 28, .tmp r]) {Q : Ending → World → Prop} {a : Act} {w : World} (g : Nat) (e : Int) {arr : Array Value} (hp : a.tmps.getD p undef = .pointer (some ⟨g, 0, none⟩)) (hu : a.tmps.getD r undef = .int .i64 e)
    (hg : w.heap[g]? = some (.cells arr 28 (0, 0))) (ha : arr.size = 14) (hd : a.defers = []) (hR : Q (.returned (.tuple #[.agg arr, .int .i64 e])) w) : bodyPost Tryz.prog fn Q .ret a w := by
  refine bodyPost_ret (v := .tuple #[.agg arr, .int .i64 e]) ?_ hd hR
  rw [results_cell_tmp h, hp, hu]
  have hl := run_loadVar_row (P := Tryz.prog) w g 28 28 arr (0, 0) _ hg Tryz.underlying28 rfl (by rw [ha]; kernel_rfl)
  simp [asAddr, hl, Result.andThen]
structure Mkw (w u : World) (n : Nat) (f : Nat → Nat × Array Value) (b r : Int) : Prop where
  bl : Below w.heap.size w u
  lt : w.heap.size < n
  row : u.heap[n]? = some (rwB f)
  box : u.heap[w.heap.size]? = some dqZ
  at_ : RwAt u f b r
theorem mkw_of {w u0 : World} {f : Nat → Nat × Array Value} {b r : Int} (h : RwAt u0 f b r) (k : Below (w.alloc dqZ).heap.size (w.alloc dqZ) u0) : Mkw w ((u0.alloc rwZ).setRow u0.heap.size (rwA f)) u0.heap.size f b r := by
  have hs : w.heap.size < u0.heap.size := by have := k.size; simp at this; omega
  have kb : Below u0.heap.size u0 ((u0.alloc rwZ).setRow u0.heap.size (rwA f)) := (bl1 u0 rwZ).trans ⟨rfl, rfl, rfl, by simp, fun k hk => setRow_other _ _ k _ (by omega)⟩
  have e0 := (k.block _ (by simp)).trans (heap_alloc_new w dqZ)
  exact ⟨((bl1 w dqZ).trans (k.mono (by simp))).trans (kb.mono (Nat.le_of_lt hs)), hs, setRow_heap _ _ _ _ _ _ (heap_alloc_new u0 rwZ), (kb.block _ hs).trans e0, h.on kb⟩
theorem Mkw.on {w u v : World} {n : Nat} {f : Nat → Nat × Array Value} {b r : Int} (h : Mkw w u n f b r) (k : Below u.heap.size u v) : Mkw w v n f b r :=
  ⟨h.bl.trans (k.mono h.bl.size), h.lt, (k.block _ (lt_of_block h.row)).trans h.row, (k.block _ (lt_of_block h.box)).trans h.box, h.at_.on k⟩
section
variable {w : World}
set_option maxRecDepth 100000 in
set_option maxHeartbeats 1000000 in
theorem make_yes (hT : Shaped5 w) {b c : Int} (hc : c ≤ 9223372036854775807) (h7 : 3 ≤ c) (h0 : 0 ≤ b) (hf : b + c ≤ 256) : Calls Tryz.prog 10 #[.int .i64 b, .int .i64 c] w fun e w' => ∃ q, e = .returned (.tuple #[dequeV q, .int .i64 0]) ∧ Hid (DqAt w' b (roomV c) q ∧ Below w.heap.size w w') := by
  have HR := Lib.hid (room_any c hc)
  have hr0 := roomV_in c
  have hr1 : roomV c ≠ 0 := by unfold roomV; rw [if_neg (by omega)]; split <;> omega
  obtain ⟨r, hr⟩ : ∃ r, roomV c = r := ⟨_, rfl⟩
  rw [hr] at HR hr0 hr1
  have hB : 0 ≤ b ∧ b ≤ 256 := by omega
  have hR : 0 ≤ r ∧ r ≤ 16 := hr0
  have e0 : (r == 0) = false := by simpa using hr1
  have e1 : ¬ b < 0 := by omega
  have e2 : wrap64 (256 - c) = 256 - c := by unfold wrap64; omega
  have e3 : ¬ 256 - c < b := by omega
  have HRA := Lib.hid (c_rowAt hB hR (w.alloc dqZ))
  have HT0 := Lib.hid hT
  rw [hr]
  clear hT hr hr0 hr1 h7 h0 hf hc hB hR
  go_enter Tryz.func10, Tryz.ntmps10
  go_upto_region 5 with (first
    | (go_at_call 12; refine (HR.out _).mono ?_; rintro e u ⟨rfl, hu⟩; subst u; clear HR)
    | (go_at_call 32; refine HRA.out.mono ?_; rintro e u0 ⟨f, rfl, h⟩; have HF := Lib.hid h.out; clear h HRA)
    | (refine wpList_store_row rfl 86 _ _ rfl u0.heap.size (rwA f) rfl rfl _ _ (heap_alloc_new u0 rwZ) rowInfo rfl (rw_one _) ?_))
  have hM := mkw_of HF.out.1 HF.out.2
  obtain ⟨u1, hu1⟩ : ∃ u1, (u0.alloc rwZ).setRow u0.heap.size (rwA f) = u1 := ⟨_, rfl⟩
  obtain ⟨nb, hnb⟩ : ∃ nb, u0.heap.size = nb := ⟨_, rfl⟩
  rw [hu1, hnb] at hM
  rw [hnb] at hu1
  rw [hnb, hu1]
  have HM : Hid (∀ u, Below u1.heap.size u1 u → Mkw w u nb f b r) := fun u k => hM.on k
  have HT : Hid (∀ u, Below u1.heap.size u1 u → Shaped5 u) := fun u k => (HT0.out.on hM.bl).on k
  have A : Hid (PAcc u1 u1.drew []) := ⟨(Same.drew _).below _, fun q hq => by cases hq⟩
  clear hM hu1 hnb HF HT0
  refine wp_region_seq (Sr nb f) ((0, true) :: (2, true) :: (4, true) :: (6, true) :: (8, true) :: (10, true) :: (12, true) :: (1, false) :: (3, false) :: (5, false) :: (7, false) :: (9, false) :: (11, false) :: (13, false) :: (14, true) :: (15, false) :: (16, true) :: []) follows (by kernel_rfl) (fun _ _ _ _ _ h => h) (sr_of (HM.out _ A.out.bl).row) ?_
  (repeat ((first | (refine wpSeq_take (v := ?_) rfl (by rfl) (fun wq hSq => ?_) ?_; rotate_left; (focus ((try dsimp only at hSq); go_simp; try with_reducible rfl))) | refine wpSeq_skip rfl (by rfl) ?_); simp only [Act.put, List.setIfInBounds_toArray, List.set_cons_zero, List.set_cons_succ]))
  (refine wpSeq_do rfl (by rfl) (fun KK hK => ?_); go_simp)
  refine (g_pushFront (HM.out _ A.out.bl).at_ (HT.out _ A.out.bl)).mono ?_
  rintro e v0 ⟨p0, n0, c0, rfl, h⟩
  replace A := Lib.hid (A.out.more ⟨p0, n0, c0⟩ h.out)
  clear h
  refine hK.out _ _ (sr_of (HM.out _ A.out.bl).row) ?_
  (clear hK KK; try simp only [Act.put, List.setIfInBounds_toArray, List.set_cons_zero, List.set_cons_succ])
  (repeat ((first | (refine wpSeq_take (v := ?_) rfl (by rfl) (fun wq hSq => ?_) ?_; rotate_left; (focus ((try dsimp only at hSq); go_simp; try with_reducible rfl))) | refine wpSeq_skip rfl (by rfl) ?_); simp only [Act.put, List.setIfInBounds_toArray, List.set_cons_zero, List.set_cons_succ]))
  (refine wpSeq_do rfl (by rfl) (fun KK hK => ?_); go_simp)
  refine (g_pushBack (HM.out _ A.out.bl).at_ (HT.out _ A.out.bl)).mono ?_
  rintro e v1 ⟨p1, n1, c1, rfl, h⟩
  replace A := Lib.hid (A.out.more ⟨p1, n1, c1⟩ h.out)
  clear h
  refine hK.out _ _ (sr_of (HM.out _ A.out.bl).row) ?_
  (clear hK KK; try simp only [Act.put, List.setIfInBounds_toArray, List.set_cons_zero, List.set_cons_succ])
  (repeat ((first | (refine wpSeq_take (v := ?_) rfl (by rfl) (fun wq hSq => ?_) ?_; rotate_left; (focus ((try dsimp only at hSq); go_simp; try with_reducible rfl))) | refine wpSeq_skip rfl (by rfl) ?_); simp only [Act.put, List.setIfInBounds_toArray, List.set_cons_zero, List.set_cons_succ]))
  (refine wpSeq_do rfl (by rfl) (fun KK hK => ?_); go_simp)
  refine (g_popFront (HM.out _ A.out.bl).at_ (HT.out _ A.out.bl)).mono ?_
  rintro e v2 ⟨p2, n2, c2, rfl, h⟩
  replace A := Lib.hid (A.out.more ⟨p2, n2, c2⟩ h.out)
  clear h
  refine hK.out _ _ (sr_of (HM.out _ A.out.bl).row) ?_
  (clear hK KK; try simp only [Act.put, List.setIfInBounds_toArray, List.set_cons_zero, List.set_cons_succ])
  (repeat ((first | (refine wpSeq_take (v := ?_) rfl (by rfl) (fun wq hSq => ?_) ?_; rotate_left; (focus ((try dsimp only at hSq); go_simp; try with_reducible rfl))) | refine wpSeq_skip rfl (by rfl) ?_); simp only [Act.put, List.setIfInBounds_toArray, List.set_cons_zero, List.set_cons_succ]))
  (refine wpSeq_do rfl (by rfl) (fun KK hK => ?_); go_simp)
  refine (g_popBack (HM.out _ A.out.bl).at_ (HT.out _ A.out.bl)).mono ?_
  rintro e v3 ⟨p3, n3, c3, rfl, h⟩
  replace A := Lib.hid (A.out.more ⟨p3, n3, c3⟩ h.out)
  clear h
  refine hK.out _ _ (sr_of (HM.out _ A.out.bl).row) ?_
  (clear hK KK; try simp only [Act.put, List.setIfInBounds_toArray, List.set_cons_zero, List.set_cons_succ])
  (repeat ((first | (refine wpSeq_take (v := ?_) rfl (by rfl) (fun wq hSq => ?_) ?_; rotate_left; (focus ((try dsimp only at hSq); go_simp; try with_reducible rfl))) | refine wpSeq_skip rfl (by rfl) ?_); simp only [Act.put, List.setIfInBounds_toArray, List.set_cons_zero, List.set_cons_succ]))
  (refine wpSeq_do rfl (by rfl) (fun KK hK => ?_); go_simp)
  refine (g_at (HM.out _ A.out.bl).at_ (HT.out _ A.out.bl)).mono ?_
  rintro e v4 ⟨p4, n4, c4, rfl, h⟩
  replace A := Lib.hid (A.out.more ⟨p4, n4, c4⟩ h.out)
  clear h
  refine hK.out _ _ (sr_of (HM.out _ A.out.bl).row) ?_
  (clear hK KK; try simp only [Act.put, List.setIfInBounds_toArray, List.set_cons_zero, List.set_cons_succ])
  (repeat ((first | (refine wpSeq_take (v := ?_) rfl (by rfl) (fun wq hSq => ?_) ?_; rotate_left; (focus ((try dsimp only at hSq); go_simp; try with_reducible rfl))) | refine wpSeq_skip rfl (by rfl) ?_); simp only [Act.put, List.setIfInBounds_toArray, List.set_cons_zero, List.set_cons_succ]))
  (refine wpSeq_do rfl (by rfl) (fun KK hK => ?_); go_simp)
  refine (g_len (HM.out _ A.out.bl).at_ (HT.out _ A.out.bl)).mono ?_
  rintro e v5 ⟨p5, n5, c5, rfl, h⟩
  replace A := Lib.hid (A.out.more ⟨p5, n5, c5⟩ h.out)
  clear h
  refine hK.out _ _ (sr_of (HM.out _ A.out.bl).row) ?_
  (clear hK KK; try simp only [Act.put, List.setIfInBounds_toArray, List.set_cons_zero, List.set_cons_succ])
  (repeat ((first | (refine wpSeq_take (v := ?_) rfl (by rfl) (fun wq hSq => ?_) ?_; rotate_left; (focus ((try dsimp only at hSq); go_simp; try with_reducible rfl))) | refine wpSeq_skip rfl (by rfl) ?_); simp only [Act.put, List.setIfInBounds_toArray, List.set_cons_zero, List.set_cons_succ]))
  (refine wpSeq_do rfl (by rfl) (fun KK hK => ?_); go_simp)
  refine (g_all (HM.out _ A.out.bl).at_ (HT.out _ A.out.bl)).mono ?_
  rintro e v6 ⟨p6, n6, c6, rfl, h⟩
  replace A := Lib.hid (A.out.more ⟨p6, n6, c6⟩ h.out)
  clear h
  refine hK.out _ _ (sr_of (HM.out _ A.out.bl).row) ?_
  (clear hK KK; try simp only [Act.put, List.setIfInBounds_toArray, List.set_cons_zero, List.set_cons_succ])
  (repeat ((first | (refine wpSeq_take (v := ?_) rfl (by rfl) (fun wq hSq => ?_) ?_; rotate_left; (focus ((try dsimp only at hSq); go_simp; try with_reducible rfl))) | refine wpSeq_skip rfl (by rfl) ?_); simp only [Act.put, List.setIfInBounds_toArray, List.set_cons_zero, List.set_cons_succ]))
  have hb := (HM.out _ A.out.bl).box
  refine wpSeq_do rfl (by rfl) (fun KK hK => ?_)
  refine wp_store_row 28 _ _ rfl w.heap.size (dqA (pick7 ⟨p0, n0, c0⟩ ⟨p1, n1, c1⟩ ⟨p2, n2, c2⟩ ⟨p3, n3, c3⟩ ⟨p4, n4, c4⟩ ⟨p5, n5, c5⟩ ⟨p6, n6, c6⟩)) rfl rfl _ _ hb dqInfo rfl (dq_one _) ?_
  refine hK.out _ _ (sr_of ((setRow_other _ _ nb _ (fun e => by have := (HM.out _ A.out.bl).lt; omega)).trans (HM.out _ A.out.bl).row)) ?_
  (clear hK KK; try simp only [Act.put])
  (repeat ((first | (refine wpSeq_take (v := ?_) rfl (by rfl) (fun wq hSq => ?_) ?_; rotate_left; (focus ((try dsimp only at hSq); go_simp; try with_reducible rfl))) | refine wpSeq_skip rfl (by rfl) ?_); simp only [Act.put, List.setIfInBounds_toArray, List.set_cons_zero, List.set_cons_succ]))
  refine wpSeq_nil ?_
  go_wp2_with fail
  have hbw := (HM.out _ A.out.bl).bl
  have hrow : ∀ q ∈ ([(p6, n6, c6, allC b r), (p5, n5, c5, lenC b), (p4, n4, c4, atC b r), (p3, n3, c3, obC b r), (p2, n2, c2, ofC b r), (p1, n1, c1, pbC b r), (p0, n0, c0, pfC b r)] : List (Option Addr × Nat × Nat × List Ins)), q.2.1 = q.2.2.2.length ∧ RowW 90 3 (v6.setRow w.heap.size (dqA (pick7 ⟨p0, n0, c0⟩ ⟨p1, n1, c1⟩ ⟨p2, n2, c2⟩ ⟨p3, n3, c3⟩ ⟨p4, n4, c4⟩ ⟨p5, n5, c5⟩ ⟨p6, n6, c6⟩))) q.1 q.2.2.1 q.2.1 (codC q.2.2.2) := fun q hq => ⟨(A.out.it q hq).1, (A.out.it q hq).2.keep ⟨by simp, fun x hx => setRow_other _ _ _ _ (fun e => by
    obtain ⟨arr, e2⟩ := (A.out.it q hq).2.blk hx
    exact ne_ty e2 hb (by decide) e)⟩⟩
  refine deque_back rfl w.heap.size 0 rfl rfl (setRow_heap _ _ _ _ _ _ hb) rfl rfl ⟨pick7 ⟨p0, n0, c0⟩ ⟨p1, n1, c1⟩ ⟨p2, n2, c2⟩ ⟨p3, n3, c3⟩ ⟨p4, n4, c4⟩ ⟨p5, n5, c5⟩ ⟨p6, n6, c6⟩, rfl, ⟨fun k hk => ?_⟩, hbw.trans ⟨rfl, rfl, rfl, by simp, fun k hk => setRow_other _ _ k _ (by omega)⟩⟩
  match k, hk with
  | 0, _ => exact hrow (p0, n0, c0, pfC b r) (by simp)
  | 1, _ => exact hrow (p1, n1, c1, pbC b r) (by simp)
  | 2, _ => exact hrow (p2, n2, c2, ofC b r) (by simp)
  | 3, _ => exact hrow (p3, n3, c3, obC b r) (by simp)
  | 4, _ => exact hrow (p4, n4, c4, atC b r) (by simp)
  | 5, _ => exact hrow (p5, n5, c5, lenC b) (by simp)
  | 6, _ => exact hrow (p6, n6, c6, allC b r) (by simp)
set_option maxRecDepth 100000 in
set_option maxHeartbeats 400000 in
theorem make_no {b c : Int} (hc : c ≤ 9223372036854775807) (hc0 : -9223372036854775808 ≤ c) (hf : ¬ (3 ≤ c ∧ 0 ≤ b ∧ b + c ≤ 256)) : Calls Tryz.prog 10 #[.int .i64 b, .int .i64 c] w fun e w' => e = .returned (.tuple #[deque0, .int .i64 200]) ∧ Below w.heap.size w w' := by
  have HR := Lib.hid (room_any c hc)
  have HS := Lib.hid (heap_alloc_new w dqZ)
  by_cases h7 : c < 3
  · have hr : roomV c = 0 := by unfold roomV; rw [if_pos h7]
    rw [hr] at HR
    clear hf hc0
    go_enter Tryz.func10, Tryz.ntmps10
    go_wp2_with (go_at_call 12; refine (HR.out _).mono ?_; rintro e u ⟨rfl, hu⟩; subst u)
    exact deque_back rfl w.heap.size 200 rfl rfl HS.out rfl rfl ⟨rfl, bl1 _ _⟩
  · have hr := roomV_in c
    have hr1 : roomV c ≠ 0 := by unfold roomV; rw [if_neg h7]; split <;> omega
    obtain ⟨r, hr2⟩ : ∃ r, roomV c = r := ⟨_, rfl⟩
    rw [hr2] at HR hr hr1
    have e0 : (r == 0) = false := by simpa using hr1
    have e2 : wrap64 (256 - c) = 256 - c := by unfold wrap64; omega
    by_cases hb : b < 0
    · clear hf hc0 hr hr1 hr2 h7
      go_enter Tryz.func10, Tryz.ntmps10
      go_wp2_with (go_at_call 12; refine (HR.out _).mono ?_; rintro e u ⟨rfl, hu⟩; subst u)
      exact deque_back rfl w.heap.size 200 rfl rfl HS.out rfl rfl ⟨rfl, bl1 _ _⟩
    · have e3 : 256 - c < b := by omega
      clear hf hc0 hr hr1 hr2 h7
      go_enter Tryz.func10, Tryz.ntmps10
      go_wp2_with (go_at_call 12; refine (HR.out _).mono ?_; rintro e u ⟨rfl, hu⟩; subst u)
      exact deque_back rfl w.heap.size 200 rfl rfl HS.out rfl rfl ⟨rfl, bl1 _ _⟩
end
end Go.Proofs.YtaliehikdidiaaaGreatDoor.Dq
namespace Go.Proofs.YtaliehikdidiaaaGreatDoor.Num
open Ieee
theorem cut_whole (s : Bool) (h d : Nat) : Toward.even.cut s (h * 2 ^ d) d = h := by
  unfold Toward.cut
  rcases Nat.eq_zero_or_pos h with z | z
  · subst z; simp
  · have hne : h * 2 ^ d ≠ 0 := by have := Nat.two_pow_pos d; exact Nat.ne_of_gt (Nat.mul_pos z this)
    have hd : d ≤ (h * 2 ^ d).log2 := by
      rw [Nat.le_log2 hne]
      exact Nat.le_mul_of_pos_left _ z
    rw [Nat.min_eq_left (by omega)]
    simp only [Nat.shiftLeft_eq, Nat.one_mul, Nat.mul_div_cancel _ (Nat.two_pow_pos d), Nat.mul_mod_left, Nat.mul_zero]
    have p := Nat.two_pow_pos d
    have e1 : decide (2 ^ d < 0) = false := decide_eq_false (by omega)
    have e2 : (2 ^ d == 0) = false := by rw [beq_eq_false_iff_ne]; omega
    rw [e1, e2]
    rfl
theorem nearest_exact (s : Bool) (mag k r : Nat) (hr : r < 9218868437227405312) (h : mag * 2 ^ k = val r) : double.nearest s mag (-1074 + k) = double.word s r := by
  unfold Format.nearest
  by_cases z : mag = 0
  · rw [if_pos z]
    subst z
    have r0 : r = 0 := by
      rcases Nat.eq_zero_or_pos r with e | e
      · exact e
      · have := val_lt e; rw [show val 0 = 0 from rfl] at this; omega
    rw [r0]
  · rw [if_neg z]
    have l1 : 2 ^ mag.log2 ≤ mag := Nat.log2_self_le z
    have l2 : mag < 2 ^ (mag.log2 + 1) := Nat.lt_log2_self
    have pk := Nat.two_pow_pos k
    have m1 : 2 ^ (mag.log2 + k) ≤ val r := by rw [← h, Nat.pow_add]; exact Nat.mul_le_mul_right _ l1
    have m2 : val r < 2 ^ (mag.log2 + 1 + k) := by rw [← h, Nat.pow_add]; exact Nat.mul_lt_mul_of_pos_right l2 pk
    generalize mag.log2 = L at *
    have fb : (double.fractionBits : Int) = 52 := rfl
    have lp : double.leastPlace = -1074 := rfl
    have bn : double.binade = 4503599627370496 := rfl
    have ir : double.infRung = 9218868437227405312 := rfl
    dsimp only
    rw [fb, lp, bn, ir]
    by_cases g : r < 4503599627370496
    · have hv : val r = r := by unfold val; rw [if_pos g]
      rw [hv] at h m1
      have hl : L + k < 52 := (Nat.pow_lt_pow_iff_right (by decide : 1 < 2)).1 (Nat.lt_of_le_of_lt m1 g)
      have e : max (-1074 + (k : Int) + L - 52) (-1074) = -1074 := by omega
      rw [e]
      rw [show (-1074 + (k : Int) - -1074).toNat = k by omega, show (-1074 - (-1074 + (k : Int))).toNat = 0 by omega, Nat.shiftLeft_eq, h]
      have c := cut_whole s r 0
      rw [Nat.pow_zero, Nat.mul_one] at c
      rw [c, show (-1074 - -1074 : Int).toNat = 0 from rfl, Nat.zero_mul, Nat.zero_add, Nat.min_eq_left (by omega)]
    · have hv : val r = (4503599627370496 + r % 4503599627370496) * 2 ^ (r / 4503599627370496 - 1) := by unfold val; rw [if_neg g]
      have hq : 1 ≤ r / 4503599627370496 := by omega
      have hrq : r = r / 4503599627370496 * 4503599627370496 + r % 4503599627370496 := by omega
      have hf : r % 4503599627370496 < 4503599627370496 := by omega
      generalize r / 4503599627370496 = q at *
      generalize r % 4503599627370496 = f at *
      have v1 : 2 ^ (52 + (q - 1)) ≤ val r := by rw [hv, Nat.pow_add]; exact Nat.mul_le_mul_right _ (by omega)
      have v2 : val r < 2 ^ (53 + (q - 1)) := by rw [hv, Nat.pow_add]; exact Nat.mul_lt_mul_of_pos_right (by omega) (Nat.two_pow_pos _)
      have a1 : L + k < 53 + (q - 1) := (Nat.pow_lt_pow_iff_right (by decide : 1 < 2)).1 (Nat.lt_of_le_of_lt m1 v2)
      have a2 : 52 + (q - 1) < L + 1 + k := (Nat.pow_lt_pow_iff_right (by decide : 1 < 2)).1 (Nat.lt_of_le_of_lt v1 m2)
      have e : max (-1074 + (k : Int) + L - 52) (-1074) = -1074 + ((q - 1 : Nat) : Int) := by omega
      rw [e]
      have kept : Toward.even.cut s (mag <<< (-1074 + (k : Int) - (-1074 + ((q - 1 : Nat) : Int))).toNat) (-1074 + ((q - 1 : Nat) : Int) - (-1074 + (k : Int))).toNat = 4503599627370496 + f := by
        rw [Nat.shiftLeft_eq]
        by_cases c : q - 1 ≤ k
        · rw [show (-1074 + (k : Int) - (-1074 + ((q - 1 : Nat) : Int))).toNat = k - (q - 1) by omega, show (-1074 + ((q - 1 : Nat) : Int) - (-1074 + (k : Int))).toNat = 0 by omega]
          have e2 : mag * 2 ^ (k - (q - 1)) = 4503599627370496 + f := by
            apply Nat.eq_of_mul_eq_mul_right (Nat.two_pow_pos (q - 1))
            rw [Nat.mul_assoc, ← Nat.pow_add, show k - (q - 1) + (q - 1) = k by omega, h, hv]
          rw [e2]
          have c0 := cut_whole s (4503599627370496 + f) 0
          rw [Nat.pow_zero, Nat.mul_one] at c0
          exact c0
        · rw [show (-1074 + (k : Int) - (-1074 + ((q - 1 : Nat) : Int))).toNat = 0 by omega, show (-1074 + ((q - 1 : Nat) : Int) - (-1074 + (k : Int))).toNat = q - 1 - k by omega, Nat.pow_zero, Nat.mul_one]
          have e2 : mag = (4503599627370496 + f) * 2 ^ (q - 1 - k) := by
            apply Nat.eq_of_mul_eq_mul_right pk
            rw [h, hv, Nat.mul_assoc, ← Nat.pow_add, show q - 1 - k + k = q - 1 by omega]
          rw [e2]
          exact cut_whole s _ _
      rw [kept, show (-1074 + ((q - 1 : Nat) : Int) - -1074).toNat = q - 1 by omega]
      rw [show (q - 1) * 4503599627370496 + (4503599627370496 + f) = r by rw [hrq]; rw [← Nat.add_assoc, ← Nat.succ_mul, Nat.succ_eq_add_one, Nat.sub_add_cancel hq], Nat.min_eq_left (by omega)]
theorem nearest_pw (s : Bool) (mag k r : Nat) (hr : r < 9218868437227405312) (h : mag * pw k = val r) : double.nearest s mag (-1074 + k) = double.word s r := nearest_exact s mag k r hr h
theorem nearest_unit (s : Bool) (mag r : Nat) (hr : r < 9218868437227405312) (h : mag * unit = val r) : double.nearest s mag 0 = double.word s r := nearest_pw s mag 1074 r hr h
theorem rung_of_whole {n : Nat} (h : n ≤ 9007199254740992) : ∃ r, r ≤ 4845873199050653696 ∧ val r = n * unit := by
  rcases Nat.eq_or_lt_of_le h with e | e
  · subst e; exact ⟨_, Nat.le_refl _, val_big53⟩
  · rcases Nat.eq_zero_or_pos n with z | z
    · subst z; exact ⟨0, by omega, by rw [Nat.zero_mul]; rfl⟩
    · have hz : n ≠ 0 := by omega
      have l1 : 2 ^ n.log2 ≤ n := Nat.log2_self_le hz
      have l2 : n < 2 ^ (n.log2 + 1) := Nat.lt_log2_self
      have l3 : n.log2 < 53 := (Nat.log2_lt hz).2 e
      have u : unit = 2 ^ (52 - n.log2) * 2 ^ (n.log2 + 1022) := by
        show pw 1074 = _
        rw [← Nat.pow_add, show 52 - n.log2 + (n.log2 + 1022) = 1074 by omega]; rfl
      generalize n.log2 = L at *
      have b1 : 4503599627370496 ≤ n * 2 ^ (52 - L) := by
        have : 2 ^ L * 2 ^ (52 - L) = 4503599627370496 := by rw [← Nat.pow_add, show L + (52 - L) = 52 by omega]
        rw [← this]; exact Nat.mul_le_mul_right _ l1
      have b2 : n * 2 ^ (52 - L) < 9007199254740992 := by
        have : 2 ^ (L + 1) * 2 ^ (52 - L) = 9007199254740992 := by rw [← Nat.pow_add, show L + 1 + (52 - L) = 53 by omega]
        rw [← this]; exact Nat.mul_lt_mul_of_pos_right l2 (Nat.two_pow_pos _)
      have hv : n * unit = (n * 2 ^ (52 - L)) * 2 ^ (L + 1022) := by rw [u, Nat.mul_assoc]
      rw [hv]
      generalize n * 2 ^ (52 - L) = k at *
      refine ⟨(L + 1022) * 4503599627370496 + k, by omega, ?_⟩
      unfold val
      rw [if_neg (by omega), show ((L + 1022) * 4503599627370496 + k) % 4503599627370496 = k - 4503599627370496 by omega, show ((L + 1022) * 4503599627370496 + k) / 4503599627370496 = L + 1023 by omega, show 4503599627370496 + (k - 4503599627370496) = k by omega, show L + 1023 - 1 = L + 1022 by omega]
def fl (n : Nat) : Nat := floatOfInt .f64 (n : Int)
theorem fl_val {n : Nat} (h : n ≤ 9007199254740992) : fl n ≤ 4845873199050653696 ∧ val (fl n) = n * unit := by
  obtain ⟨r, h1, h2⟩ := rung_of_whole h
  have e := nearest_unit false n r (by omega) h2.symm
  have e2 : fl n = r := by
    have : fl n = double.nearest (decide ((n : Int) < 0)) (n : Int).natAbs 0 := rfl
    rw [this, decide_eq_false (by omega), Int.natAbs_natCast]
    exact e
  rw [e2]; exact ⟨h1, h2⟩
theorem low_shape {b : Nat} (h : b < 9223372036854775808) : neg b = false ∧ rung b = b ∧ key b = b := by
  rcases shape (b := b) (by omega) with ⟨_, g, r⟩ | ⟨g, _, _⟩
  · exact ⟨g, r, by unfold key; rw [g, r]; rfl⟩
  · omega
theorem fl_facts {n : Nat} (h : n ≤ 9007199254740992) : nan (fl n) = false ∧ key (fl n) = fl n ∧ rung (fl n) = fl n ∧ neg (fl n) = false ∧ fixB (fl n) = fl n ∧ fl n < 18446744073709551616 := by
  obtain ⟨h1, _⟩ := fl_val h
  obtain ⟨g1, g2, g3⟩ := low_shape (b := fl n) (by omega)
  have hn : nan (fl n) = false := by unfold nan; rw [g2]; exact decide_eq_false (by omega)
  exact ⟨hn, g3, g2, g1, fixB_num hn, by omega⟩
theorem trunc_fl {n : Nat} (h : n ≤ 9007199254740992) : truncN (fl n) = n := by
  unfold truncN
  rw [(fl_facts h).2.2.1, (fl_val h).2, Nat.mul_div_cancel _ unit_pos]
theorem val_le_iff {r s : Nat} : val r ≤ val s ↔ r ≤ s := by
  constructor
  · intro h
    rcases Nat.lt_or_ge s r with g | g
    · have := val_lt g; omega
    · exact g
  · intro h
    rcases Nat.eq_or_lt_of_le h with g | g
    · rw [g]; exact Nat.le_refl _
    · exact Nat.le_of_lt (val_lt g)
theorem fl_le {m n : Nat} (hm : m ≤ 9007199254740992) (hn : n ≤ 9007199254740992) : fl m ≤ fl n ↔ m ≤ n := by
  rw [← val_le_iff, (fl_val hm).2, (fl_val hn).2]
  exact ⟨fun h => Nat.le_of_mul_le_mul_right h unit_pos, fun h => Nat.mul_le_mul_right _ h⟩
theorem fl_one : fl 1 = 4607182418800017408 := by decide +kernel
theorem fl_53 : fl 9007199254740992 = 4845873199050653696 := by decide +kernel
theorem fl_cnt {n : Nat} (h : n < 9007199254740992) : cntB (fl n) = true := by
  obtain ⟨g1, g2, g3, _, _, _⟩ := fl_facts (Nat.le_of_lt h)
  have lt : fl n < 4845873199050653696 := by
    have := fl_le (m := 9007199254740992) (n := n) (Nat.le_refl _) (Nat.le_of_lt h)
    rw [fl_53] at this
    omega
  have o : (FloatKind.f64.format.order (floatOfInt .f64 (truncN (fl n))) (fl n) == some .eq) = true := by
    rw [trunc_fl (Nat.le_of_lt h)]
    rw [show floatOfInt .f64 (n : Int) = fl n from rfl, self_num g1]; rfl
  unfold cntB
  rw [g1, decide_eq_true (by omega : 0 ≤ key (fl n)), decide_eq_true (by omega : key (fl n) < 4845873199050653696), o]; rfl
theorem fl_mod {x y : Nat} (hx : x < 9007199254740992) (hy : y < 9007199254740992) (hp : 0 < y) : modV (fl x) (fl y) = fl (x % y) := by
  have ho : (FloatKind.f64.format.order (fl y) 4607182418800017408 == some .lt) = false := by
    have := (fl_le (m := 1) (n := y) (by omega) (by omega)).2 hp
    rw [fl_one] at this
    have k1 := key_one
    have ky := (fl_facts (n := y) (by omega)).2.1
    rcases order_cases (fl y) 4607182418800017408 with ⟨o, _⟩ | ⟨_, _, ⟨o, h⟩ | ⟨o, h⟩ | ⟨o, h⟩⟩
    · rw [o]; rfl
    · omega
    · rw [o]; rfl
    · rw [o]; rfl
  rw [modV_fine (fl_cnt hx) (fl_cnt hy) ho, trunc_fl (by omega), trunc_fl (by omega)]
  have hm : x % y < y := Nat.mod_lt _ hp
  exact (fl_facts (n := x % y) (by omega)).2.2.2.2.1
end Go.Proofs.YtaliehikdidiaaaGreatDoor.Num
namespace Go.Proofs.YtaliehikdidiaaaGreatDoor.Num
open Ieee
theorem add_exact {x y r : Nat} (hx : rung x < 9218868437227405312) (hy : rung y < 9218868437227405312) (hr : r < 9218868437227405312) (h : (sval x + sval y).natAbs = val r) :
    floatBits .add .f64 x y = some (double.word (if sval x + sval y = 0 then neg x && neg y else decide (sval x + sval y < 0)) r) := by
  obtain ⟨m, k, e1, v1⟩ := read_fin hx
  obtain ⟨n, l, e2, v2⟩ := read_fin hy
  have s1 : sval x = signed (neg x) m k := by rw [signed_mul, v1]; rfl
  have s2 : sval y = signed (neg y) n l := by rw [signed_mul, v2]; rfl
  show ((double.read x).sum (double.read y)).map _ = _
  rw [e1, e2]
  have t1 : (-1074 + (k : Int) - min (-1074 + (k : Int)) (-1074 + l)).toNat = k - min k l := by omega
  have t2 : (-1074 + (l : Int) - min (-1074 + (k : Int)) (-1074 + l)).toNat = l - min k l := by omega
  have b : min (-1074 + (k : Int)) (-1074 + l) = -1074 + ((min k l : Nat) : Int) := by omega
  simp only [Datum.sum, t1, t2]
  rw [b]
  have c1 := signed_scale (neg x) m (k - min k l) (min k l)
  have c2 := signed_scale (neg y) n (l - min k l) (min k l)
  rw [show k - min k l + min k l = k by omega] at c1
  rw [show l - min k l + min k l = l by omega] at c2
  generalize signed (neg x) m (k - min k l) = A at *
  generalize signed (neg y) n (l - min k l) = B at *
  generalize min k l = j at *
  have tot : sval x + sval y = (A + B) * 2 ^ j := by rw [s1, s2, c1, c2, Int.add_mul]
  have pj : (0 : Int) < 2 ^ j := Int.pow_pos (by decide)
  have ab : (A + B).natAbs * 2 ^ j = val r := by
    rw [← h, tot, Int.natAbs_mul]
    congr 1
  have z : (A + B = 0) ↔ (sval x + sval y = 0) := by
    rw [tot]
    constructor
    · intro e; rw [e, Int.zero_mul]
    · intro e
      rcases Int.mul_eq_zero.1 e with e | e
      · exact e
      · omega
  have lt : (A + B < 0) ↔ (sval x + sval y < 0) := by
    rw [tot]
    constructor
    · intro e; exact Int.mul_neg_of_neg_of_pos e pj
    · intro e
      by_cases g : A + B < 0
      · exact g
      · have := Int.mul_nonneg (show 0 ≤ A + B by omega) (Int.le_of_lt pj); omega
  show some (double.nearest _ _ _) = _
  rw [nearest_exact _ _ j r hr ab]
  congr 2
  by_cases g : A + B = 0
  · rw [if_pos g, if_pos (z.1 g)]
  · rw [if_neg g, if_neg (fun e => g (z.2 e))]
    exact decide_eq_decide.2 lt
theorem word_false (r : Nat) : double.word false r = r := rfl
theorem word_true_facts {r : Nat} (h : r < 9223372036854775808) : double.word true r < 18446744073709551616 ∧ neg (double.word true r) = true ∧ rung (double.word true r) = r := by
  have e : double.word true r = 9223372036854775808 + r := rfl
  rw [e]
  rcases shape (b := 9223372036854775808 + r) (by omega) with ⟨g, _, _⟩ | ⟨_, g, q⟩
  · omega
  · exact ⟨by omega, g, by rw [q]; omega⟩
theorem key_of_pos {b : Nat} (n : neg b = false) : key b = rung b := by unfold key; rw [n, if_neg Bool.false_ne_true]
theorem key_of_neg {b : Nat} (n : neg b = true) : key b = -(rung b : Int) := by unfold key; rw [n, if_pos rfl]
end Go.Proofs.YtaliehikdidiaaaGreatDoor.Num
namespace Go.Proofs.YtaliehikdidiaaaGreatDoor.Tr
open Num Ieee
theorem X_word {n : Int} (h : n.natAbs ≤ 9007199254740992) : X n = double.word (decide (n < 0)) (fl n.natAbs) := by
  obtain ⟨h1, h2⟩ := fl_val h
  have : X n = double.nearest (decide (n < 0)) n.natAbs 0 := rfl
  rw [this]
  exact nearest_unit _ n.natAbs (fl n.natAbs) (by omega) h2.symm
theorem X_facts {n : Int} (h : n.natAbs ≤ 9007199254740992) : neg (X n) = decide (n < 0) ∧ rung (X n) = fl n.natAbs ∧ nan (X n) = false ∧ X n < 18446744073709551616 ∧ sval (X n) = n * (unit : Int) := by
  have f := fl_facts h
  have v := fl_val h
  rw [X_word h]
  by_cases hn : n < 0
  · rw [decide_eq_true hn]
    obtain ⟨a, b, c⟩ := word_true_facts (r := fl n.natAbs) (by omega)
    refine ⟨b, c, ?_, a, ?_⟩
    · unfold nan
      rw [c]
      exact decide_eq_false (by omega)
    · unfold sval
      rw [b, c, v.2, if_pos rfl]
      rw [Int.natCast_mul]
      have : (n.natAbs : Int) = -n := by omega
      rw [this, Int.neg_mul, Int.neg_neg]
  · rw [decide_eq_false hn, word_false]
    refine ⟨f.2.2.2.1, f.2.2.1, f.1, f.2.2.2.2.2, ?_⟩
    unfold sval
    rw [f.2.2.2.1, f.2.2.1, v.2, if_neg Bool.false_ne_true, Int.natCast_mul]
    have : (n.natAbs : Int) = n := by omega
    rw [this]
theorem X_fix {n : Int} (h : n.natAbs ≤ 9007199254740992) : fixB (X n) = X n := fixB_num (X_facts h).2.2.1
theorem X_zero : X 0 = 0 := by decide +kernel
theorem X_one : X 1 = 4607182418800017408 := by decide +kernel
theorem X_add {a b : Int} (ha : a.natAbs ≤ 1000000) (hb : b.natAbs ≤ 1000000) : twoV 1 (X a) (X b) = X (a + b) := by
  have fa := X_facts (n := a) (by omega)
  have fb := X_facts (n := b) (by omega)
  have hs : (a + b).natAbs ≤ 9007199254740992 := by omega
  have v := fl_val hs
  have va := fl_val (n := a.natAbs) (by omega)
  have vb := fl_val (n := b.natAbs) (by omega)
  have tot : sval (X a) + sval (X b) = (a + b) * (unit : Int) := by rw [fa.2.2.2.2, fb.2.2.2.2, Int.add_mul]
  have up : (0 : Int) < unit := Int.ofNat_lt.2 unit_pos
  have e := add_exact (x := X a) (y := X b) (r := fl (a + b).natAbs) (by rw [fa.2.1]; omega) (by rw [fb.2.1]; omega) (by omega) (by rw [tot, Int.natAbs_mul, Int.natAbs_natCast, v.2])
  have sg : (if sval (X a) + sval (X b) = 0 then neg (X a) && neg (X b) else decide (sval (X a) + sval (X b) < 0)) = decide (a + b < 0) := by
    rw [tot, fa.1, fb.1]
    by_cases z : a + b = 0
    · rw [if_pos (by rw [z, Int.zero_mul]), z, decide_eq_false (Int.lt_irrefl 0)]
      by_cases h1 : a < 0
      · rw [decide_eq_false (show ¬ b < 0 by omega), Bool.and_false]
      · rw [decide_eq_false h1, Bool.false_and]
    · have z2 : ¬ (a + b) * (unit : Int) = 0 := fun q => by rcases Int.mul_eq_zero.1 q with q | q <;> omega
      rw [if_neg z2]
      refine decide_eq_decide.2 ⟨fun q => ?_, fun q => Int.mul_neg_of_neg_of_pos q up⟩
      by_cases g : a + b < 0
      · exact g
      · have := Int.mul_nonneg (show 0 ≤ a + b by omega) (Int.le_of_lt up); omega
  rw [sg] at e
  show Num.resV (floatBits .add .f64 (X a) (X b)) = _
  rw [e, ← X_word hs]
  exact X_fix hs
theorem X_mod {a b : Int} (ha : 0 ≤ a) (ha2 : a ≤ 1000000) (hb : 0 < b) (hb2 : b ≤ 1000000) : twoV 5 (X a) (X b) = X (a % b) := by
  obtain ⟨x, rfl⟩ := Int.eq_ofNat_of_zero_le ha
  obtain ⟨y, rfl⟩ := Int.eq_ofNat_of_zero_le (Int.le_of_lt hb)
  show modV (fl x) (fl y) = fl (x % y)
  exact fl_mod (by omega) (by omega) (by omega)
def lessAll (n : Nat) : Bool := (List.range n).all fun i => (List.range n).all fun j => (FloatKind.f64.format.order (X i) (X j) == some .lt) == decide (i < j)
theorem less_all : lessAll 17 = true := by decide +kernel
theorem X_less {a b : Nat} (ha : a < 17) (hb : b < 17) : twoV 8 (X a) (X b) = yesB (decide (a < b)) := by
  have h := less_all
  unfold lessAll at h
  rw [List.all_eq_true] at h
  have h1 := h a (List.mem_range.2 ha)
  rw [List.all_eq_true] at h1
  exact congrArg yesB (eq_of_beq (h1 b (List.mem_range.2 hb)))
theorem fl_pos {n : Nat} (h : n ≤ 9007199254740992) (h0 : n ≠ 0) : 0 < fl n := by
  have := (fl_le (m := 1) (n := n) (by omega) h).2 (by omega)
  rw [fl_one] at this
  omega
theorem true_X {n : Int} (h : n.natAbs ≤ 9007199254740992) : trueB (X n) = decide (n ≠ 0) := by
  have f := X_facts h
  unfold trueB key
  rw [f.1, f.2.1, f.2.2.1]
  by_cases hz : n = 0
  · subst hz
    decide +kernel
  · have p := fl_pos h (by omega)
    rw [decide_eq_true hz]
    by_cases hn : n < 0
    · rw [decide_eq_true hn, if_pos rfl]
      simp; omega
    · rw [decide_eq_false hn, if_neg Bool.false_ne_true]
      simp; omega
theorem true_yes (c : Bool) : trueB (yesB c) = c := by cases c <;> decide +kernel
theorem idx_X {n : Nat} {m : Int} (h : n ≤ 1000000) : idxB (X n) m = decide ((n : Int) < m) ∧ (decide ((n : Int) < m) = true → idxV (X n) m = n) := by
  have f := fl_facts (n := n) (by omega)
  have t := trunc_fl (n := n) (by omega)
  have hb : idxB (X n) m = decide ((n : Int) < m) := by
    have le : fl n ≤ 4845873199050653696 := (fl_val (n := n) (by omega)).1
    have o : (FloatKind.f64.format.order (floatOfInt .f64 (truncN (fl n))) (fl n) == some .eq) = true := by
      rw [t, show floatOfInt .f64 (n : Int) = fl n from rfl, self_num f.1]; rfl
    show idxB (fl n) m = _
    unfold idxB
    rw [f.1, f.2.1, o, t, decide_eq_true (show (0 : Int) ≤ (fl n : Int) by omega), decide_eq_true (show (fl n : Int) < 4890909195324358656 by omega)]
    rfl
  refine ⟨hb, fun h => ?_⟩
  unfold idxV
  rw [hb, h, if_pos rfl]
  show (truncN (fl n) : Int) = n
  rw [t]
end Go.Proofs.YtaliehikdidiaaaGreatDoor.Tr
namespace Go.Proofs.YtaliehikdidiaaaGreatDoor
open Go.ChangeShapes Go.WideShapes Go.ChangeAt Go.RowKit Num
attribute [local go_sem] run_store_float
end Go.Proofs.YtaliehikdidiaaaGreatDoor
namespace Go.Proofs.YtaliehikdidiaaaGreatDoor
open Go.ChangeShapes Go.WideShapes Go.ChangeAt Go.RowKit Num
attribute [local go_sem] run_store_float
end Go.Proofs.YtaliehikdidiaaaGreatDoor
namespace Go.Proofs.YtaliehikdidiaaaGreatDoor
open Go.ChangeShapes Go.WideShapes Go.ChangeAt Go.RowKit Num
attribute [local go_sem] run_store_float
section
variable {w : World}
theorem newW_boxes4 {w u : World} {a b c e t : Int} {ao : Option Addr} {n cap : Nat} (h : Below (newW w a b c e t ao n cap).heap.size (newW w a b c e t ao n cap) u) :
    u.cell? ⟨w.heap.size, 0, none⟩ = some (.int .i64 a) ∧ u.cell? ⟨w.heap.size, 1, none⟩ = some (.int .i64 b) ∧ u.cell? ⟨w.heap.size, 2, none⟩ = some (.int .i64 c) ∧ u.cell? ⟨w.heap.size, 3, none⟩ = some (.int .i64 e) ∧ w.heap.size < u.heap.size := by
  have b1 : u.heap[w.heap.size]? = some (cfgO a b c e) := (h.block _ (by simp; omega)).trans ((heap_alloc_old _ _ (by simp)).trans (heap_alloc_new w _))
  exact Md.cells4 b1
end
end Go.Proofs.YtaliehikdidiaaaGreatDoor
