/- stage 19 (asm), pure: a builder as data; what Program answers -/
import Derived.Test.YtaliehikdidiaaaDoorC1
namespace Go.Proofs.YtaliehikdidiaaaDoor.As
open Go.ChangeShapes Go.WideShapes Go.ChangeAt Go.RowKit Num

/-- what was marked, the latest first: the label, the place -/
abbrev Mk := List (Int × Nat)
def look : Mk → Int → Option Nat
  | [], _ => none
  | m :: r, l => if m.1 = l then some m.2 else look r l
def hasM (r : Mk) (l : Int) : Bool := (look r l).isSome
def plN (r : Mk) (l : Int) : Nat := (look r l).getD 0
def twB : Mk → Bool
  | [] => false
  | m :: r => hasM r m.1 || twB r
def inB (many : Nat) (l : Int) : Bool := decide (0 ≤ l) && decide (l < many)
def okM (many : Nat) : Mk → Bool
  | [] => true
  | m :: r => inB many m.1 && !hasM r m.1 && okM many r
theorem look_cons (m : Int × Nat) (r : Mk) (l : Int) : look (m :: r) l = if m.1 = l then some m.2 else look r l := rfl
theorem hasM_cons (m : Int × Nat) (r : Mk) (l : Int) : hasM (m :: r) l = (decide (m.1 = l) || hasM r l) := by
  unfold hasM
  rw [look_cons]
  by_cases h : m.1 = l <;> simp [h]
theorem plN_cons (m : Int × Nat) (r : Mk) (l : Int) : plN (m :: r) l = if m.1 = l then m.2 else plN r l := by
  unfold plN
  rw [look_cons]
  by_cases h : m.1 = l <;> simp [h]
theorem plN_not {r : Mk} {l : Int} (h : hasM r l = false) : plN r l = 0 := by
  unfold hasM at h
  unfold plN
  cases hl : look r l with
  | none => rfl
  | some x => rw [hl] at h; cases h
theorem plN_le {r : Mk} {n : Nat} (h : ∀ m ∈ r, m.2 ≤ n) (l : Int) : plN r l ≤ n := by
  induction r with
  | nil => exact Nat.zero_le _
  | cons m r ih =>
    rw [plN_cons]
    split
    · exact h m (List.mem_cons_self ..)
    · exact ih fun x hx => h x (List.mem_cons_of_mem _ hx)
theorem okM_iff (many : Nat) (r : Mk) : okM many r = true ↔ (∀ l, hasM r l = true → inB many l = true) ∧ twB r = false := by
  induction r with
  | nil => simp [okM, hasM, look, twB]
  | cons m r ih =>
    have e : okM many (m :: r) = (inB many m.1 && !hasM r m.1 && okM many r) := rfl
    have e2 : twB (m :: r) = (hasM r m.1 || twB r) := rfl
    rw [e, e2, Bool.and_eq_true, Bool.and_eq_true, ih, Bool.not_eq_true', Bool.or_eq_false_iff]
    constructor
    · rintro ⟨⟨h1, h2⟩, h3, h4⟩
      refine ⟨fun l hl => ?_, h2, h4⟩
      rw [hasM_cons, Bool.or_eq_true, decide_eq_true_eq] at hl
      rcases hl with rfl | hl
      · exact h1
      · exact h3 l hl
    · rintro ⟨h1, h2, h4⟩
      exact ⟨⟨h1 _ (by rw [hasM_cons]; simp), h2⟩, fun l hl => h1 l (by rw [hasM_cons, hl]; simp), h4⟩
/-- a builder: its instructions (N of a To: 0), the label of each To, the Tos with their places, how many labels, the marks -/
structure Bs where
  tag : Int
  code : List Ins
  tos : List (Option Int)
  lat : List (Int × Nat)
  many : Nat
  marks : Mk
def new (t : Int) : Bs := ⟨t, [], [], [], 0, []⟩
def Bs.add (s : Bs) (i : Ins) (o : Option Int) : Bs := { s with code := s.code ++ [i], tos := s.tos ++ [o], lat := match o with | some l => s.lat ++ [(l, s.code.length)] | none => s.lat }
def Bs.lab (s : Bs) : Bs := if s.many = 256 then s else { s with many := s.many + 1 }
def Bs.labV (s : Bs) : Int := if s.many = 256 then -1 else s.many
def Bs.mark (s : Bs) (l : Int) : Bs := { s with marks := (l, s.code.length) :: s.marks }
def Wf (x : Int) : Prop := (Lit.int .i64 x).wf = true
structure Ok (s : Bs) : Prop where
  len : s.tos.length = s.code.length
  to : ∀ k, k < s.code.length → ∀ l, s.tos.getD k none = some l → (l, k) ∈ s.lat
  of : ∀ t, t ∈ s.lat → t.2 < s.code.length ∧ s.tos.getD t.2 none = some t.1 ∧ Wf t.1
  many : s.many ≤ 256
  pl : ∀ m ∈ s.marks, m.2 ≤ s.code.length
  size : s.lat.length ≤ s.code.length
theorem ok_new (t : Int) : Ok (new t) := ⟨rfl, fun k hk => absurd hk (Nat.not_lt_zero _), fun t ht => by simp [new] at ht, Nat.zero_le _, fun m hm => by simp [new] at hm, Nat.le_refl _⟩
theorem getD_app {α : Type} (l : List α) (x d : α) (k : Nat) : (l ++ [x]).getD k d = if k < l.length then l.getD k d else if k = l.length then x else d := by
  rw [List.getD_eq_getElem?_getD, List.getD_eq_getElem?_getD]
  by_cases h : k < l.length
  · rw [if_pos h, List.getElem?_append_left h]
  · rw [if_neg h, List.getElem?_append_right (by omega)]
    by_cases h2 : k = l.length
    · rw [if_pos h2, h2, Nat.sub_self]; rfl
    · rw [if_neg h2, List.getElem?_eq_none (by simp; omega)]; rfl
theorem Ok.add {s : Bs} (h : Ok s) (i : Ins) (o : Option Int) (hw : ∀ l, o = some l → Wf l) : Ok (s.add i o) := by
  have hl := h.len
  have e : (s.add i o).code.length = s.code.length + 1 := by simp [Bs.add]
  refine ⟨by simp [Bs.add, hl], fun k hk l hkl => ?_, fun t ht => ?_, h.many, fun m hm => by rw [e]; exact Nat.le_succ_of_le (h.pl m hm), ?_⟩
  · rw [e] at hk
    have e2 : (s.add i o).tos.getD k none = if k < s.code.length then s.tos.getD k none else if k = s.code.length then o else none := by rw [← hl]; exact getD_app _ _ _ _
    rw [e2] at hkl
    by_cases h1 : k < s.code.length
    · rw [if_pos h1] at hkl
      have := h.to k h1 l hkl
      cases o <;> simp [Bs.add, this]
    · have h2 : k = s.code.length := by omega
      rw [if_neg h1, if_pos h2] at hkl
      subst hkl
      simp [Bs.add, h2]
  · have key : ∀ t ∈ s.lat, t.2 < (s.add i o).code.length ∧ (s.add i o).tos.getD t.2 none = some t.1 ∧ Wf t.1 := fun t ht => by
      obtain ⟨a, b, c⟩ := h.of t ht
      refine ⟨by omega, ?_, c⟩
      show (s.tos ++ [o]).getD t.2 none = _
      rw [getD_app, if_pos (by omega)]
      exact b
    cases o with
    | none => exact key t ht
    | some l =>
      rcases List.mem_append.1 ht with q | q
      · exact key t q
      · rw [List.mem_singleton] at q
        subst q
        refine ⟨by rw [e]; exact Nat.lt_succ_self _, ?_, hw l rfl⟩
        show (s.tos ++ [some l]).getD s.code.length none = some l
        rw [getD_app, if_neg (by omega), if_pos hl.symm]
  · rw [e]
    have := h.size
    cases o <;> simp [Bs.add] <;> omega
theorem Ok.lab {s : Bs} (h : Ok s) : Ok s.lab := by
  unfold Bs.lab
  split
  · exact h
  · exact ⟨h.len, h.to, h.of, by have := h.many; show s.many + 1 ≤ 256; omega, h.pl, h.size⟩
theorem Ok.mark {s : Bs} (h : Ok s) (l : Int) : Ok (s.mark l) := ⟨h.len, h.to, h.of, h.many, fun m hm => by
  rcases List.mem_cons.1 hm with rfl | q
  · exact Nat.le_refl _
  · exact h.pl m q, h.size⟩
/-! what Program answers -/
def Bs.fin (s : Bs) (k : Nat) : Ins := match s.tos.getD k none with | some l => { ci s.code k with n := (plN s.marks l : Nat) } | none => ci s.code k
def Bs.filled (s : Bs) : List Ins := (List.range s.code.length).map s.fin
def Bs.toOk (s : Bs) (k : Nat) : Bool := match s.tos.getD k none with | some l => hasM s.marks l | none => true
def Bs.ok (s : Bs) : Bool := okM s.many s.marks && (List.range s.code.length).all s.toOk
def Bs.ans (s : Bs) : Int := if s.ok then checkE s.tag s.filled else 190
theorem filled_len (s : Bs) : s.filled.length = s.code.length := by simp [Bs.filled]
theorem filled_at {s : Bs} {k : Nat} (h : k < s.code.length) : ci s.filled k = s.fin k := by
  unfold ci Bs.filled
  rw [List.getD_eq_getElem?_getD, List.getElem?_map, List.getElem?_range h]
  rfl
theorem fin_to {s : Bs} {k : Nat} {l : Int} (h : s.tos.getD k none = some l) : s.fin k = { ci s.code k with n := (plN s.marks l : Nat) } := by unfold Bs.fin; rw [h]
theorem fin_no {s : Bs} {k : Nat} (h : s.tos.getD k none = none) : s.fin k = ci s.code k := by unfold Bs.fin; rw [h]
theorem toOk_to {s : Bs} {k : Nat} {l : Int} (h : s.tos.getD k none = some l) : s.toOk k = hasM s.marks l := by unfold Bs.toOk; rw [h]
theorem toOk_no {s : Bs} {k : Nat} (h : s.tos.getD k none = none) : s.toOk k = true := by unfold Bs.toOk; rw [h]
theorem ok_split (s : Bs) : s.ok = true ↔ okM s.many s.marks = true ∧ ∀ k, k < s.code.length → s.toOk k = true := by
  unfold Bs.ok
  rw [Bool.and_eq_true, all_range]
theorem ok_lat {s : Bs} (h : Ok s) : (∀ k, k < s.code.length → s.toOk k = true) ↔ ∀ t ∈ s.lat, hasM s.marks t.1 = true := by
  constructor
  · intro hk t ht
    obtain ⟨a, b, _⟩ := h.of t ht
    rw [← toOk_to b]
    exact hk _ a
  · intro hk k hl
    cases hq : s.tos.getD k none with
    | none => exact toOk_no hq
    | some l => rw [toOk_to hq]; exact hk _ (h.to k hl l hq)
/-! as the program has its numbers: fixed -/
def fixI (i : Ins) : Ins := { i with x := fixB i.x }
theorem fixB0 : fixB 0 = 0 := by decide
theorem ci_fix (c : List Ins) (k : Nat) : ci (c.map fixI) k = fixI (ci c k) := by
  unfold ci
  rw [List.getD_eq_getElem?_getD, List.getD_eq_getElem?_getD, List.getElem?_map]
  cases c[k]? with
  | none => show (⟨0, 0, 0⟩ : Ins) = fixI ⟨0, 0, 0⟩; unfold fixI; rw [show ((⟨0, 0, 0⟩ : Ins)).x = 0 from rfl, fixB0]
  | some i => rfl
theorem mayB_fix (i : Ins) (n : Nat) : mayB (fixI i) n = mayB i n := by
  unfold mayB fixI
  simp only [fixB_fixB]
theorem checkB_fix (t : Int) (c : List Ins) : checkB t (c.map fixI) = checkB t c := by
  unfold checkB
  simp only [List.length_map, ci_fix, mayB_fix]
theorem checkE_fix (t : Int) (c : List Ins) : checkE t (c.map fixI) = checkE t c := by unfold checkE; rw [checkB_fix]
theorem sameB_fix (t : Int) (c : List Ins) : sameB t t (c.map fixI) c = true := by
  unfold sameB
  rw [List.length_map]
  simp only [decide_true, Bool.true_and]
  refine all_range.2 fun k _ => ?_
  rw [ci_fix]
  unfold sameI fixI
  simp [fixB_fixB]
theorem checkE_ways (t : Int) (c : List Ins) : checkE t c = 0 ∨ checkE t c = 50 := by
  unfold checkE
  split
  · exact .inl rfl
  · exact .inr rfl
theorem ans_ways (s : Bs) : s.ans = 0 ∨ s.ans = 50 ∨ s.ans = 190 := by
  unfold Bs.ans
  split
  · rcases checkE_ways s.tag s.filled with h | h
    · exact .inl h
    · exact .inr (.inl h)
  · exact .inr (.inr rfl)
end Go.Proofs.YtaliehikdidiaaaDoor.As
