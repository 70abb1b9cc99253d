import Derived.Test.YtaliehikdidiaaaGreatDoorWalkB
import Derived.Lib.IndexMore
namespace Go.Proofs.YtaliehikdidiaaaGreatDoor
open Go.ChangeShapes Go.WideShapes Go.ChangeAt Go.RowKit Num

/-- the table of the operations: what stands behind the word (0 nothing, 1 the number, 2 N, 3 a place, 4, 5: the word is that of the operation on one number, on two), N's least and greatest, what is taken and laid -/
structure Shp where
  word : List UInt8
  kind : Nat
  lo : Int
  hi : Int
  takes : Int
  lays : Int
def shpT : List Shp := [
  ⟨[], 0, 0, 0, 0, 0⟩,
  ⟨[112, 117, 115, 104], 1, 0, 0, 0, 1⟩,
  ⟨[100, 114, 111, 112], 0, 0, 0, 1, 0⟩,
  ⟨[100, 117, 112], 0, 0, 0, 1, 2⟩,
  ⟨[115, 119, 97, 112], 0, 0, 0, 2, 2⟩,
  ⟨[112, 105, 99, 107], 2, 0, 63, 0, 1⟩,
  ⟨[97, 114, 103], 2, 0, 7, 0, 1⟩,
  ⟨[103, 101, 116], 2, 0, 7, 0, 1⟩,
  ⟨[115, 101, 116], 2, 0, 7, 1, 0⟩,
  ⟨[], 4, 1, 8, 1, 1⟩,
  ⟨[], 5, 1, 12, 2, 1⟩,
  ⟨[106, 117, 109, 112], 3, 0, 1023, 0, 0⟩,
  ⟨[105, 102], 3, 0, 1023, 1, 0⟩,
  ⟨[117, 110, 108, 101, 115, 115], 3, 0, 1023, 1, 0⟩,
  ⟨[99, 97, 108, 108], 3, 0, 1023, 0, 0⟩,
  ⟨[114, 101, 116], 0, 0, 0, 0, 0⟩,
  ⟨[114, 101, 97, 100], 0, 0, 0, 1, 1⟩,
  ⟨[119, 114, 105, 116, 101], 0, 0, 0, 2, 0⟩,
  ⟨[101, 109, 105, 116], 0, 0, 0, 1, 0⟩,
  ⟨[97, 98, 111, 114, 116], 2, 0, 99, 0, 0⟩,
  ⟨[104, 97, 108, 116], 0, 0, 0, 0, 0⟩]
def oneT : List (List UInt8) := [[], [110, 101, 103], [97, 98, 115], [102, 108, 111, 111, 114], [114, 111, 111, 116], [110, 111, 116], [105, 115, 110, 97, 110], [115, 105, 103, 110], [104, 97, 115, 104]]
def twoT : List (List UInt8) := [[], [97, 100, 100], [115, 117, 98], [109, 117, 108], [100, 105, 118], [109, 111, 100], [109, 105, 110], [109, 97, 120], [108, 101, 115, 115], [97, 116, 109, 111, 115, 116], [101, 113, 117, 97, 108], [115, 97, 109, 101], [97, 104, 101, 97, 100]]
def readsB : List UInt8 := [114, 101, 97, 100, 115]
def updatesB : List UInt8 := [117, 112, 100, 97, 116, 101, 115]
def shp (k : Nat) : Shp := shpT.getD k ⟨[], 0, 0, 0, 0, 0⟩
def oneW (k : Nat) : List UInt8 := oneT.getD k []
def twoW (k : Nat) : List UInt8 := twoT.getD k []
/-- an instruction: its operation, its N, the bits of its X -/
structure Ins where
  op : Int
  n : Int
  x : Nat
def ci (c : List Ins) (k : Nat) : Ins := c.getD k ⟨0, 0, 0⟩
theorem ci_lt {c : List Ins} {k : Nat} (h : k < c.length) : c[k]? = some (ci c k) := by
  unfold ci
  rw [List.getD_eq_getElem?_getD, List.getElem?_eq_getElem h]
  rfl
theorem ci_append_lt {c d : List Ins} {k : Nat} (h : k < c.length) : ci (c ++ d) k = ci c k := by
  unfold ci
  rw [List.getD_eq_getElem?_getD, List.getD_eq_getElem?_getD, List.getElem?_append_left h]
theorem ci_append_len (c : List Ins) (i : Ins) : ci (c ++ [i]) c.length = i := by
  unfold ci
  rw [List.getD_eq_getElem?_getD, List.getElem?_append_right (Nat.le_refl _), Nat.sub_self]
  rfl
theorem ci_ext {c d : List Ins} (hl : c.length = d.length) (h : ∀ k, k < c.length → ci c k = ci d k) : c = d := by
  apply List.ext_getElem? fun k => ?_
  by_cases hk : k < c.length
  · rw [ci_lt hk, ci_lt (hl ▸ hk), h k hk]
  · rw [List.getElem?_eq_none (by omega), List.getElem?_eq_none (by omega)]
theorem all_range {n : Nat} {p : Nat → Bool} : (List.range n).all p = true ↔ ∀ i, i < n → p i = true := by
  rw [List.all_eq_true]
  exact ⟨fun h i hi => h i (List.mem_range.2 hi), fun h i hi => h i (List.mem_range.1 hi)⟩

def knownB (op : Int) : Bool := decide (0 < op) && decide (op ≤ 20)
def fitsB (op : Nat) (n : Int) : Bool := decide ((shp op).lo ≤ n) && decide (n ≤ (shp op).hi)
def outB (op : Nat) (n : Int) (many : Nat) : Bool := decide ((shp op).kind = 3) && decide ((many : Int) ≤ n)
def mayB (i : Ins) (many : Nat) : Bool := knownB i.op && fitsB i.op.toNat i.n && !outB i.op.toNat i.n many && (decide (i.op = 1) || fixB i.x == 0)
def checkB (tag : Int) (c : List Ins) : Bool := (decide (tag = 1) || decide (tag = 2)) && decide (1 ≤ c.length) && decide (c.length ≤ 1024) && (List.range c.length).all fun k => mayB (ci c k) c.length
def checkE (tag : Int) (c : List Ins) : Int := if checkB tag c then 0 else 50
def sameI (a b : Ins) : Bool := decide (a.op = b.op) && decide (a.n = b.n) && fixB a.x == fixB b.x
def sameB (s t : Int) (a b : List Ins) : Bool := decide (s = t) && decide (a.length = b.length) && (List.range a.length).all fun k => sameI (ci a k) (ci b k)

/-! a text, parted at the first of some byte -/
def cutB (c : UInt8) : List UInt8 → List UInt8 × List UInt8 × Bool
  | [] => ([], [], false)
  | a :: l => if a = c then ([], l, true) else (a :: (cutB c l).1, (cutB c l).2.1, (cutB c l).2.2)
theorem cutB_mk (c : UInt8) (b : List UInt8) : ∀ a : List UInt8, c ∉ a → cutB c (a ++ c :: b) = (a, b, true)
  | [], _ => by simp [cutB]
  | x :: a, h => by
    rw [List.mem_cons, not_or] at h
    have hx : x ≠ c := fun q => h.1 q.symm
    simp [cutB, hx, cutB_mk c b a h.2]
theorem cutB_mk0 (c : UInt8) : ∀ a : List UInt8, c ∉ a → cutB c a = (a, [], false)
  | [], _ => rfl
  | x :: a, h => by
    rw [List.mem_cons, not_or] at h
    have hx : x ≠ c := fun q => h.1 q.symm
    simp [cutB, hx, cutB_mk0 c a h.2]
theorem cutB_cases (c : UInt8) : ∀ l : List UInt8, (∃ a b, l = a ++ c :: b ∧ c ∉ a ∧ cutB c l = (a, b, true)) ∨ (c ∉ l ∧ cutB c l = (l, [], false))
  | [] => .inr ⟨by simp, rfl⟩
  | x :: l => by
    by_cases hx : x = c
    · subst hx
      exact .inl ⟨[], l, rfl, by simp, by simp [cutB]⟩
    · rcases cutB_cases c l with ⟨a, b, rfl, hc, _⟩ | ⟨hc, _⟩
      · have h : c ∉ x :: a := by rw [List.mem_cons, not_or]; exact ⟨fun q => hx q.symm, hc⟩
        exact .inl ⟨x :: a, b, rfl, h, cutB_mk c b (x :: a) h⟩
      · have h : c ∉ x :: l := by rw [List.mem_cons, not_or]; exact ⟨fun q => hx q.symm, hc⟩
        exact .inr ⟨h, cutB_mk0 c _ h⟩
theorem prefix_one (c x : UInt8) (l : List UInt8) : [c].isPrefixOf (x :: l) = (c == x) := by simp [List.isPrefixOf]
theorem index_mk (c : UInt8) (b : List UInt8) : ∀ a : List UInt8, c ∉ a → Lib.index (a ++ c :: b) [c] = a.length
  | [], _ => by
    show Lib.index (c :: b) [c] = _
    unfold Lib.index
    rw [prefix_one]
    simp
  | x :: a, h => by
    rw [List.mem_cons, not_or] at h
    show Lib.index (x :: (a ++ c :: b)) [c] = _
    unfold Lib.index
    have hx : (c == x) = false := by simpa using h.1
    rw [prefix_one, hx, index_mk c b a h.2]
    have h1 : ((a.length : Int) == -1) = false := by rw [beq_eq_false_iff_ne]; omega
    rw [h1]
    simp
theorem index_mk0 (c : UInt8) : ∀ a : List UInt8, c ∉ a → Lib.index a [c] = -1
  | [], _ => rfl
  | x :: a, h => by
    rw [List.mem_cons, not_or] at h
    unfold Lib.index
    have hx : (c == x) = false := by simpa using h.1
    rw [prefix_one, hx, index_mk0 c a h.2]
    rfl
theorem cut_eq (c : UInt8) (l : List UInt8) : Lib.cut l [c] = cutB c l := by
  rcases cutB_cases c l with ⟨a, b, rfl, hc, e⟩ | ⟨hc, e⟩
  · rw [e]
    unfold Lib.cut
    rw [index_mk c b a hc, if_pos (by omega)]
    simp
  · rw [e]
    unfold Lib.cut
    rw [index_mk0 c l hc, if_neg (by decide)]

/-! a line's instruction -/
def findW (l : List (List UInt8)) (w : List UInt8) : Option Nat := l.findIdx? (· == w)
theorem findW_some {l : List (List UInt8)} {w : List UInt8} {k : Nat} : findW l w = some k ↔ k < l.length ∧ l.getD k [] = w ∧ ∀ j, j < k → l.getD j [] ≠ w := by
  unfold findW
  rw [List.findIdx?_eq_some_iff_getElem]
  constructor
  · rintro ⟨h, hk, hj⟩
    refine ⟨h, ?_, fun j hjk q => ?_⟩
    · rw [List.getD_eq_getElem?_getD, List.getElem?_eq_getElem h]
      simpa using hk
    · rw [List.getD_eq_getElem?_getD, List.getElem?_eq_getElem (by omega)] at q
      have := hj j hjk
      simp at this q
      exact this q
  · rintro ⟨h, hk, hj⟩
    rw [List.getD_eq_getElem?_getD, List.getElem?_eq_getElem h] at hk
    refine ⟨h, by simpa using hk, fun j hjk => ?_⟩
    have := hj j hjk
    rw [List.getD_eq_getElem?_getD, List.getElem?_eq_getElem (by omega)] at this
    simpa using this
theorem findW_none {l : List (List UInt8)} {w : List UInt8} : findW l w = none ↔ ∀ j, j < l.length → l.getD j [] ≠ w := by
  unfold findW
  rw [List.findIdx?_eq_none_iff]
  constructor
  · intro h j hj q
    have := h _ (List.getElem_mem hj)
    rw [List.getD_eq_getElem?_getD, List.getElem?_eq_getElem hj] at q
    simp at this q
    exact this q
  · intro h x hx
    obtain ⟨j, hj, rfl⟩ := List.getElem_of_mem hx
    have := h j hj
    rw [List.getD_eq_getElem?_getD, List.getElem?_eq_getElem hj] at this
    simpa using this
def wordT : List (List UInt8) := shpT.map (·.word)
/-- the operation that a word begins, with its N where the word tells it -/
def namedW (w : List UInt8) : Option (Nat × Nat) :=
  if w = [] then none else match findW wordT w with
  | some k => some (k, 0)
  | none => match findW oneT w with
    | some k => some (9, k)
    | none => match findW twoT w with
      | some k => some (10, k)
      | none => none
/-! there and back -/
theorem word_facts : ∀ k, k < 21 → ((shp k).kind = 1 ∨ (shp k).kind = 2 ∨ (shp k).kind = 3 ∨ ((shp k).kind = 0 ∧ k ≠ 0)) → 32 ∉ (shp k).word ∧ 10 ∉ (shp k).word ∧ namedW (shp k).word = some (k, 0) := by decide +kernel
theorem one_facts : ∀ k, k < 9 → 1 ≤ k → 32 ∉ oneW k ∧ 10 ∉ oneW k ∧ namedW (oneW k) = some (9, k) := by decide +kernel
theorem two_facts : ∀ k, k < 13 → 1 ≤ k → 32 ∉ twoW k ∧ 10 ∉ twoW k ∧ namedW (twoW k) = some (10, k) := by decide +kernel
theorem kind_1 : ∀ k, k < 21 → (shp k).kind = 1 → k = 1 := by decide +kernel
theorem kind_2 : ∀ k, k < 21 → (shp k).kind = 2 → k ≠ 1 ∧ 0 ≤ (shp k).lo ∧ (shp k).hi ≤ 99 := by decide +kernel
theorem kind_3 : ∀ k, k < 21 → (shp k).kind = 3 → k ≠ 1 ∧ (shp k).lo = 0 ∧ (shp k).hi = 1023 := by decide +kernel
theorem kind_4 : ∀ k, k < 21 → (shp k).kind = 4 → k = 9 ∧ (shp k).lo = 1 ∧ (shp k).hi = 8 := by decide +kernel
theorem kind_5 : ∀ k, k < 21 → (shp k).kind = 5 → k = 10 ∧ (shp k).lo = 1 ∧ (shp k).hi = 12 := by decide +kernel
theorem kind_0 : ∀ k, k < 21 → (shp k).kind = 0 → k ≠ 1 ∧ (shp k).lo = 0 ∧ (shp k).hi = 0 := by decide +kernel
theorem kind_all : ∀ k, k < 21 → (shp k).kind = 0 ∨ (shp k).kind = 1 ∨ (shp k).kind = 2 ∨ (shp k).kind = 3 ∨ (shp k).kind = 4 ∨ (shp k).kind = 5 := by decide +kernel
theorem word_some : ∀ k, k < 21 → (shp k).word ≠ [] → 1 ≤ k ∧ (shp k).kind ≤ 3 := by decide +kernel
theorem ci_mem {c : List Ins} {k : Nat} (h : k < c.length) : ci c k ∈ c := List.mem_of_getElem? (ci_lt h)
theorem mem_ci {c : List Ins} {i : Ins} (h : i ∈ c) : ∃ k, k < c.length ∧ ci c k = i := by
  obtain ⟨k, hk, rfl⟩ := List.getElem_of_mem h
  refine ⟨k, hk, ?_⟩
  have := ci_lt hk
  rw [List.getElem?_eq_getElem hk] at this
  exact (Option.some.inj this).symm
theorem check_parts {t : Int} {c : List Ins} : checkB t c = true ↔ (t = 1 ∨ t = 2) ∧ 1 ≤ c.length ∧ c.length ≤ 1024 ∧ ∀ k, k < c.length → mayB (ci c k) c.length = true := by
  unfold checkB
  simp only [Bool.and_eq_true, Bool.or_eq_true, decide_eq_true_eq, all_range]
  exact ⟨fun ⟨⟨⟨a, b⟩, c⟩, d⟩ => ⟨a, b, c, d⟩, fun ⟨a, b, c, d⟩ => ⟨⟨⟨a, b⟩, c⟩, d⟩⟩
end Go.Proofs.YtaliehikdidiaaaGreatDoor
