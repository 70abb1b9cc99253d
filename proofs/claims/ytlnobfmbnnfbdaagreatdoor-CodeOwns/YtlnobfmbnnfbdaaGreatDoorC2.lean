import Derived.Test.YtlnobfmbnnfbdaaGreatDoorC1
import Derived.Test.YtlnobfmbnnfbdaaGreatDoorT13
namespace Go.Proofs.YtlnobfmbnnfbdaaGreatDoor
open Go.ChangeShapes Go.WideShapes Go.ChangeAt Go.RowKit Num

theorem fixB_zero : fixB 0 = 0 := fixB_num nan_zero
theorem dig_ne : ∀ u, u < 10 → (10 : UInt8) ≠ UInt8.ofNat (48 + u) := by decide +kernel
theorem hex_ne : ∀ u, u < 16 → (10 : UInt8) ≠ hexD u := by decide +kernel
theorem dec_no (n : Nat) : 10 ∉ Lib.decDigits n := by
  induction n using Nat.strongRecOn with
  | ind n ih =>
    rw [Lib.decDigits]
    split
    · rename_i h
      rw [List.mem_singleton]
      exact dig_ne n h
    · rw [List.mem_append, List.mem_singleton, not_or]
      exact ⟨ih _ (by omega), dig_ne _ (Nat.mod_lt _ (by decide))⟩
theorem hex_no : ∀ (k b : Nat), 10 ∉ hexN k b
  | 0, _ => by simp [hexN]
  | k + 1, b => by
    show 10 ∉ hexN k (b / 16) ++ [hexD (b % 16)]
    rw [List.mem_append, List.mem_singleton, not_or]
    exact ⟨hex_no k _, hex_ne _ (Nat.mod_lt _ (by decide))⟩
theorem itoa_no (z : Int) : 10 ∉ Lib.itoa z := by
  unfold Lib.itoa
  split
  · rw [List.mem_cons, not_or]
    exact ⟨by decide, dec_no _⟩
  · exact dec_no _
theorem itoa_ne (z : Int) : Lib.itoa z ≠ [] := by
  unfold Lib.itoa
  split
  · simp
  · intro h
    have := dec_pos z.toNat
    rw [h] at this
    simp at this
theorem printT_no (b : Nat) : 10 ∉ printT b := by
  unfold printT
  split
  · decide
  · split
    · decide
    · split
      · decide
      · split
        · decide
        · split
          · exact itoa_no _
          · rw [List.mem_cons, not_or]
            exact ⟨by decide, hex_no _ _⟩
theorem printT_ne (b : Nat) : printT b ≠ [] := by
  unfold printT
  split
  · simp
  · split
    · simp
    · split
      · simp
      · split
        · simp
        · split
          · exact itoa_ne _
          · simp
theorem parseR_ok {l : List UInt8} (h : (parseR l).2 = 0) : printT (parseR l).1 = l ∧ fixB (parseR l).1 = (parseR l).1 ∧ (parseR l).1 < 18446744073709551616 := by
  unfold parseR at h ⊢
  by_cases hp : printT (gT l) = l
  · rw [if_pos hp]
    exact ⟨hp, right_fix (by unfold gT; rw [if_pos rfl]) hp, gT_lt l⟩
  · rw [if_neg hp] at h
    cases h
theorem parseR_two (l : List UInt8) : (parseR l).2 = 0 ∨ parseR l = (0, 20) := by
  unfold parseR
  split
  · exact .inl rfl
  · exact .inr rfl
theorem wholeR_two (l : List UInt8) : (wholeR l).2 = 0 ∨ wholeR l = (0, 20) := by
  unfold wholeR
  split
  · split
    · exact .inl rfl
    · exact .inr rfl
  · exact .inr rfl
theorem wholeR_ok {l : List UInt8} (h : (wholeR l).2 = 0) : Lib.decDigits (wholeR l).1.toNat = l ∧ 0 ≤ (wholeR l).1 := by
  unfold wholeR at h ⊢
  split at h
  · rename_i n hn
    split at h
    · rename_i q
      rw [if_pos q]
      exact ⟨q.2, Int.natCast_nonneg n⟩
    · cases h
  · cases h
theorem parseR_nil : (parseR []).2 ≠ 0 := fun h => printT_ne _ (parseR_ok h).1
theorem wholeR_nil : (wholeR []).2 ≠ 0 := fun h => by
  have := dec_pos (wholeR []).1.toNat
  rw [(wholeR_ok h).1] at this
  simp at this
/-- an instruction's line, without its end -/
def lineI (i : Ins) : List UInt8 :=
  if (shp i.op.toNat).kind = 1 then (shp i.op.toNat).word ++ 32 :: printT i.x
  else if (shp i.op.toNat).kind = 2 ∨ (shp i.op.toNat).kind = 3 then (shp i.op.toNat).word ++ 32 :: Lib.decDigits i.n.toNat
  else if (shp i.op.toNat).kind = 4 then oneW i.n.toNat
  else if (shp i.op.toNat).kind = 5 then twoW i.n.toNat
  else (shp i.op.toNat).word
def tagB (t : Int) : List UInt8 := if t = 1 then readsB else updatesB
def bodyT : List Ins → List UInt8
  | [] => []
  | i :: c => lineI i ++ 10 :: bodyT c
def textP (tag : Int) (c : List Ins) : List UInt8 := tagB tag ++ 10 :: bodyT c
theorem bodyT_append (i : Ins) : ∀ c : List Ins, bodyT (c ++ [i]) = bodyT c ++ (lineI i ++ [10])
  | [] => by simp [bodyT]
  | a :: c => by simp [bodyT, bodyT_append i c]

def readI (l : List UInt8) : Option Ins :=
  match namedW (cutB 32 l).1 with
  | none => none
  | some q =>
    if (shp q.1).kind = 1 then (if (parseR (cutB 32 l).2.1).2 = 0 then some ⟨q.1, 0, (parseR (cutB 32 l).2.1).1⟩ else none)
    else if (shp q.1).kind = 2 ∨ (shp q.1).kind = 3 then (if (wholeR (cutB 32 l).2.1).2 = 0 ∧ fitsB q.1 (wholeR (cutB 32 l).2.1).1 = true then some ⟨q.1, (wholeR (cutB 32 l).2.1).1, 0⟩ else none)
    else if (cutB 32 l).2.2 = true then none else some ⟨q.1, q.2, 0⟩

/-! a text's program -/
abbrev Got := Except (Int × Int) (List Ins)
def instrsF : Nat → List UInt8 → List Ins → Got
  | 0, rest, acc => if rest = [] ∧ acc ≠ [] then .ok acc else .error (50, 1026)
  | k + 1, rest, acc => if rest = [] ∧ acc ≠ [] then .ok acc
    else if (cutB 10 rest).2.2 = false then .error (20, 1025 - k)
    else match readI (cutB 10 rest).1 with
      | none => .error (20, 1025 - k)
      | some i => instrsF k (cutB 10 rest).2.1 (acc ++ [i])
abbrev Out := Except (Int × Int) (Int × List Ins)
def tagOf (l : List UInt8) : Option Int := if l = readsB then some 1 else if l = updatesB then some 2 else none
def outAt (c : List Ins) (k : Nat) : Bool := outB (ci c k).op.toNat (ci c k).n c.length
def findOut (c : List Ins) : Option Nat := (List.range c.length).find? (outAt c)
def placed (t : Int) (c : List Ins) : Out := match findOut c with
  | some k => .error (50, k + 2)
  | none => .ok (t, c)
def ended (t : Int) : Got → Out
  | .error q => .error q
  | .ok c => placed t c
def parseP (l : List UInt8) : Out :=
  if 65536 < l.length then .error (2, 0)
  else if (cutB 10 l).2.2 = false then .error (20, 1)
  else match tagOf (cutB 10 l).1 with
    | none => .error (20, 1)
    | some t => ended t (instrsF 1024 (cutB 10 l).2.1 [])

theorem wordT_at : ∀ k, k < 21 → wordT.getD k [] = (shp k).word := by decide +kernel
theorem one_not_nil : ∀ k, k < 9 → oneW k ≠ [] → 1 ≤ k := by decide +kernel
theorem two_not_nil : ∀ k, k < 13 → twoW k ≠ [] → 1 ≤ k := by decide +kernel
theorem shp_9 : (shp 9).kind = 4 ∧ (shp 9).lo = 1 ∧ (shp 9).hi = 8 := by decide +kernel
theorem shp_10 : (shp 10).kind = 5 ∧ (shp 10).lo = 1 ∧ (shp 10).hi = 12 := by decide +kernel
theorem may_parts {i : Ins} {many : Nat} (h : mayB i many = true) : 0 < i.op ∧ i.op ≤ 20 ∧ (shp i.op.toNat).lo ≤ i.n ∧ i.n ≤ (shp i.op.toNat).hi ∧ ((shp i.op.toNat).kind = 3 → i.n < many) ∧ (i.op = 1 ∨ fixB i.x = 0) := by
  unfold mayB knownB fitsB outB at h
  simp only [Bool.and_eq_true, Bool.or_eq_true, decide_eq_true_eq, Bool.not_eq_true', beq_iff_eq] at h
  obtain ⟨⟨⟨⟨h1, h2⟩, h3, h4⟩, h5⟩, h6⟩ := h
  refine ⟨h1, h2, h3, h4, fun hk => ?_, h6⟩
  have h7 : ¬ ((many : Int) ≤ i.n) := fun q => by simp [hk, q] at h5
  omega
theorem named_facts {w : List UInt8} {q : Nat × Nat} (h : namedW w = some q) : q.1 < 21 ∧ 1 ≤ q.1 ∧ ((q.2 = 0 ∧ (shp q.1).word = w ∧ (shp q.1).kind ≤ 3) ∨ (q.1 = 9 ∧ q.2 < 9 ∧ 1 ≤ q.2 ∧ oneW q.2 = w) ∨ (q.1 = 10 ∧ q.2 < 13 ∧ 1 ≤ q.2 ∧ twoW q.2 = w)) := by
  unfold namedW at h
  by_cases hw : w = []
  · rw [if_pos hw] at h; cases h
  · rw [if_neg hw] at h
    split at h
    · rename_i k hk
      cases h
      obtain ⟨h1, h2, _⟩ := findW_some.1 hk
      have h1' : k < 21 := h1
      rw [wordT_at k h1'] at h2
      obtain ⟨h3, h4⟩ := word_some k h1' (by rw [h2]; exact hw)
      exact ⟨h1', h3, .inl ⟨rfl, h2, h4⟩⟩
    · split at h
      · rename_i k hk
        cases h
        obtain ⟨h1, h2, _⟩ := findW_some.1 hk
        have h1' : k < 9 := h1
        have h2' : oneW k = w := h2
        exact ⟨by show 9 < 21; decide, by show 1 ≤ 9; decide, .inr (.inl ⟨rfl, h1', one_not_nil k h1' (by rw [h2']; exact hw), h2'⟩)⟩
      · split at h
        · rename_i k hk
          cases h
          obtain ⟨h1, h2, _⟩ := findW_some.1 hk
          have h1' : k < 13 := h1
          have h2' : twoW k = w := h2
          exact ⟨by show 10 < 21; decide, by show 1 ≤ 10; decide, .inr (.inr ⟨rfl, h1', two_not_nil k h1' (by rw [h2']; exact hw), h2'⟩)⟩
        · cases h
theorem line_read {i : Ins} {many : Nat} (h : mayB i many = true) (hx : i.x < 18446744073709551616) : readI (lineI i) = some ⟨i.op, i.n, fixB i.x⟩ ∧ 10 ∉ lineI i := by
  obtain ⟨h1, h2, h3, h4, h5, h6⟩ := may_parts h
  obtain ⟨op, n, x⟩ := i
  obtain ⟨k, rfl⟩ : ∃ k : Nat, op = k := ⟨op.toNat, by simp at h1; omega⟩
  simp only [Int.toNat_natCast] at h1 h2 h3 h4 h5 h6 hx ⊢
  have hk : k < 21 := by omega
  have hk1 : 1 ≤ k := by omega
  unfold lineI
  simp only [Int.toNat_natCast]
  rcases kind_all k hk with e | e | e | e | e | e
  · obtain ⟨a1, a2, a3⟩ := kind_0 k hk e
    obtain ⟨b1, b2, b3⟩ := word_facts k hk (.inr (.inr (.inr ⟨e, by omega⟩)))
    have hx0 : fixB x = 0 := h6.resolve_left (by omega)
    have hn : n = 0 := by omega
    rw [e]
    simp only [show ¬ (0 = 1) by decide, show ¬ (0 = 2) by decide, show ¬ (0 = 3) by decide, show ¬ (0 = 4) by decide, show ¬ (0 = 5) by decide, or_self, if_false]
    refine ⟨?_, b2⟩
    unfold readI
    rw [cutB_mk0 32 _ b1]
    simp only [b3, e, show ¬ (0 = 1) by decide, show ¬ (0 = 2) by decide, show ¬ (0 = 3) by decide, or_self, if_false, hx0, hn, Bool.false_eq_true]
    rfl
  · obtain rfl := kind_1 k hk e
    obtain ⟨b1, b2, b3⟩ := word_facts 1 hk (.inl e)
    rw [e]
    simp only [if_true]
    refine ⟨?_, ?_⟩
    · unfold readI
      rw [cutB_mk 32 _ _ b1]
      simp only [b3, e, if_true, parseR_print hx]
      have h0 : (shp 1).lo = 0 ∧ (shp 1).hi = 0 := by decide +kernel
      have : n = 0 := by omega
      subst this
      rfl
    · simp only [List.mem_append, List.mem_cons, not_or]
      exact ⟨b2, by decide, printT_no x⟩
  · obtain ⟨a1, a2, a3⟩ := kind_2 k hk e
    obtain ⟨b1, b2, b3⟩ := word_facts k hk (.inr (.inl e))
    have hx0 : fixB x = 0 := h6.resolve_left (by omega)
    have hw : wholeR (Lib.decDigits n.toNat) = (n, 0) := by rw [wholeR_dec (by omega)]; congr 1; omega
    rw [e]
    simp only [show ¬ (2 = 1) by decide, if_false, true_or, if_true]
    refine ⟨?_, ?_⟩
    · unfold readI
      rw [cutB_mk 32 _ _ b1]
      have hf : fitsB k n = true := by unfold fitsB; simp [h3, h4]
      simp only [b3, e, show ¬ (2 = 1) by decide, if_false, true_or, if_true, hw, hf, and_self, hx0]
    · simp only [List.mem_append, List.mem_cons, not_or]
      exact ⟨b2, by decide, dec_no _⟩
  · obtain ⟨a1, a2, a3⟩ := kind_3 k hk e
    obtain ⟨b1, b2, b3⟩ := word_facts k hk (.inr (.inr (.inl e)))
    have hx0 : fixB x = 0 := h6.resolve_left (by omega)
    have hw : wholeR (Lib.decDigits n.toNat) = (n, 0) := by rw [wholeR_dec (by omega)]; congr 1; omega
    rw [e]
    simp only [show ¬ (3 = 1) by decide, if_false, or_true, if_true]
    refine ⟨?_, ?_⟩
    · unfold readI
      rw [cutB_mk 32 _ _ b1]
      have hf : fitsB k n = true := by unfold fitsB; simp [h3, h4]
      simp only [b3, e, show ¬ (3 = 1) by decide, if_false, or_true, if_true, hw, hf, and_self, hx0]
    · simp only [List.mem_append, List.mem_cons, not_or]
      exact ⟨b2, by decide, dec_no _⟩
  · obtain ⟨rfl, a2, a3⟩ := kind_4 k hk e
    obtain ⟨b1, b2, b3⟩ := one_facts n.toNat (by omega) (by omega)
    have hx0 : fixB x = 0 := h6.resolve_left (by omega)
    rw [e]
    simp only [show ¬ (4 = 1) by decide, show ¬ (4 = 2) by decide, show ¬ (4 = 3) by decide, or_self, if_false, if_true]
    refine ⟨?_, b2⟩
    unfold readI
    rw [cutB_mk0 32 _ b1]
    simp only [b3, e, show ¬ (4 = 1) by decide, show ¬ (4 = 2) by decide, show ¬ (4 = 3) by decide, or_self, if_false, hx0, Bool.false_eq_true]
    have : ((n.toNat : Nat) : Int) = n := by omega
    rw [this]
  · obtain ⟨rfl, a2, a3⟩ := kind_5 k hk e
    obtain ⟨b1, b2, b3⟩ := two_facts n.toNat (by omega) (by omega)
    have hx0 : fixB x = 0 := h6.resolve_left (by omega)
    rw [e]
    simp only [show ¬ (5 = 1) by decide, show ¬ (5 = 2) by decide, show ¬ (5 = 3) by decide, show ¬ (5 = 4) by decide, or_self, if_false, if_true]
    refine ⟨?_, b2⟩
    unfold readI
    rw [cutB_mk0 32 _ b1]
    simp only [b3, e, show ¬ (5 = 1) by decide, show ¬ (5 = 2) by decide, show ¬ (5 = 3) by decide, or_self, if_false, hx0, Bool.false_eq_true]
    have : ((n.toNat : Nat) : Int) = n := by omega
    rw [this]
/-- what is read of a line -/
structure Good (i : Ins) : Prop where
  lo : 0 < i.op
  hi : i.op ≤ 20
  fits : fitsB i.op.toNat i.n = true
  x : i.op = 1 ∨ i.x = 0
  fix : fixB i.x = i.x
  lt : i.x < 18446744073709551616
theorem Good.may {i : Ins} (h : Good i) (many : Nat) : mayB i many = !outB i.op.toNat i.n many := by
  unfold mayB knownB
  have h6 : (decide (i.op = 1) || fixB i.x == 0) = true := by
    rcases h.x with q | q
    · simp [q]
    · simp [q, fixB_zero]
  rw [h.fits, h6]
  simp [h.lo, h.hi]
theorem read_line {l : List UInt8} {i : Ins} (h : readI l = some i) : lineI i = l ∧ Good i := by
  unfold readI at h
  split at h
  · cases h
  · rename_i q hq
    obtain ⟨hk, hk1, hf⟩ := named_facts hq
    rcases cutB_cases 32 l with ⟨a, b, hl, ha, hc⟩ | ⟨ha, hc⟩
    · rw [hc] at h hf
      simp only at h hf
      by_cases e1 : (shp q.1).kind = 1
      · rw [if_pos e1] at h
        by_cases e2 : (parseR b).2 = 0
        · rw [if_pos e2] at h
          cases h
          obtain ⟨p1, p2, p3⟩ := parseR_ok e2
          rcases hf with ⟨f1, f2, f3⟩ | ⟨f1, _⟩ | ⟨f1, _⟩
          · have := kind_1 _ hk e1
            refine ⟨?_, ?_, ?_, ?_, ?_, ?_, ?_⟩
            · unfold lineI
              simp only [Int.toNat_natCast]
              rw [if_pos e1, p1, f2, hl]
            · simp only; omega
            · simp only; omega
            · simp only [Int.toNat_natCast]; rw [this]; decide +kernel
            · simp only; omega
            · exact p2
            · exact p3
          · rw [f1] at e1; rw [shp_9.1] at e1; cases e1
          · rw [f1] at e1; rw [shp_10.1] at e1; cases e1
        · rw [if_neg e2] at h; cases h
      · rw [if_neg e1] at h
        by_cases e3 : (shp q.1).kind = 2 ∨ (shp q.1).kind = 3
        · rw [if_pos e3] at h
          by_cases e2 : (wholeR b).2 = 0 ∧ fitsB q.1 (wholeR b).1 = true
          · rw [if_pos e2] at h
            cases h
            obtain ⟨p1, p2⟩ := wholeR_ok e2.1
            rcases hf with ⟨f1, f2, f3⟩ | ⟨f1, _⟩ | ⟨f1, _⟩
            · refine ⟨?_, ?_, ?_, ?_, ?_, ?_, ?_⟩
              · unfold lineI
                simp only [Int.toNat_natCast]
                rw [if_neg e1, if_pos e3, p1, f2, hl]
              · simp only; omega
              · simp only; omega
              · simp only [Int.toNat_natCast]; exact e2.2
              · exact .inr rfl
              · exact fixB_zero
              · simp
            · rw [f1, shp_9.1] at e3; rcases e3 with e3 | e3 <;> cases e3
            · rw [f1, shp_10.1] at e3; rcases e3 with e3 | e3 <;> cases e3
          · rw [if_neg e2] at h; cases h
        · rw [if_neg e3, if_pos trivial] at h; cases h
    · rw [hc] at h hf
      simp only at h hf
      by_cases e1 : (shp q.1).kind = 1
      · rw [if_pos e1, if_neg parseR_nil] at h; cases h
      · rw [if_neg e1] at h
        by_cases e3 : (shp q.1).kind = 2 ∨ (shp q.1).kind = 3
        · rw [if_pos e3, if_neg (fun q => wholeR_nil q.1)] at h; cases h
        · rw [if_neg e3, if_neg (by decide)] at h
          cases h
          rcases hf with ⟨f1, f2, f3⟩ | ⟨f1, f2, f3, f4⟩ | ⟨f1, f2, f3, f4⟩
          · have e0 : (shp q.1).kind = 0 := by omega
            obtain ⟨a1, a2, a3⟩ := kind_0 _ hk e0
            refine ⟨?_, ?_, ?_, ?_, ?_, ?_, ?_⟩
            · unfold lineI
              simp only [Int.toNat_natCast]
              rw [if_neg e1, if_neg e3, if_neg (by omega), if_neg (by omega), f2]
            · simp only; omega
            · simp only; omega
            · simp only [Int.toNat_natCast, f1]; unfold fitsB; rw [a2, a3]; decide
            · exact .inr rfl
            · exact fixB_zero
            · simp
          · refine ⟨?_, ?_, ?_, ?_, ?_, ?_, ?_⟩
            · unfold lineI
              simp only [Int.toNat_natCast]
              rw [if_neg e1, if_neg e3, f1, if_pos shp_9.1, f4]
            · simp only; omega
            · simp only; omega
            · simp only [Int.toNat_natCast, f1]; unfold fitsB; rw [shp_9.2.1, shp_9.2.2]; simp; omega
            · exact .inr rfl
            · exact fixB_zero
            · simp
          · refine ⟨?_, ?_, ?_, ?_, ?_, ?_, ?_⟩
            · unfold lineI
              simp only [Int.toNat_natCast]
              rw [if_neg e1, if_neg e3, f1, if_neg (by rw [shp_10.1]; decide), if_pos shp_10.1, f4]
            · simp only; omega
            · simp only; omega
            · simp only [Int.toNat_natCast, f1]; unfold fitsB; rw [shp_10.2.1, shp_10.2.2]; simp; omega
            · exact .inr rfl
            · exact fixB_zero
            · simp
def fixI (i : Ins) : Ins := ⟨i.op, i.n, fixB i.x⟩
theorem instrs_print (many : Nat) : ∀ (c : List Ins) (k : Nat) (acc : List Ins), (∀ i ∈ c, mayB i many = true ∧ i.x < 18446744073709551616) → c.length ≤ k → (acc ≠ [] ∨ c ≠ []) → instrsF k (bodyT c) acc = .ok (acc ++ c.map fixI)
  | [], k, acc, _, _, hn => by
    have ha : acc ≠ [] := hn.resolve_right (fun q => q rfl)
    cases k <;> simp [instrsF, bodyT, ha]
  | i :: c, k, acc, hm, hk, _ => by
    obtain ⟨k, rfl⟩ : ∃ j, k = j + 1 := ⟨k - 1, by simp at hk; omega⟩
    obtain ⟨h1, h2⟩ := hm i (List.mem_cons_self ..)
    obtain ⟨h3, h4⟩ := line_read h1 h2
    have ih := instrs_print many c k (acc ++ [fixI i]) (fun j hj => hm j (List.mem_cons_of_mem _ hj)) (by simpa using hk) (.inl (by simp))
    show instrsF (k + 1) (lineI i ++ 10 :: bodyT c) acc = _
    unfold instrsF
    rw [if_neg (fun q => by simp at q), cutB_mk 10 _ _ h4]
    simp only [h3]
    rw [if_neg (by decide)]
    show instrsF k (bodyT c) (acc ++ [fixI i]) = _
    rw [ih]
    simp
theorem instrs_code : ∀ (k : Nat) (rest : List UInt8) (acc c : List Ins), instrsF k rest acc = .ok c → c ≠ [] ∧ ∃ d, c = acc ++ d ∧ bodyT d = rest ∧ (∀ i ∈ d, Good i) ∧ d.length ≤ k
  | 0, rest, acc, c, h => by
    unfold instrsF at h
    split at h
    · rename_i q
      cases h
      exact ⟨q.2, [], by simp, q.1.symm, by simp, by simp⟩
    · cases h
  | k + 1, rest, acc, c, h => by
    unfold instrsF at h
    split at h
    · rename_i q
      cases h
      exact ⟨q.2, [], by simp, q.1.symm, by simp, by simp⟩
    · split at h
      · cases h
      · rename_i hcut
        split at h
        · cases h
        · rename_i i hi
          obtain ⟨hne, d, rfl, hb, hg, hl⟩ := instrs_code k _ _ _ h
          obtain ⟨r1, r2⟩ := read_line hi
          refine ⟨hne, i :: d, by simp, ?_, ?_, by simpa using hl⟩
          · rcases cutB_cases 10 rest with ⟨a, b, e, ha, hc⟩ | ⟨ha, hc⟩
            · rw [hc] at r1 hb
              show lineI i ++ 10 :: bodyT d = rest
              rw [r1, hb]
              exact e.symm
            · rw [hc] at hcut; exact absurd rfl hcut
          · intro j hj
            rcases List.mem_cons.1 hj with rfl | q
            · exact r2
            · exact hg j q
theorem findOut_none {c : List Ins} : findOut c = none ↔ ∀ k, k < c.length → outAt c k = false := by
  unfold findOut
  rw [List.find?_eq_none]
  constructor
  · intro h k hk
    simpa using h k (List.mem_range.2 hk)
  · intro h k hk
    simpa using h k (List.mem_range.1 hk)
theorem findOut_some {c : List Ins} {k : Nat} (hk : k < c.length) (h : outAt c k = true) (hn : ∀ j, j < k → outAt c j = false) : findOut c = some k := by
  unfold findOut
  rw [List.find?_range_eq_some]
  exact ⟨h, List.mem_range.2 hk, fun j hj => by simpa using hn j hj⟩
theorem ci_fix {c : List Ins} {k : Nat} (h : k < c.length) : ci (c.map fixI) k = fixI (ci c k) := by
  have h1 := ci_lt (c := c.map fixI) (k := k) (by simpa using h)
  rw [List.getElem?_map, ci_lt h] at h1
  exact (Option.some.inj h1).symm
theorem tag_of {t : Int} (h : t = 1 ∨ t = 2) : tagOf (tagB t) = some t ∧ 10 ∉ tagB t := by
  rcases h with rfl | rfl <;> decide +kernel
theorem of_tag {l : List UInt8} {t : Int} (h : tagOf l = some t) : (t = 1 ∨ t = 2) ∧ tagB t = l := by
  unfold tagOf at h
  split at h
  · rename_i e; cases h; exact ⟨.inl rfl, e.symm⟩
  · split at h
    · rename_i e; cases h; exact ⟨.inr rfl, e.symm⟩
    · cases h
theorem parse_print {t : Int} {c : List Ins} (h : checkB t c = true) (hx : ∀ i ∈ c, i.x < 18446744073709551616) (hl : (textP t c).length ≤ 65536) : parseP (textP t c) = .ok (t, c.map fixI) := by
  obtain ⟨h1, h2, h3, h4⟩ := check_parts.1 h
  obtain ⟨g1, g2⟩ := tag_of h1
  have hm : ∀ i ∈ c, mayB i c.length = true ∧ i.x < 18446744073709551616 := fun i hi => by
    obtain ⟨k, hk, rfl⟩ := mem_ci hi
    exact ⟨h4 k hk, hx _ hi⟩
  unfold parseP
  rw [if_neg (by omega)]
  unfold textP
  rw [cutB_mk 10 _ _ g2]
  simp only [g1]
  rw [if_neg (by decide), instrs_print c.length c 1024 [] hm h3 (.inr (by intro q; rw [q] at h2; simp at h2))]
  show placed t ([] ++ c.map fixI) = _
  have hn : findOut (c.map fixI) = none := findOut_none.2 fun k hk => by
    rw [List.length_map] at hk
    unfold outAt
    rw [ci_fix hk, List.length_map]
    obtain ⟨_, _, _, _, p5, _⟩ := may_parts (h4 k hk)
    show outB (ci c k).op.toNat (ci c k).n c.length = false
    unfold outB
    by_cases q : (shp (ci c k).op.toNat).kind = 3
    · have := p5 q
      have h7 : ¬ ((c.length : Int) ≤ (ci c k).n) := by omega
      simp [h7]
    · simp [q]
  unfold placed
  rw [List.nil_append, hn]
theorem print_parse {l : List UInt8} {t : Int} {c : List Ins} (h : parseP l = .ok (t, c)) : textP t c = l ∧ checkB t c = true ∧ ∀ i ∈ c, Good i := by
  unfold parseP at h
  split at h
  · cases h
  · split at h
    · cases h
    · rename_i hcut
      split at h
      · cases h
      · rename_i t' ht
        obtain ⟨o1, o2⟩ := of_tag ht
        cases hi : instrsF 1024 (cutB 10 l).2.1 [] with
        | error q => rw [hi] at h; cases h
        | ok d =>
          rw [hi] at h
          have h' : placed t' d = .ok (t, c) := h
          unfold placed at h'
          split at h'
          · cases h'
          · rename_i hn
            cases h'
            obtain ⟨hne, d, e, hb, hg, hl⟩ := instrs_code _ _ _ _ hi
            rw [List.nil_append] at e
            subst e
            refine ⟨?_, check_parts.2 ⟨o1, ?_, hl, fun k hk => ?_⟩, hg⟩
            · rcases cutB_cases 10 l with ⟨a, b, e, ha, hc⟩ | ⟨ha, hc⟩
              · rw [hc] at o2 hb
                show tagB t ++ 10 :: bodyT c = l
                rw [o2, hb]
                exact e.symm
              · rw [hc] at hcut; exact absurd rfl hcut
            · cases c with
              | nil => exact absurd rfl hne
              | cons a d => simp
            · rw [(hg _ (ci_mem hk)).may]
              have := findOut_none.1 hn k hk
              unfold outAt at this
              rw [this]
              rfl
end Go.Proofs.YtlnobfmbnnfbdaaGreatDoor
