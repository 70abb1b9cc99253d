/- stage 19 (asm), pure: labels in the place of places -/
import Derived.Test.YtmoafflimfhaiaaDoorN14
namespace Go.Proofs.YtmoafflimfhaiaaDoor.As
open Go.ChangeShapes Go.WideShapes Go.ChangeAt Go.RowKit Num

theorem wf_int {x : Int} (h : 0 ≤ x) (h2 : x ≤ 1000000) : Wf x := by
  unfold Wf
  simp [Lit.wf, IntKind.min, IntKind.max, IntKind.signed, IntKind.bits]
  omega
theorem wf_nat {x : Nat} (h : x ≤ 1000000) : Wf (x : Nat) := wf_int (by omega) (by omega)
def jmp (i : Ins) : Bool := decide (11 ≤ i.op) && decide (i.op ≤ 14)
def addK (K : List Int) (i : Ins) : List Int := if jmp i && !decide (i.n ∈ K) then K ++ [i.n] else K
/-- the places that the first i instructions go to, each once -/
def kS (c : List Ins) : Nat → List Int
  | 0 => []
  | i + 1 => addK (kS c i) (ci c i)
theorem addK_nodup {K : List Int} (h : K.Nodup) (i : Ins) : (addK K i).Nodup := by
  unfold addK
  split
  · rename_i q
    simp only [Bool.and_eq_true, Bool.not_eq_true', decide_eq_false_iff_not] at q
    rw [List.nodup_append]
    refine ⟨h, by simp, fun a ha b hb e => q.2 ?_⟩
    simp only [List.mem_singleton] at hb
    rw [← hb, ← e]
    exact ha
  · exact h
theorem kS_nodup (c : List Ins) : ∀ i, (kS c i).Nodup
  | 0 => List.nodup_nil
  | i + 1 => addK_nodup (kS_nodup c i) _
theorem addK_sub {K : List Int} (i : Ins) {x : Int} (h : x ∈ K) : x ∈ addK K i := by
  unfold addK
  split
  · exact List.mem_append_left _ h
  · exact h
theorem kS_mem (c : List Ins) : ∀ i k, k < i → jmp (ci c k) = true → (ci c k).n ∈ kS c i
  | 0, k, h, _ => absurd h (Nat.not_lt_zero _)
  | i + 1, k, h, hj => by
    by_cases e : k = i
    · subst e
      show (ci c k).n ∈ addK (kS c k) (ci c k)
      unfold addK
      split
      · simp
      · rename_i q
        rw [hj, Bool.true_and, Bool.not_eq_true, Bool.not_eq_false', decide_eq_true_eq] at q
        exact q
    · exact addK_sub _ (kS_mem c i k (by omega) hj)
theorem addK_len (K : List Int) (i : Ins) : (addK K i).length ≤ K.length + 1 := by
  unfold addK
  split <;> simp
theorem kS_len (c : List Ins) : ∀ i, (kS c i).length ≤ i
  | 0 => Nat.le_refl _
  | i + 1 => Nat.le_trans (addK_len _ _) (Nat.succ_le_succ (kS_len c i))
theorem kS_wf {c : List Ins} {n : Nat} (h : ∀ k, k < n → jmp (ci c k) = true → Wf (ci c k).n) : ∀ i, i ≤ n → ∀ x ∈ kS c i, Wf x
  | 0, _, x, hx => by cases hx
  | i + 1, hi, x, hx => by
    have hx' : x ∈ addK (kS c i) (ci c i) := hx
    unfold addK at hx'
    split at hx'
    · rename_i q
      rcases List.mem_append.1 hx' with z | z
      · exact kS_wf h i (by omega) x z
      · rw [List.mem_singleton] at z
        subst z
        rw [Bool.and_eq_true] at q
        exact h i (by omega) q.1
    · exact kS_wf h i (by omega) x hx'
/-- a label's number -/
def ix (K : List Int) (x : Int) : Nat := K.idxOf x
theorem ix_lt {K : List Int} {x : Int} (h : x ∈ K) : ix K x < K.length := List.idxOf_lt_length_of_mem h
theorem ix_inj {K : List Int} {x y : Int} (hx : x ∈ K) (hy : y ∈ K) (h : ix K x = ix K y) : x = y := by
  have a := List.getElem_idxOf (ix_lt hx)
  have b := List.getElem_idxOf (ix_lt hy)
  unfold ix at h
  simp only [h] at a
  exact a.symm.trans b
theorem ix_app {K : List Int} {x y : Int} (h : x ∈ K) : ix (K ++ [y]) x = ix K x := by
  unfold ix
  rw [List.idxOf_append, if_pos h]
theorem ix_new {K : List Int} {x : Int} (h : x ∉ K) : ix (K ++ [x]) x = K.length := by
  unfold ix
  rw [List.idxOf_append, if_neg h]
  simp
/-- what the map of labels tells -/
def jv (K : List Int) (x : Int) : Int := if x ∈ K then (if ix K x < 256 then (ix K x : Nat) else -1) else 0
def rawI (i : Ins) : Ins := if i.op = 1 then ⟨1, 0, i.x⟩ else if jmp i then ⟨i.op, 0, 0⟩ else ⟨i.op, i.n, 0⟩
def toI (K : List Int) (i : Ins) : Option Int := if i.op = 1 then none else if jmp i then some (ix K i.n : Nat) else none
def markP (K : List Int) (s : Bs) (i : Nat) : Bs := if (i : Int) ∈ K then s.mark (ix K i : Nat) else s
/-- the builder, i instructions on -/
def stP (t : Int) (c : List Ins) (K : List Int) : Nat → Bs
  | 0 => { new t with many := K.length }
  | i + 1 => (markP K (stP t c K i) i).add (rawI (ci c i)) (toI K (ci c i))
section
variable {t : Int} {c : List Ins} {K : List Int}
theorem markP_code (s : Bs) (i : Nat) : (markP K s i).code = s.code ∧ (markP K s i).tos = s.tos ∧ (markP K s i).many = s.many ∧ (markP K s i).tag = s.tag := by
  unfold markP
  split <;> exact ⟨rfl, rfl, rfl, rfl⟩
theorem stP_len : ∀ i, (stP t c K i).code.length = i ∧ (stP t c K i).tos.length = i ∧ (stP t c K i).many = K.length ∧ (stP t c K i).tag = t
  | 0 => ⟨rfl, rfl, rfl, rfl⟩
  | i + 1 => by
    obtain ⟨a, b, d, e⟩ := stP_len i
    obtain ⟨x, y, z, z2⟩ := markP_code (K := K) (stP t c K i) i
    refine ⟨?_, ?_, ?_, ?_⟩
    · show ((markP K (stP t c K i) i).code ++ [rawI (ci c i)]).length = i + 1
      rw [x]; simp [a]
    · show ((markP K (stP t c K i) i).tos ++ [toI K (ci c i)]).length = i + 1
      rw [y]; simp [b]
    · show (markP K (stP t c K i) i).many = _
      rw [z, d]
    · show (markP K (stP t c K i) i).tag = _
      rw [z2, e]
theorem stP_at : ∀ i k, k < i → ci (stP t c K i).code k = rawI (ci c k) ∧ (stP t c K i).tos.getD k none = toI K (ci c k)
  | 0, k, h => absurd h (Nat.not_lt_zero _)
  | i + 1, k, h => by
    obtain ⟨a, b, _⟩ := stP_len (t := t) (c := c) (K := K) i
    obtain ⟨x, y, _⟩ := markP_code (K := K) (stP t c K i) i
    have e1 : (stP t c K (i + 1)).code = (stP t c K i).code ++ [rawI (ci c i)] := by
      show (markP K (stP t c K i) i).code ++ _ = _
      rw [x]
    have e2 : (stP t c K (i + 1)).tos = (stP t c K i).tos ++ [toI K (ci c i)] := by
      show (markP K (stP t c K i) i).tos ++ _ = _
      rw [y]
    unfold ci
    rw [e1, e2, getD_app, getD_app, a, b]
    by_cases q : k < i
    · rw [if_pos q, if_pos q]
      exact stP_at i k q
    · have : k = i := by omega
      rw [if_neg q, if_neg q, if_pos this, if_pos this, this]
      exact ⟨rfl, rfl⟩
theorem stP_marks (i : Nat) : (stP t c K (i + 1)).marks = if (i : Int) ∈ K then (((ix K i : Nat) : Int), i) :: (stP t c K i).marks else (stP t c K i).marks := by
  show (markP K (stP t c K i) i).marks = _
  unfold markP
  split
  · show (((ix K i : Nat) : Int), (stP t c K i).code.length) :: _ = _
    rw [(stP_len i).1]
  · rfl
theorem stP_look : ∀ i, (∀ l, hasM (stP t c K i).marks l = true → ∃ k, k < i ∧ (k : Int) ∈ K ∧ ((ix K k : Nat) : Int) = l) ∧ (∀ k, k < i → (k : Int) ∈ K → look (stP t c K i).marks (ix K k : Nat) = some k) ∧ okM K.length (stP t c K i).marks = true ∧ (stP t c K i).marks.length ≤ i
  | 0 => ⟨fun l h => (by cases h), fun k h => absurd h (Nat.not_lt_zero _), rfl, Nat.le_refl _⟩
  | i + 1 => by
    obtain ⟨a, b, d, e⟩ := stP_look i
    rw [stP_marks]
    by_cases h : (i : Int) ∈ K
    · rw [if_pos h]
      have hno : hasM (stP t c K i).marks (ix K i : Nat) = false := by
        cases q : hasM (stP t c K i).marks (ix K i : Nat)
        · rfl
        · obtain ⟨k, hk, hk2, hk3⟩ := a _ q
          have := ix_inj hk2 h (by omega)
          omega
      refine ⟨fun l hl => ?_, fun k hk hk2 => ?_, ?_, by simp; omega⟩
      · rw [hasM_cons, Bool.or_eq_true, decide_eq_true_eq] at hl
        rcases hl with hl | hl
        · exact ⟨i, Nat.lt_succ_self _, h, hl⟩
        · obtain ⟨k, hk, r⟩ := a l hl
          exact ⟨k, by omega, r⟩
      · rw [look_cons]
        by_cases q : k = i
        · subst q; rw [if_pos rfl]
        · rw [if_neg (fun z => q (by have := ix_inj h hk2 (by omega); omega))]
          exact b k (by omega) hk2
      · show (inB K.length (ix K i : Nat) && !hasM (stP t c K i).marks (ix K i : Nat) && okM K.length (stP t c K i).marks) = true
        rw [hno, d]
        have := ix_lt h
        unfold inB
        simp
        omega
    · rw [if_neg h]
      refine ⟨fun l hl => ?_, fun k hk hk2 => ?_, d, by omega⟩
      · obtain ⟨k, hk, r⟩ := a l hl
        exact ⟨k, by omega, r⟩
      · by_cases q : k = i
        · subst q; exact absurd hk2 h
        · exact b k (by omega) hk2
theorem stP_wf (hK : K.length ≤ 1024) (i : Nat) : ∀ l, hasM (stP t c K i).marks l = true → Wf l := fun l hl => by
  obtain ⟨k, _, h2, rfl⟩ := (stP_look i).1 l hl
  have := ix_lt h2
  exact wf_nat (by omega)
end
/-! an instruction that may be -/
theorem may_push {i : Ins} {n : Nat} (h : mayB i n = true) (h1 : i.op = 1) : i.n = 0 := by
  unfold mayB fitsB at h
  rw [h1] at h
  simp [shp, shpT] at h
  omega
theorem may_zero {i : Ins} {n : Nat} (h : mayB i n = true) (h1 : ¬ i.op = 1) : i.x = 0 := by
  unfold mayB at h
  simp only [Bool.and_eq_true, Bool.or_eq_true, decide_eq_true_eq, beq_iff_eq] at h
  have h2 := h.2.resolve_left h1
  unfold fixB at h2
  split at h2
  · cases h2
  · exact h2
theorem may_jmp {i : Ins} {n : Nat} (h : mayB i n = true) (hj : jmp i = true) : 0 ≤ i.n ∧ i.n < n := by
  unfold jmp at hj
  rw [Bool.and_eq_true, decide_eq_true_eq, decide_eq_true_eq] at hj
  unfold mayB fitsB outB at h
  obtain ⟨op, x, y⟩ := i
  simp only at hj h
  show 0 ≤ x ∧ x < n
  rcases (by omega : op = 11 ∨ op = 12 ∨ op = 13 ∨ op = 14) with rfl | rfl | rfl | rfl <;> (simp [shp, shpT] at h; omega)
theorem raw_back {i : Ins} {n : Nat} (h : mayB i n = true) (hj : jmp i = false ∨ i.op = 1) : rawI i = i := by
  obtain ⟨op, x, y⟩ := i
  unfold rawI
  by_cases h1 : op = 1
  · subst h1
    have := may_push h rfl
    simp only at this
    subst this
    rfl
  · have e := may_zero h h1
    simp only at e
    subst e
    rcases hj with hj | hj
    · rw [if_neg h1, hj]
      rfl
    · exact absurd hj h1
theorem sameB_fix2 (t : Int) (c : List Ins) : sameB t t c (c.map fixI) = true := by
  unfold sameB
  rw [List.length_map]
  simp only [decide_true, Bool.true_and]
  refine all_range.2 fun k _ => ?_
  rw [ci_fix]
  unfold sameI fixI
  simp [fixB_fixB]
/-- the builder at its end comes to the program -/
theorem stP_end {t : Int} {c : List Ins} (hc : checkE t c = 0) : (stP t c (kS c c.length) c.length).filled = c ∧ (stP t c (kS c c.length) c.length).ans = 0 := by
  have hcb : checkB t c = true := by
    unfold checkE at hc
    cases q : checkB t c
    · rw [q] at hc; cases hc
    · rfl
  have hmay := (check_parts.1 hcb).2.2.2
  obtain ⟨l1, l2, l3, l4⟩ := stP_len (t := t) (c := c) (K := kS c c.length) c.length
  obtain ⟨m1, m2, m3, _⟩ := stP_look (t := t) (c := c) (K := kS c c.length) c.length
  have jk : ∀ k, k < c.length → jmp (ci c k) = true → ∃ p : Nat, (ci c k).n = (p : Nat) ∧ look (stP t c (kS c c.length) c.length).marks (ix (kS c c.length) (ci c k).n : Nat) = some p := fun k hk hj => by
    obtain ⟨h0, h1⟩ := may_jmp (hmay k hk) hj
    obtain ⟨p, hp⟩ := Int.eq_ofNat_of_zero_le h0
    refine ⟨p, hp, ?_⟩
    have := kS_mem c c.length k hk hj
    rw [hp] at this ⊢
    exact m2 p (by omega) this
  have hfin : ∀ k, k < c.length → (stP t c (kS c c.length) c.length).fin k = ci c k ∧ (stP t c (kS c c.length) c.length).toOk k = true := fun k hk => by
    obtain ⟨a, b⟩ := stP_at (t := t) (c := c) (K := kS c c.length) c.length k hk
    by_cases h1 : (ci c k).op = 1
    · have e : toI (kS c c.length) (ci c k) = none := by unfold toI; rw [if_pos h1]
      rw [e] at b
      exact ⟨(fin_no b).trans (a.trans (raw_back (hmay k hk) (.inr h1))), toOk_no b⟩
    · cases hj : jmp (ci c k)
      · have e : toI (kS c c.length) (ci c k) = none := by unfold toI; rw [if_neg h1, hj]; rfl
        rw [e] at b
        exact ⟨(fin_no b).trans (a.trans (raw_back (hmay k hk) (.inl hj))), toOk_no b⟩
      · have e : toI (kS c c.length) (ci c k) = some (ix (kS c c.length) (ci c k).n : Nat) := by unfold toI; rw [if_neg h1, hj]; rfl
        rw [e] at b
        obtain ⟨p, hp, hl⟩ := jk k hk hj
        refine ⟨?_, ?_⟩
        · rw [fin_to b, a]
          unfold plN
          rw [hl]
          have hx := may_zero (hmay k hk) h1
          generalize ci c k = i at hp hx h1 hj
          obtain ⟨op, x, y⟩ := i
          simp only at hp hx h1
          subst hp hx
          unfold rawI
          simp only [hj, h1, if_false, if_true]
          rfl
        · rw [toOk_to b]
          unfold hasM
          rw [hl]
          rfl
  have hfilled : (stP t c (kS c c.length) c.length).filled = c := by
    refine ci_ext (by rw [filled_len, l1]) fun k hk => ?_
    rw [filled_len, l1] at hk
    rw [filled_at (by rw [l1]; exact hk)]
    exact (hfin k hk).1
  refine ⟨hfilled, ?_⟩
  have hok : (stP t c (kS c c.length) c.length).ok = true := (ok_split _).2 ⟨by rw [l3]; exact m3, fun k hk => (hfin k (by rw [l1] at hk; exact hk)).2⟩
  unfold Bs.ans
  rw [hok, if_pos rfl, l4, hfilled]
  exact hc
end Go.Proofs.YtmoafflimfhaiaaDoor.As
