import Derived.Test.YtdfmmolhfacahaaVE
namespace Go.Proofs.Ytdfmmolhfacahaa

def updN (f : Nat → Nat) (t v : Nat) : Nat → Nat := fun i => if i = t then v else f i
def updB (f : Nat → Bool) (t : Nat) (v : Bool) : Nat → Bool := fun i => if i = t then v else f i
theorem updN_at (f : Nat → Nat) (t v : Nat) : updN f t v t = v := by simp [updN]
theorem updN_ne (f : Nat → Nat) {t i : Nat} (v : Nat) (h : i ≠ t) : updN f t v i = f i := by simp [updN, h]
theorem updB_at (f : Nat → Bool) (t : Nat) (v : Bool) : updB f t v t = v := by simp [updB]
theorem updB_ne (f : Nat → Bool) {t i : Nat} (v : Bool) (h : i ≠ t) : updB f t v i = f i := by simp [updB, h]
theorem updN_same (f : Nat → Nat) (t : Nat) : updN f t (f t) = f := by
  funext i
  by_cases e : i = t
  · subst e; rw [updN_at]
  · rw [updN_ne _ _ e]
theorem updN_two (f : Nat → Nat) (t v u : Nat) : updN (updN f t v) t u = updN f t u := by
  funext i
  by_cases e : i = t
  · subst e; rw [updN_at, updN_at]
  · rw [updN_ne _ _ e, updN_ne _ _ e, updN_ne _ _ e]

/-- seven readers and an updater: p how many steps of its coming each has done, K its claim, S its stamp; ws the words, m the stamp that is published; d what the updater does, s the stamp that it loaded, a and q its scan's next thread and polls; k how many steps there were -/
structure Ginv (p K S : Nat → Nat) (ws : List Int) (m d s a q k : Nat) : Prop where
  len : ws.length = 9
  w0 : ws.getD 0 0 = (m : Int)
  mm : m ≤ k
  p3 : ∀ i, i < 7 → p i ≤ 3
  lo : ∀ i, i < 7 → p i ≤ 1 → ws.getD (1 + i) 0 = 0
  hi : ∀ i, i < 7 → 2 ≤ p i → ws.getD (1 + i) 0 = ((K i + 1 : Nat) : Int)
  kk : ∀ i, i < 7 → p i ≠ 0 → K i ≤ m
  ks : ∀ i, i < 7 → p i = 3 → K i ≤ S i ∧ S i ≤ m
  z2 : ∀ i, i < 7 → p i ≠ 3 → p i ≠ 0 → S i = 0
  d2 : d ≤ 2
  us : d ≠ 0 → s = m
  sc : d = 1 → a < 7 ∧ q ≤ k ∧ ∀ i, i < a → p i = 3 → S i = m
  dn : d = 2 → ∀ i, i < 7 → p i = 3 → S i = m
section
variable {p K S : Nat → Nat} {ws : List Int} {m d s a q k t : Nat}
theorem ginv_new : Ginv (fun _ => 0) (fun _ => 0) (fun _ => 0) (List.replicate 9 0) 0 0 0 0 0 0 := by
  refine ⟨rfl, rfl, Nat.le_refl _, fun i _ => by simp, fun i hi _ => ?_, fun i _ h => by simp at h, fun i _ h => absurd rfl h, fun i _ h => by simp at h, fun i _ _ h => absurd rfl h, by omega, fun h => absurd rfl h, fun h => by simp at h, fun h => by simp at h⟩
  rw [List.getD_eq_getElem?_getD, List.getElem?_replicate]
  split <;> rfl
theorem Ginv.come (h : Ginv p K S ws m d s a q k) (_ht : t < 7) (_hp : p t = 0) : Ginv (updN p t 1) (updN K t m) (updN S t 0) ws m d s a q (k + 1) := by
  refine ⟨h.len, h.w0, by have := h.mm; omega, fun i hi => ?_, fun i hi h1 => ?_, fun i hi h1 => ?_, fun i hi h1 => ?_, fun i hi h1 => ?_, fun i hi h1 h2 => ?_, h.d2, h.us, fun hd => ?_, fun hd i hi h1 => ?_⟩
  · by_cases e : i = t
    · subst e; rw [updN_at]; omega
    · rw [updN_ne _ _ e]; exact h.p3 i hi
  · by_cases e : i = t
    · subst e; exact h.lo i hi (by omega)
    · rw [updN_ne _ _ e] at h1; exact h.lo i hi h1
  · by_cases e : i = t
    · subst e; rw [updN_at] at h1; omega
    · rw [updN_ne _ _ e] at h1 ⊢; exact h.hi i hi h1
  · by_cases e : i = t
    · subst e; rw [updN_at]; exact Nat.le_refl _
    · rw [updN_ne _ _ e] at h1 ⊢; exact h.kk i hi h1
  · by_cases e : i = t
    · subst e; rw [updN_at] at h1; omega
    · rw [updN_ne _ _ e] at h1; rw [updN_ne _ _ e, updN_ne _ _ e]; exact h.ks i hi h1
  · by_cases e : i = t
    · subst e; rw [updN_at]
    · rw [updN_ne _ _ e] at h1 h2 ⊢; exact h.z2 i hi h1 h2
  · obtain ⟨h1, h2, h3⟩ := h.sc hd
    refine ⟨h1, by omega, fun i hi h4 => ?_⟩
    by_cases e : i = t
    · subst e; rw [updN_at] at h4; omega
    · rw [updN_ne _ _ e] at h4 ⊢; exact h3 i hi h4
  · by_cases e : i = t
    · subst e; rw [updN_at] at h1; omega
    · rw [updN_ne _ _ e] at h1 ⊢; exact h.dn hd i hi h1
theorem Ginv.claim (h : Ginv p K S ws m d s a q k) (ht : t < 7) (hp : p t = 1) : Ginv (updN p t 2) K S (ws.set (1 + t) ((K t + 1 : Nat) : Int)) m d s a q (k + 1) := by
  have hl := h.len
  refine ⟨by rw [List.length_set]; exact hl, by rw [getD_set _ _ _ _ (by omega), if_neg (by omega)]; exact h.w0, by have := h.mm; omega, fun i hi => ?_, fun i hi h1 => ?_, fun i hi h1 => ?_, fun i hi h1 => ?_, fun i hi h1 => ?_, fun i hi h1 h2 => ?_, h.d2, h.us, fun hd => ?_, fun hd i hi h1 => ?_⟩
  · by_cases e : i = t
    · subst e; rw [updN_at]; omega
    · rw [updN_ne _ _ e]; exact h.p3 i hi
  · by_cases e : i = t
    · subst e; rw [updN_at] at h1; omega
    · rw [updN_ne _ _ e] at h1; rw [getD_set _ _ _ _ (by omega), if_neg (by omega)]; exact h.lo i hi h1
  · by_cases e : i = t
    · subst e; rw [getD_set _ _ _ _ (by omega), if_pos rfl]
    · rw [updN_ne _ _ e] at h1; rw [getD_set _ _ _ _ (by omega), if_neg (by omega)]; exact h.hi i hi h1
  · by_cases e : i = t
    · subst e; exact h.kk i hi (by omega)
    · rw [updN_ne _ _ e] at h1; exact h.kk i hi h1
  · by_cases e : i = t
    · subst e; rw [updN_at] at h1; omega
    · rw [updN_ne _ _ e] at h1; exact h.ks i hi h1
  · by_cases e : i = t
    · subst e; exact h.z2 i hi (by omega) (by omega)
    · rw [updN_ne _ _ e] at h1 h2; exact h.z2 i hi h1 h2
  · obtain ⟨h1, h2, h3⟩ := h.sc hd
    refine ⟨h1, by omega, fun i hi h4 => ?_⟩
    by_cases e : i = t
    · subst e; rw [updN_at] at h4; omega
    · rw [updN_ne _ _ e] at h4; exact h3 i hi h4
  · by_cases e : i = t
    · subst e; rw [updN_at] at h1; omega
    · rw [updN_ne _ _ e] at h1; exact h.dn hd i hi h1
theorem Ginv.stamp (h : Ginv p K S ws m d s a q k) (ht : t < 7) (hp : p t = 2) : Ginv (updN p t 3) K (updN S t m) ws m d s a q (k + 1) := by
  have hkt := h.kk t ht (by omega)
  refine ⟨h.len, h.w0, by have := h.mm; omega, fun i hi => ?_, fun i hi h1 => ?_, fun i hi h1 => ?_, fun i hi h1 => ?_, fun i hi h1 => ?_, fun i hi h1 h2 => ?_, h.d2, h.us, fun hd => ?_, fun hd i hi h1 => ?_⟩
  · by_cases e : i = t
    · subst e; rw [updN_at]; omega
    · rw [updN_ne _ _ e]; exact h.p3 i hi
  · by_cases e : i = t
    · subst e; rw [updN_at] at h1; omega
    · rw [updN_ne _ _ e] at h1; exact h.lo i hi h1
  · by_cases e : i = t
    · subst e; exact h.hi i hi (by omega)
    · rw [updN_ne _ _ e] at h1; exact h.hi i hi h1
  · by_cases e : i = t
    · subst e; exact hkt
    · rw [updN_ne _ _ e] at h1; exact h.kk i hi h1
  · by_cases e : i = t
    · subst e; rw [updN_at]; omega
    · rw [updN_ne _ _ e] at h1 ⊢; exact h.ks i hi h1
  · by_cases e : i = t
    · subst e; rw [updN_at] at h1; omega
    · rw [updN_ne _ _ e] at h1 h2 ⊢; exact h.z2 i hi h1 h2
  · obtain ⟨h1, h2, h3⟩ := h.sc hd
    refine ⟨h1, by omega, fun i hi h4 => ?_⟩
    by_cases e : i = t
    · subst e; rw [updN_at]
    · rw [updN_ne _ _ e] at h4 ⊢; exact h3 i hi h4
  · by_cases e : i = t
    · subst e; rw [updN_at]
    · rw [updN_ne _ _ e] at h1 ⊢; exact h.dn hd i hi h1
theorem Ginv.leave (h : Ginv p K S ws m d s a q k) (ht : t < 7) (_hp : p t = 3) : Ginv (updN p t 0) K S (ws.set (1 + t) 0) m d s a q (k + 1) := by
  have hl := h.len
  refine ⟨by rw [List.length_set]; exact hl, by rw [getD_set _ _ _ _ (by omega), if_neg (by omega)]; exact h.w0, by have := h.mm; omega, fun i hi => ?_, fun i hi h1 => ?_, fun i hi h1 => ?_, fun i hi h1 => ?_, fun i hi h1 => ?_, fun i hi h1 h2 => ?_, h.d2, h.us, fun hd => ?_, fun hd i hi h1 => ?_⟩
  · by_cases e : i = t
    · subst e; rw [updN_at]; omega
    · rw [updN_ne _ _ e]; exact h.p3 i hi
  · by_cases e : i = t
    · subst e; rw [getD_set _ _ _ _ (by omega), if_pos rfl]
    · rw [updN_ne _ _ e] at h1; rw [getD_set _ _ _ _ (by omega), if_neg (by omega)]; exact h.lo i hi h1
  · by_cases e : i = t
    · subst e; rw [updN_at] at h1; omega
    · rw [updN_ne _ _ e] at h1; rw [getD_set _ _ _ _ (by omega), if_neg (by omega)]; exact h.hi i hi h1
  · by_cases e : i = t
    · subst e; rw [updN_at] at h1; omega
    · rw [updN_ne _ _ e] at h1; exact h.kk i hi h1
  · by_cases e : i = t
    · subst e; rw [updN_at] at h1; omega
    · rw [updN_ne _ _ e] at h1; exact h.ks i hi h1
  · by_cases e : i = t
    · subst e; rw [updN_at] at h2; omega
    · rw [updN_ne _ _ e] at h1 h2; exact h.z2 i hi h1 h2
  · obtain ⟨h1, h2, h3⟩ := h.sc hd
    refine ⟨h1, by omega, fun i hi h4 => ?_⟩
    by_cases e : i = t
    · subst e; rw [updN_at] at h4; omega
    · rw [updN_ne _ _ e] at h4; exact h3 i hi h4
  · by_cases e : i = t
    · subst e; rw [updN_at] at h1; omega
    · rw [updN_ne _ _ e] at h1; exact h.dn hd i hi h1
theorem Ginv.load (h : Ginv p K S ws m d s a q k) : Ginv p K S ws m 1 m 0 0 (k + 1) :=
  ⟨h.len, h.w0, by have := h.mm; omega, h.p3, h.lo, h.hi, h.kk, h.ks, h.z2, by omega, fun _ => rfl, fun _ => ⟨by omega, by omega, fun i hi => by omega⟩, fun z => by omega⟩
theorem Ginv.poll (h : Ginv p K S ws m 1 s a q k) : Ginv p K S ws m 1 s a (q + 1) (k + 1) :=
  ⟨h.len, h.w0, by have := h.mm; omega, h.p3, h.lo, h.hi, h.kk, h.ks, h.z2, by omega, h.us, fun z => ⟨(h.sc z).1, by have := (h.sc z).2.1; omega, (h.sc z).2.2⟩, fun z => by omega⟩
/-- whom the scan has passed has the stamp -/
theorem Ginv.past (h : Ginv p K S ws m 1 s a q k) (hl : letB (s : Int) (ws.getD (1 + a) 0) = true) : ∀ i, i < a + 1 → p i = 3 → S i = m := by
  intro i hi hp
  obtain ⟨h1, h2, h3⟩ := h.sc rfl
  by_cases e : i = a
  · subst e
    have hk := h.ks i h1 hp
    have hw := h.hi i h1 (by omega)
    have hs := h.us (by omega)
    rw [hw] at hl
    unfold letB at hl
    rw [Bool.or_eq_true] at hl
    rcases hl with z | z
    · have := of_decide_eq_true z; omega
    · have := of_decide_eq_true z; omega
  · exact h3 i (by omega) hp
theorem Ginv.pass (h : Ginv p K S ws m 1 s a q k) (hl : letB (s : Int) (ws.getD (1 + a) 0) = true) (ha : a + 1 < 7) : Ginv p K S ws m 1 s (a + 1) q (k + 1) :=
  ⟨h.len, h.w0, by have := h.mm; omega, h.p3, h.lo, h.hi, h.kk, h.ks, h.z2, by omega, h.us, fun _ => ⟨ha, by have := (h.sc rfl).2.1; omega, h.past hl⟩, fun z => by omega⟩
theorem Ginv.over (h : Ginv p K S ws m 1 s a q k) (hl : letB (s : Int) (ws.getD (1 + a) 0) = true) (ha : a + 1 = 7) : Ginv p K S ws m 2 s (a + 1) q (k + 1) :=
  ⟨h.len, h.w0, by have := h.mm; omega, h.p3, h.lo, h.hi, h.kk, h.ks, h.z2, by omega, fun _ => h.us (by omega), fun z => by omega, fun _ i hi => h.past hl i (by omega)⟩
theorem Ginv.publish (h : Ginv p K S ws m 2 s a q k) : Ginv p K S (ws.set 0 ((m + 1 : Nat) : Int)) (m + 1) 0 s a q (k + 1) := by
  have hl := h.len
  have ne : ∀ i, (ws.set 0 ((m + 1 : Nat) : Int)).getD (1 + i) 0 = ws.getD (1 + i) 0 := fun i => by rw [getD_set _ _ _ _ (by omega), if_neg (by omega)]
  refine ⟨by rw [List.length_set]; exact hl, by rw [getD_set _ _ _ _ (by omega), if_pos rfl], by have := h.mm; omega, h.p3, fun i hi h1 => by rw [ne]; exact h.lo i hi h1, fun i hi h1 => by rw [ne]; exact h.hi i hi h1, fun i hi h1 => by have := h.kk i hi h1; omega, fun i hi h1 => by have := h.ks i hi h1; omega, h.z2, by omega, fun z => absurd rfl z, fun z => by omega, fun z => by omega⟩
end
end Go.Proofs.Ytdfmmolhfacahaa
