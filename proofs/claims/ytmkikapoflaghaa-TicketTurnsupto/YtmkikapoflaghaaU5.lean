import Derived.Test.YtmkikapoflaghaaM1
namespace Go.Proofs.Ytmkikapoflaghaa

/-- how many of the first n -/
def cu (P : Nat → Bool) : Nat → Nat
  | 0 => 0
  | n + 1 => cu P n + (if P n then 1 else 0)
theorem cu_le (P : Nat → Bool) (n : Nat) : cu P n ≤ n := by
  induction n with
  | zero => exact Nat.le_refl _
  | succ n ih => unfold cu; split <;> omega
theorem cu_zero {P : Nat → Bool} {n : Nat} (h : ∀ i, i < n → P i = false) : cu P n = 0 := by
  induction n with
  | zero => rfl
  | succ n ih => unfold cu; rw [ih (fun i hi => h i (by omega)), h n (by omega)]; rfl
theorem cu_one {P : Nat → Bool} {n d : Nat} (hd : d < n) (h : ∀ i, i < n → P i = decide (i = d)) : cu P n = 1 := by
  induction n with
  | zero => omega
  | succ n ih =>
    unfold cu
    rw [h n (by omega)]
    by_cases e : n = d
    · rw [cu_zero (fun i hi => by rw [h i (by omega)]; exact decide_eq_false (by omega))]
      simp [e]
    · rw [ih (by omega) (fun i hi => h i (by omega))]
      simp [e]
theorem cu_most {P : Nat → Bool} {n : Nat} (h : ∀ i j, i < n → j < n → P i = true → P j = true → i = j) : cu P n ≤ 1 := by
  induction n with
  | zero => exact Nat.zero_le _
  | succ n ih =>
    unfold cu
    cases q : P n
    · have := ih (fun i j hi hj => h i j (by omega) (by omega))
      simpa using this
    · have : cu P n = 0 := cu_zero fun i hi => by
        cases e : P i
        · rfl
        · have := h i n (by omega) (by omega) e q
          omega
      rw [this]
      simp
theorem cu_add {P Q R : Nat → Bool} {n : Nat} (h : ∀ i, i < n → (if P i then 1 else 0) = (if Q i then 1 else 0) + (if R i then 1 else 0)) : cu P n = cu Q n + cu R n := by
  induction n with
  | zero => rfl
  | succ n ih =>
    unfold cu
    rw [ih (fun i hi => h i (by omega)), h n (by omega)]
    omega

def upd (f : Nat → Int) (t : Nat) (v : Int) : Nat → Int := fun i => if i = t then v else f i
theorem upd_at (f : Nat → Int) (t : Nat) (v : Int) : upd f t v t = v := by simp [upd]
theorem upd_ne (f : Nat → Int) {t i : Nat} (v : Int) (h : i ≠ t) : upd f t v i = f i := by simp [upd, h]
/-- whose ticket is below x -/
def ahP (p k : Nat → Int) (x : Int) (i : Nat) : Bool := decide (0 < p i) && decide (k i < x)
def twoP (p : Nat → Int) (i : Nat) : Bool := decide (p i = 2)

/-- where eight threads are: p what each does next, k its ticket, D who drew the tickets, sv the ticket that is served, n how many have been told -/
structure Tinv (p k : Nat → Int) (D : List Nat) (sv n : Nat) : Prop where
  rng : ∀ i, i < 8 → p i = 0 ∨ p i = 1 ∨ p i = 2
  act : ∀ i, i < 8 → p i ≠ 0 → ∃ m : Nat, k i = m ∧ sv ≤ m ∧ D[m]? = some i
  back : ∀ m, sv ≤ m → m < D.length → ∃ i, i < 8 ∧ D[m]? = some i ∧ p i ≠ 0 ∧ k i = m
  two : ∀ i, i < 8 → p i = 2 → k i = sv
  le : sv ≤ D.length
  told : (∃ i, i < 8 ∧ p i = 2 ∧ n = sv + 1) ∨ ((∀ i, i < 8 → p i ≠ 2) ∧ n = sv)
theorem tinv_new : Tinv (fun _ => 0) (fun _ => 0) [] 0 0 :=
  ⟨fun _ _ => Or.inl rfl, fun i _ h => absurd rfl h, fun m _ h => absurd h (Nat.not_lt_zero m), fun i _ h => by simp at h, Nat.le_refl _, Or.inr ⟨fun i _ h => by simp at h, rfl⟩⟩
section
variable {p k : Nat → Int} {D : List Nat} {sv n : Nat}
theorem Tinv.pos (h : Tinv p k D sv n) {i : Nat} (hi : i < 8) : (0 < p i) ↔ p i ≠ 0 := by
  rcases h.rng i hi with e | e | e <;> simp [e]
/-- the tickets from the one that is served on have been drawn by as many threads -/
theorem Tinv.count (h : Tinv p k D sv n) : ∀ m, sv ≤ m → m ≤ D.length → cu (ahP p k (m : Int)) 8 = m - sv := by
  intro m hm
  induction m with
  | zero =>
    intro _
    have : sv = 0 := by omega
    rw [cu_zero]
    · omega
    · intro i hi
      by_cases e : p i = 0
      · simp [ahP, e]
      · obtain ⟨x, hx, _, _⟩ := h.act i hi e
        simp [ahP]
        intro _
        rw [hx]
        omega
  | succ m ih =>
    intro hl
    by_cases e : sv = m + 1
    · subst e
      rw [cu_zero]
      · omega
      · intro i hi
        by_cases e : p i = 0
        · simp [ahP, e]
        · obtain ⟨x, hx, hs, _⟩ := h.act i hi e
          have : ¬ k i < ((m + 1 : Nat) : Int) := by rw [hx]; omega
          unfold ahP
          rw [decide_eq_false this, Bool.and_false]
    · have ih := ih (by omega) (by omega)
      obtain ⟨d, hd, hD, hp, hk⟩ := h.back m (by omega) (by omega)
      rw [cu_add (Q := ahP p k (m : Int)) (R := fun i => decide (i = d)), ih, cu_one hd (fun i _ => rfl)]
      · omega
      · intro i hi
        by_cases e : p i = 0
        · have hne : i ≠ d := fun q => hp (by rw [← q]; exact e)
          simp [ahP, e, hne]
        · obtain ⟨x, hx, hs, hDx⟩ := h.act i hi e
          have hpos := (h.pos hi).2 e
          unfold ahP
          rw [decide_eq_true hpos, Bool.true_and, Bool.true_and, hx]
          by_cases q : i = d
          · subst q
            have : (x : Int) = m := by rw [← hx, hk]
            rw [decide_eq_true (show (x : Int) < ((m + 1 : Nat) : Int) by omega), decide_eq_false (show ¬ (x : Int) < (m : Int) by omega)]
            simp
          · have hxm : x ≠ m := fun q2 => by
              subst q2
              rw [hD] at hDx
              exact q (by injection hDx with e; exact e.symm)
            rw [decide_eq_false q]
            by_cases q3 : x < m
            · rw [decide_eq_true (show (x : Int) < ((m + 1 : Nat) : Int) by omega), decide_eq_true (show (x : Int) < (m : Int) by omega)]
              rfl
            · rw [decide_eq_false (show ¬ (x : Int) < ((m + 1 : Nat) : Int) by omega), decide_eq_false (show ¬ (x : Int) < (m : Int) by omega)]
              rfl
theorem Tinv.one (h : Tinv p k D sv n) : cu (twoP p) 8 ≤ 1 := by
  refine cu_most fun i j hi hj h1 h2 => ?_
  have e1 := of_decide_eq_true h1
  have e2 := of_decide_eq_true h2
  have k1 := h.two i hi e1
  have k2 := h.two j hj e2
  obtain ⟨x, hx, _, hDx⟩ := h.act i hi (by rw [e1]; decide)
  obtain ⟨y, hy, _, hDy⟩ := h.act j hj (by rw [e2]; decide)
  have : x = y := by
    have a : (x : Int) = y := by rw [← hx, ← hy, k1, k2]
    omega
  subst this
  rw [hDx] at hDy
  injection hDy
theorem Tinv.draw (h : Tinv p k D sv n) {t : Nat} (ht : t < 8) (hp : p t = 0) : Tinv (upd p t 1) (upd k t D.length) (D ++ [t]) sv n := by
  refine ⟨fun i hi => ?_, fun i hi hn => ?_, fun m h1 h2 => ?_, fun i hi h2 => ?_, by simp; have := h.le; omega, ?_⟩
  · by_cases e : i = t
    · subst e; rw [upd_at]; exact Or.inr (Or.inl rfl)
    · rw [upd_ne _ _ e]; exact h.rng i hi
  · by_cases e : i = t
    · subst e
      rw [upd_at]
      exact ⟨D.length, rfl, h.le, by simp⟩
    · rw [upd_ne _ _ e] at hn ⊢
      obtain ⟨m, h1, h2, h3⟩ := h.act i hi hn
      have : m < D.length := (List.getElem?_eq_some_iff.1 h3).1
      exact ⟨m, h1, h2, by rw [List.getElem?_append_left this]; exact h3⟩
  · simp at h2
    by_cases e : m = D.length
    · subst e
      exact ⟨t, ht, by simp, by rw [upd_at]; decide, by rw [upd_at]⟩
    · obtain ⟨i, hi, q1, q2, q3⟩ := h.back m h1 (by omega)
      have hne : i ≠ t := fun q => q2 (by rw [q]; exact hp)
      exact ⟨i, hi, by rw [List.getElem?_append_left (by omega)]; exact q1, by rw [upd_ne _ _ hne]; exact q2, by rw [upd_ne _ _ hne]; exact q3⟩
  · by_cases e : i = t
    · subst e; rw [upd_at] at h2; simp at h2
    · rw [upd_ne _ _ e] at h2 ⊢
      exact h.two i hi h2
  · rcases h.told with ⟨i, hi, q1, q2⟩ | ⟨q1, q2⟩
    · have hne : i ≠ t := fun q => by rw [q, hp] at q1; simp at q1
      exact Or.inl ⟨i, hi, by rw [upd_ne _ _ hne]; exact q1, q2⟩
    · refine Or.inr ⟨fun i hi => ?_, q2⟩
      by_cases e : i = t
      · subst e; rw [upd_at]; decide
      · rw [upd_ne _ _ e]; exact q1 i hi
/-- whoever looks: his ticket, and how many are ahead -/
theorem Tinv.look (h : Tinv p k D sv n) {t : Nat} (ht : t < 8) (hp : p t = 1) : ∃ m : Nat, k t = m ∧ sv ≤ m ∧ m < D.length ∧ cu (ahP p k (k t)) 8 = m - sv ∧ D[m]? = some t := by
  obtain ⟨m, h1, h2, h3⟩ := h.act t ht (by rw [hp]; decide)
  have hl : m < D.length := (List.getElem?_eq_some_iff.1 h3).1
  exact ⟨m, h1, h2, hl, by rw [h1]; exact h.count m h2 (by omega), h3⟩
theorem Tinv.tell (h : Tinv p k D sv n) {t : Nat} (ht : t < 8) (hp : p t = 1) (hk : k t = sv) : n = sv ∧ D[n]? = some t ∧ Tinv (upd p t 2) k D sv (n + 1) := by
  obtain ⟨m, h1, h2, h3⟩ := h.act t ht (by rw [hp]; decide)
  have hm : m = sv := by
    have : (m : Int) = sv := by rw [← h1, hk]
    omega
  subst hm
  have hn : n = m := by
    rcases h.told with ⟨i, hi, q1, _⟩ | ⟨_, q⟩
    · have k1 := h.two i hi q1
      obtain ⟨x, hx, _, hDx⟩ := h.act i hi (by rw [q1]; decide)
      have : x = m := by
        have : (x : Int) = m := by rw [← hx, k1]
        omega
      subst this
      rw [h3] at hDx
      injection hDx with e
      subst e
      rw [hp] at q1
      simp at q1
    · exact q
  subst hn
  refine ⟨rfl, h3, fun i hi => ?_, fun i hi hh => ?_, fun x q1 q2 => ?_, fun i hi hh => ?_, h.le, Or.inl ⟨t, ht, upd_at _ _ _, rfl⟩⟩
  · by_cases e : i = t
    · subst e; rw [upd_at]; exact Or.inr (Or.inr rfl)
    · rw [upd_ne _ _ e]; exact h.rng i hi
  · by_cases e : i = t
    · subst e; exact ⟨_, h1, Nat.le_refl _, h3⟩
    · rw [upd_ne _ _ e] at hh; exact h.act i hi hh
  · obtain ⟨i, hi, r1, r2, r3⟩ := h.back x q1 q2
    refine ⟨i, hi, r1, ?_, r3⟩
    by_cases e : i = t
    · subst e; rw [upd_at]; decide
    · rw [upd_ne _ _ e]; exact r2
  · by_cases e : i = t
    · subst e; exact hk
    · rw [upd_ne _ _ e] at hh; exact h.two i hi hh
theorem Tinv.pass (h : Tinv p k D sv n) {t : Nat} (ht : t < 8) (hp : p t = 2) : k t = sv ∧ sv < D.length ∧ Tinv (upd p t 0) k D (sv + 1) n := by
  have hk := h.two t ht hp
  obtain ⟨m, h1, h2, h3⟩ := h.act t ht (by rw [hp]; decide)
  have hm : m = sv := by
    have : (m : Int) = sv := by rw [← h1, hk]
    omega
  subst hm
  have hl : m < D.length := (List.getElem?_eq_some_iff.1 h3).1
  have only : ∀ i, i < 8 → p i = 2 → i = t := fun i hi q1 => by
    have k1 := h.two i hi q1
    obtain ⟨x, hx, _, hDx⟩ := h.act i hi (by rw [q1]; decide)
    have : x = m := by
      have : (x : Int) = m := by rw [← hx, k1]
      omega
    subst this
    rw [h3] at hDx
    injection hDx with e
    exact e.symm
  refine ⟨hk, hl, fun i hi => ?_, fun i hi hh => ?_, fun x q1 q2 => ?_, fun i hi hh => ?_, hl, Or.inr ⟨fun i hi hh => ?_, ?_⟩⟩
  · by_cases e : i = t
    · subst e; rw [upd_at]; exact Or.inl rfl
    · rw [upd_ne _ _ e]; exact h.rng i hi
  · by_cases e : i = t
    · subst e; rw [upd_at] at hh; simp at hh
    · rw [upd_ne _ _ e] at hh
      obtain ⟨x, r1, r2, r3⟩ := h.act i hi hh
      have : x ≠ m := fun q => by
        subst q
        rw [h3] at r3
        injection r3 with e2
        exact e e2.symm
      exact ⟨x, r1, by omega, r3⟩
  · obtain ⟨i, hi, r1, r2, r3⟩ := h.back x (by omega) q2
    have hne : i ≠ t := fun q => by
      subst q
      rw [h1] at r3
      omega
    exact ⟨i, hi, r1, by rw [upd_ne _ _ hne]; exact r2, r3⟩
  · by_cases e : i = t
    · subst e; rw [upd_at] at hh; simp at hh
    · rw [upd_ne _ _ e] at hh
      exact absurd (only i hi hh) e
  · by_cases e : i = t
    · subst e; rw [upd_at] at hh; simp at hh
    · rw [upd_ne _ _ e] at hh
      exact absurd (only i hi hh) e
  · rcases h.told with ⟨i, _, _, q⟩ | ⟨q, _⟩
    · exact q
    · exact absurd hp (q t ht)
theorem Tinv.n_le (h : Tinv p k D sv n) : n ≤ D.length := by
  rcases h.told with ⟨i, hi, q1, q2⟩ | ⟨_, q⟩
  · have := (h.pass hi q1).2.1
    omega
  · have := h.le
    omega
end
end Go.Proofs.Ytmkikapoflaghaa
