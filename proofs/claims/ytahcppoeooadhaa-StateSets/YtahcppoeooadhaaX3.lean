import Derived.Test.YtahcppoeooadhaaX2
namespace Go.Proofs.Ytahcppoeooadhaa
open Go.ChangeShapes Go.WideShapes Go.ChangeAt Go.RowKit Num
attribute [local go_sem] run_store_float frombits_run bits_run

/-- the first k of a list are fixed -/
def upF (k : Nat) (l : List Nat) : List Nat := (l.take k).map fixB ++ l.drop k
theorem upF_zero (l : List Nat) : upF 0 l = l := by simp [upF]
theorem upF_len (k : Nat) (l : List Nat) : (upF k l).length = l.length := by simp [upF]; omega
theorem upF_all (l : List Nat) : upF l.length l = l.map fixB := by simp [upF]
theorem upF_at {k : Nat} {l : List Nat} (h : k < l.length) (h' : k < (upF k l).length) : (upF k l)[k] = l[k] := by
  have e : min k l.length = k := Nat.min_eq_left (Nat.le_of_lt h)
  simp [upF, e]
theorem upF_set {k : Nat} {l : List Nat} (h : k < l.length) : (upF k l).set k (fixB l[k]) = upF (k + 1) l := by
  unfold upF
  have e : ((l.take k).map fixB).length = k := by simp; omega
  rw [List.set_append_right _ _ (by omega), e, Nat.sub_self, List.drop_eq_getElem_cons h, List.set_cons_zero, List.take_succ_eq_append_getElem h, List.map_append, List.append_assoc]
  rfl
section
variable {w : World} {p : Option Addr} {c : Nat} {l : List Nat}
theorem of_none (hl : mayN (l.length : Int) = false) (w : World) : Calls Try.prog 13 #[.slice p l.length c] w fun e w' => e = .returned (.tuple #[.pointer none, .int .i64 1]) ∧ w' = w := by
  go_enter Try.func13, Try.ntmps13
  go_wp2_with (go_at_call 24; refine (mayBe_any _ _).mono ?_; rw [hl]; rintro e w' ⟨rfl, hw⟩; subst w')
  go_ret2
  exact ⟨rfl, rfl⟩
set_option maxHeartbeats 2000000 in
set_option maxRecDepth 100000 in
theorem of_some' {n : Nat} (hn : l.length = n) (h : RowAt 44 w p c (fls l)) (hl : mayN (n : Int) = true) : Calls Try.prog 13 #[.slice p n c] w fun e w' => ∃ b F, e = .returned (.tuple #[.pointer (some ⟨b, 0, none⟩), .int .i64 0]) ∧ Cel 54 w' b F (l.map fixB) ∧ Abv w.heap.size F ∧ Below w.heap.size w w' := by
  have h2 : n ≤ 256 := by unfold mayN at hl; simp at hl; omega
  have HC := Lib.hid (copied_any h (by omega))
  have HMB := Lib.hid (fun w => mayBe_any (n : Int) w)
  rw [hl] at HMB
  rw [hn] at HC
  have HL : Hid (∀ k, k < n → (upF k l).set k (fixB (l.getD k 0)) = upF (k + 1) l) := fun k hk => by
    have hk : k < l.length := by omega
    have := upF_set hk
    rwa [show l[k] = l.getD k 0 by simp [hk]] at this
  have HA : Hid (∀ k, k < n → ∀ h' : k < (upF k l).length, (upF k l)[k] = l.getD k 0) := fun k hk h' => by
    have hk : k < l.length := by omega
    have := upF_at hk h'
    simpa [hk, h'] using this
  have HE : Hid (upF n l = l.map fixB) := hn ▸ upF_all l
  have HZ : Hid (upF 0 l = l) := upF_zero l
  have HUL : Hid (∀ k, (upF k l).length = n) := fun k => hn ▸ upF_len k l
  clear hn h hl
  go_enter Try.func13, Try.ntmps13
  go_wp2_with (first
    | (go_at_call 24; refine (HMB.out _).mono ?_; rintro e w' ⟨rfl, hw⟩; subst w')
    | (go_at_call 29; refine HC.out.mono ?_; rintro e w1 ⟨rfl, hr, hbb⟩; have HR := Lib.hid (And.intro hr hbb); clear hr hbb))
  go_loopw [20] (fun vi wr => ∃ k : Nat, vi = .int .i64 k ∧ k ≤ n ∧ Hid (CelAt 54 wr w1.heap.size (some ⟨w.heap.size, 0, none⟩) n (upF k l)) ∧ Hid (Below w.heap.size w wr)) (fun vi _ => n - (intOf vi).toNat)
  case atStart =>
    have q := cel_about (T := 54) (w2 := w1.alloc (.cells #[.slice (some ⟨w.heap.size, 0, none⟩) n n] 54)) (B := w.heap.size) HR.out.1 (abv_new _) HR.out.2.size (by rw [← HZ.out, HUL.out]; exact h2) (by rw [← HZ.out, HUL.out])
    exact ⟨0, rfl, Nat.zero_le _, by rw [HZ.out]; exact q.1, HR.out.2.alloc HR.out.2.size _⟩
  case round =>
    obtain ⟨k, rfl, hk, HS, HB⟩ := hrel
    have q0 := HS.out.cell0
    rw [HUL.out] at q0
    have qb := HS.out.ltB
    by_cases hlt : k < n
    · have hlt' : (k : Int) < (n : Int) := by omega
      have hku : k < (upF k l).length := by rw [HUL.out]; exact hlt
      obtain ⟨g, hgg, hg, hx, hf⟩ := row_num HS.out.row k hku
      cases hgg
      rw [HA.out k hlt hku] at hx
      have HLK := Lib.hid (HL.out k hlt)
      generalize l.getD k 0 = y at hx HLK
      have HD : Hid (CelAt 54 (wr.setCell ⟨w.heap.size, k, none⟩ (.float .f64 (fixB y))) w1.heap.size (some ⟨w.heap.size, 0, none⟩) n (upF (k + 1) l) ∧ Below w.heap.size w (wr.setCell ⟨w.heap.size, k, none⟩ (.float .f64 (fixB y)))) := by
        have q := HS.out.lay k (fixB y)
        rw [HLK.out] at q
        exact ⟨q.1, turn_chain HB.out q.2 (fun j hj => by simp at hj; have := HR.out.2.size; omega)⟩
      clear hku HL HA
      go_wp2
      go_region_with (go_at_call 30; refine (fix_any _ _).mono ?_; rintro e w' ⟨rfl, hw⟩; subst w')
      all_goals (try go_wp2)
      all_goals exact ⟨⟨k + 1, by first | rfl | (congr 1), by omega, HD.out.1.same (Same.drew _), HD.out.2.trans ((Same.drew _).below _)⟩, by simp [intOf]; omega⟩
    · have hlt' : ¬ (k : Int) < (n : Int) := by omega
      have e : k = n := by omega
      subst e
      have h0 := HS.out
      rw [HE.out] at h0
      have HF := Lib.hid h0
      clear h0 q0
      go_wp2
      go_ret2
      exact ⟨_, rfl, _, HF.out.cel, fun j hj => by simp [fpR] at hj; have := HR.out.2.size; omega, HB.out⟩
theorem of_some (h : RowAt 44 w p c (fls l)) (hl : mayN (l.length : Int) = true) : Calls Try.prog 13 #[.slice p l.length c] w fun e w' => ∃ b F, e = .returned (.tuple #[.pointer (some ⟨b, 0, none⟩), .int .i64 0]) ∧ Cel 54 w' b F (l.map fixB) ∧ Abv w.heap.size F ∧ Below w.heap.size w w' := of_some' rfl h hl
end
end Go.Proofs.Ytahcppoeooadhaa
