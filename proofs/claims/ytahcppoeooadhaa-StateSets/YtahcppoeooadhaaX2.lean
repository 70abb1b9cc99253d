import Derived.Test.YtahcppoeooadhaaX1
namespace Go.Proofs.Ytahcppoeooadhaa
open Go.ChangeShapes Go.WideShapes Go.ChangeAt Go.RowKit Num
attribute [local go_sem] run_store_float frombits_run bits_run

theorem fMake (n : Nat) (hn : n ≤ 256) (w : World) : (Instr.makeSlice 36 (.int .i64 (n : Int)) (.int .i64 (n : Int))).run Try.prog w = .ok (.slice (some ⟨w.heap.size, 0, none⟩) n n) (w.alloc (.cells (fls (List.replicate n 0)).toArray 44)) := by
  obtain ⟨i, hi, hz0, hz1, hz2⟩ := info_parts fInfo
  rw [run_make w 36 44 i (.float .f64 0) Try.underlying36 hi hz0 .i64 .i64 n n (by omega) (Int.le_refl _) (by rw [hz2]; omega) (by omega)]
  have e : (madeCells (.float .f64 0 : Value).cells (((n : Int)).toNat * i.size)) = (fls (List.replicate n 0)).toArray := by
    rw [hz1, Nat.mul_one, Int.toNat_natCast]
    apply Array.toList_inj.1
    rw [show (.float .f64 0 : Value).cells = #[.float .f64 0] from rfl, toList_madeCells_one]
    simp [fls]
  rw [e, Int.toNat_natCast]
theorem fCopy {w : World} {p : Option Addr} {c : Nat} {l : List Nat} (h : RowAt 44 w p c (fls l)) : ∃ W2, (∀ ty, (Builtin.copy_ #[36, 36] ty #[.slice (some ⟨w.heap.size, 0, none⟩) l.length l.length, .slice p l.length c]).run Try.prog (w.alloc (.cells (fls (List.replicate l.length 0)).toArray 44)) = .ok (goInt l.length) W2) ∧ RowAt 44 W2 (some ⟨w.heap.size, 0, none⟩) l.length (fls l) ∧ Below w.heap.size w W2 := by
  have ho := h.own
  rw [fls_len] at ho
  rcases ho.2 with ⟨hv, h0⟩ | ⟨g, cap, cur, hv, _, hg, hc, hm, hs, ht⟩
  · have hl : l = [] := List.eq_nil_of_length_eq_zero h0
    subst hl
    cases hv
    refine ⟨w.alloc (.cells (fls (List.replicate 0 0)).toArray 44), fun ty => ?_, ⟨?_⟩, (Below.refl _ _).alloc (Nat.le_refl _) _⟩
    · obtain ⟨i, hi, hz0, hz1, hz2⟩ := info_parts fInfo
      simp [Builtin.copy_, run_underlying Try.underlying36, Builtin.lenOf, Builtin.firstCells, sizeOf, typeInfo, hi, storeCells]
    · exact World.ownsRow_lit w _ 0 (Nat.zero_le _) (by unfold maxLen; omega) (by simp [fls])
  · cases hv
    have hr := fun ty => run_copy_row (P := Try.prog) (w.alloc (.cells (fls (List.replicate l.length 0)).toArray 44)) 36 36 ty 44 w.heap.size 0 l.length l.length ⟨g, 0, none⟩ l.length c (fls (List.replicate l.length 0)).toArray 44 (fls l) Try.underlying36 (by kernel_rfl) (heap_alloc_new _ _) (by rw [fls_len]; exact (Nat.min_self _).symm) (fun j v hj => by
      rw [World.ownsRow.cells (ho.alloc _) (g := g) rfl j v hj]) (by simp [fls_len]) (fun v hv => by
      unfold fls at hv
      obtain ⟨x, _, rfl⟩ := List.mem_map.1 hv
      rfl)
    have e : (List.take 0 (fls (List.replicate l.length 0)).toArray.toList ++ fls l ++ List.drop (0 + (fls l).length) (fls (List.replicate l.length 0)).toArray.toList) = fls l := by
      rw [List.drop_of_length_le (by simp [fls_len])]
      simp
    refine ⟨(w.alloc (.cells (fls (List.replicate l.length 0)).toArray 44)).setRow w.heap.size (fls l).toArray, fun ty => (hr ty).trans (by rw [e, fls_len]), ⟨?_⟩, ((Below.refl _ _).alloc (Nat.le_refl _) _).trans ⟨rfl, rfl, rfl, by simp, fun k hk => setRow_other _ _ _ _ (Nat.ne_of_lt hk)⟩⟩
    refine ⟨by simp, .inr ⟨w.heap.size, l.length, (fls l).toArray, by rw [fls_len], Nat.zero_le _, setRow_heap _ _ _ _ _ _ (heap_alloc_new _ _), by rw [fls_len]; exact Nat.le_refl _, by omega, by simp [fls_len], by simp⟩⟩
theorem abv_one {B b : Nat} (h : B ≤ b) : Abv B [b] := fun k hk => by simp at hk; omega
theorem abv_new (w : World) : Abv w.heap.size (fpR (some ⟨w.heap.size, 0, none⟩)) := fun k hk => by simp [fpR] at hk; omega
set_option maxRecDepth 100000 in
theorem copied_any {w : World} {p : Option Addr} {c : Nat} {l : List Nat} (h : RowAt 44 w p c (fls l)) (hn : l.length ≤ 256) : Calls Try.prog 29 #[.slice p l.length c] w fun e w' => e = .returned (.slice (some ⟨w.heap.size, 0, none⟩) l.length l.length) ∧ RowAt 44 w' (some ⟨w.heap.size, 0, none⟩) l.length (fls l) ∧ Below w.heap.size w w' := by
  have hmk := fMake l.length hn
  obtain ⟨W2, hcp, hr, hbl⟩ := fCopy h
  have HF := Lib.hid (And.intro hr hbl)
  clear hr hbl h
  go_enter Try.func29, Try.ntmps29
  go_wp2
  go_ret
  exact ⟨rfl, HF.out.1, HF.out.2⟩
theorem mayBe_any (n : Int) (w : World) : Calls Try.prog 24 #[.int .i64 n] w fun e w' => e = .returned (.bool (mayN n)) ∧ w' = w := by
  unfold mayN
  by_cases h1 : 1 ≤ n <;> by_cases h2 : n ≤ 256
  all_goals
    go_enter Try.func24, Try.ntmps24
    go_wp2
    go_ret
    exact ⟨by simp [h1, h2], rfl⟩
theorem new_none {n : Int} (hn : mayN n = false) (w : World) : Calls Try.prog 8 #[.int .i64 n] w fun e w' => e = .returned (.tuple #[.pointer none, .int .i64 1]) ∧ w' = w := by
  go_enter Try.func8, Try.ntmps8
  go_wp2_with (go_at_call 24; refine (mayBe_any _ _).mono ?_; rw [hn]; rintro e w' ⟨rfl, hw⟩; subst w')
  go_ret2
  exact ⟨rfl, rfl⟩
set_option maxRecDepth 100000 in
theorem new_some {n : Nat} (hn : mayN n = true) (w : World) : Calls Try.prog 8 #[.int .i64 n] w fun e w' => ∃ b F, e = .returned (.tuple #[.pointer (some ⟨b, 0, none⟩), .int .i64 0]) ∧ Cel 54 w' b F (List.replicate n 0) ∧ Abv w.heap.size F ∧ Below w.heap.size w w' := by
  have h2 : n ≤ 256 := by unfold mayN at hn; simp at hn; omega
  have hmk := fMake n h2
  have HN := Lib.hid h2
  clear h2
  go_enter Try.func8, Try.ntmps8
  go_wp2_with (go_at_call 24; refine (mayBe_any _ _).mono ?_; rw [hn]; rintro e w' ⟨rfl, hw⟩; subst w')
  go_ret2
  have hr : RowAt 44 (w.alloc (.cells (fls (List.replicate n 0)).toArray 44)) (some ⟨w.heap.size, 0, none⟩) n (fls (List.replicate n 0)) := ⟨⟨by simp, .inr ⟨w.heap.size, n, (fls (List.replicate n 0)).toArray, by rw [fls_len, List.length_replicate], Nat.zero_le _, heap_alloc_new _ _, by rw [fls_len, List.length_replicate]; exact Nat.le_refl _, by unfold maxLen; have := HN.out; omega, by simp [fls_len], by simp⟩⟩⟩
  have q := cel_about (T := 54) (w2 := (w.alloc (.cells (fls (List.replicate n 0)).toArray 44)).alloc (.cells #[.slice (some ⟨w.heap.size, 0, none⟩) n n] 54)) (B := w.heap.size) hr (abv_new _) (by simp) (by rw [List.length_replicate]; exact HN.out) (by rw [List.length_replicate])
  exact ⟨_, _, by simp, q.1.cel, q.2, ((Below.refl _ _).alloc (Nat.le_refl _) _).alloc (by simp) _⟩
section
variable {w : World} {b : Nat} {F : List Nat} {l : List Nat}
theorem has_any (h : Cel 54 w b F l) (i : Int) : Calls Try.prog 34 #[.pointer (some ⟨b, 0, none⟩), .int .i64 i] w fun e w' => e = .returned (.bool (hasN l.length i)) ∧ w' = w := by
  obtain ⟨p, c, hs, rfl⟩ := h
  have h0 := hs.cell0
  have hb := hs.ltB
  clear hs
  unfold hasN
  by_cases h1 : 0 ≤ i <;> by_cases h2 : i < (l.length : Int)
  all_goals
    go_enter Try.func34, Try.ntmps34
    go_wp2
    go_ret
    exact ⟨by simp [h1, h2], rfl⟩
theorem len_any (h : Cel 54 w b F l) : Calls Try.prog 9 #[.pointer (some ⟨b, 0, none⟩)] w fun e w' => e = .returned (.int .i64 l.length) ∧ w' = w := by
  obtain ⟨p, c, hs, rfl⟩ := h
  have h0 := hs.cell0
  have hb := hs.ltB
  clear hs
  go_enter Try.func9, Try.ntmps9
  go_wp2
  go_ret
  exact ⟨rfl, rfl⟩
theorem all_any (h : Cel 54 w b F l) : Calls Try.prog 16 #[.pointer (some ⟨b, 0, none⟩)] w fun e w' => e = .returned (.slice (some ⟨w.heap.size, 0, none⟩) l.length l.length) ∧ RowAt 44 w' (some ⟨w.heap.size, 0, none⟩) l.length (fls l) ∧ Below w.heap.size w w' := by
  obtain ⟨p, c, hs, rfl⟩ := h
  have h0 := hs.cell0
  have hb := hs.ltB
  have HC := Lib.hid (copied_any hs.row hs.many)
  clear hs
  go_enter Try.func16, Try.ntmps16
  go_wp2_with (go_at_call 29; refine HC.out.mono ?_; rintro e w1 ⟨rfl, hr, hbb⟩; have HR := Lib.hid (And.intro hr hbb); clear hr hbb)
  go_ret
  exact ⟨rfl, HR.out.1, HR.out.2⟩
set_option maxRecDepth 100000 in
theorem clone_any (h : Cel 54 w b F l) : Calls Try.prog 25 #[.pointer (some ⟨b, 0, none⟩)] w fun e w' => ∃ nb F', e = .returned (.pointer (some ⟨nb, 0, none⟩)) ∧ Cel 54 w' nb F' l ∧ Abv w.heap.size F' ∧ Below w.heap.size w w' := by
  have HA := Lib.hid (all_any h)
  have HN := Lib.hid h.many
  clear h
  go_enter Try.func25, Try.ntmps25
  go_wp2_with (go_at_call 16; refine HA.out.mono ?_; rintro e w1 ⟨rfl, hr, hbb⟩; have HR := Lib.hid (And.intro hr hbb); clear hr hbb)
  go_ret
  have q := cel_about (T := 54) (w2 := w1.alloc (.cells #[.slice (some ⟨w.heap.size, 0, none⟩) l.length l.length] 54)) (B := w.heap.size) HR.out.1 (abv_new _) HR.out.2.size HN.out rfl
  exact ⟨_, _, rfl, q.1.cel, q.2, HR.out.2.alloc HR.out.2.size _⟩
theorem get_any (h : Cel 54 w b F l) (i : Int) : Calls Try.prog 20 #[.pointer (some ⟨b, 0, none⟩), .int .i64 i] w fun e w' => e = .returned (.tuple #[.float .f64 (getV l i), .int .i64 (cellE l.length i)]) ∧ w' = w := by
  have HH := Lib.hid (has_any h i)
  obtain ⟨p, c, hs, rfl⟩ := h
  have h0 := hs.cell0
  have hb := hs.ltB
  unfold getV cellE
  cases hh : hasN l.length i
  · rw [hh] at HH
    clear hs
    go_enter Try.func20, Try.ntmps20
    go_wp2_with (go_at_call 34; refine HH.out.mono ?_; rintro e w' ⟨rfl, hw⟩; subst w')
    go_ret2
    exact ⟨rfl, rfl⟩
  · rw [hh] at HH
    obtain ⟨k, rfl, hk⟩ := hasN_pos hh
    obtain ⟨g, rfl, hg, hx, _⟩ := row_num hs.row k hk
    have hk2 : (k : Int) < (l.length : Int) := by omega
    have hv : l.getD (k : Int).toNat 0 = l[k] := by simp [hk]
    rw [hv]
    generalize l[k] = x at *
    clear hv hs
    go_enter Try.func20, Try.ntmps20
    go_wp2_with (go_at_call 34; refine HH.out.mono ?_; rintro e w' ⟨rfl, hw⟩; subst w')
    go_ret2
    exact ⟨rfl, rfl⟩
set_option maxRecDepth 100000 in
theorem set_any (h : Cel 54 w b F l) (i : Int) (x : Nat) : Calls Try.prog 18 #[.pointer (some ⟨b, 0, none⟩), .int .i64 i, .float .f64 x] w fun e w' => e = .returned (.int .i64 (cellE l.length i)) ∧ Cel 54 w' b F (setL l i x) ∧ Turn F F w w' := by
  have HH := Lib.hid (has_any h i)
  have HC := Lib.hid h
  obtain ⟨p, c, hs, rfl⟩ := h
  have h0 := hs.cell0
  have hb := hs.ltB
  unfold setL cellE
  cases hh : hasN l.length i
  · rw [hh] at HH
    clear hs
    go_enter Try.func18, Try.ntmps18
    go_wp2_with (go_at_call 34; refine HH.out.mono ?_; rintro e w' ⟨rfl, hw⟩; subst w')
    go_ret
    exact ⟨rfl, HC.out, Turn.refl _ _⟩
  · rw [hh] at HH
    obtain ⟨k, rfl, hk⟩ := hasN_pos hh
    obtain ⟨g, rfl, hg, hx, hf⟩ := row_num hs.row k hk
    have hk2 : (k : Int) < (l.length : Int) := by omega
    have HS : Hid (∀ w1, Same w w1 → CelAt 54 (w1.setCell ⟨g, k, none⟩ (.float .f64 (fixB x))) b (some ⟨g, 0, none⟩) c (l.set k (fixB x)) ∧ Turn [b, g] [b, g] w (w1.setCell ⟨g, k, none⟩ (.float .f64 (fixB x)))) := fun w1 k1 => by
      have q := (hs.same k1).lay k (fixB x)
      exact ⟨q.1, (k1.turn _).trans q.2⟩
    generalize l[k] = y at *
    clear hs HC
    go_enter Try.func18, Try.ntmps18
    go_wp2_with (go_at_call 34; refine HH.out.mono ?_; rintro e w' ⟨rfl, hw⟩; subst w')
    go_region_with (go_at_call 30; refine (fix_any _ _).mono ?_; rintro e w' ⟨rfl, hw⟩; subst w')
    all_goals (try go_wp2)
    all_goals go_ret
    all_goals exact ⟨rfl, (HS.out _ (Same.refl _)).1.cel.same (Same.drew _), (HS.out _ (Same.refl _)).2.trans ((Same.drew _).turn _)⟩
end
end Go.Proofs.Ytahcppoeooadhaa
