import Derived.Test.YtahcppoeooadhaaX6
namespace Go.Proofs.Ytahcppoeooadhaa
open Go.ChangeShapes Go.WideShapes Go.ChangeAt Go.RowKit Num
attribute [local go_sem] run_store_float frombits_run bits_run

section
variable {w : World} {p : Option Addr} {c : Nat} {l : List Nat}
theorem refOf_none (hl : mayN (l.length : Int) = false) (w : World) : Calls Try.prog 15 #[.slice p l.length c] w fun e w' => e = .returned (.tuple #[.pointer none, .int .i64 1]) ∧ w' = w := by
  unfold mayN at hl
  simp at hl
  by_cases h1 : (l.length : Int) < 1
  · go_enter Try.func15, Try.ntmps15
    go_wp2
    go_ret2
    exact ⟨rfl, rfl⟩
  · have h2 : 256 < (l.length : Int) := by omega
    clear hl
    go_enter Try.func15, Try.ntmps15
    go_wp2
    go_ret2
    exact ⟨rfl, rfl⟩
set_option maxHeartbeats 2000000 in
set_option maxRecDepth 100000 in
theorem refOf_some' {n : Nat} (hn : l.length = n) (h : RowAt 44 w p c (fls l)) (hl : mayN (n : Int) = true) : Calls Try.prog 15 #[.slice p n c] w fun e w' => ∃ b F, e = .returned (.tuple #[.pointer (some ⟨b, 0, none⟩), .int .i64 0]) ∧ Cel 56 w' b F (l.map fixB) ∧ Abv w.heap.size F ∧ Below w.heap.size w w' := by
  have h2 : n ≤ 256 := by unfold mayN at hl; simp at hl; omega
  have h1 : ¬ (n : Int) < 1 := by unfold mayN at hl; simp at hl; omega
  have h3 : ¬ 256 < (n : Int) := by omega
  obtain ⟨i0, hi, hz0, hz1, hz2⟩ := info_parts fInfo
  have HZI := Lib.hid (And.intro hi (And.intro hz0 (And.intro hz1 hz2)))
  have HX : Hid (∀ wr, Below w.heap.size w wr → ∀ k, k < n → ∃ g, p = some ⟨g, 0, none⟩ ∧ g < wr.heap.size ∧ wr.cell? ⟨g, k, none⟩ = some (.float .f64 (l.getD k 0))) := fun wr hb k hk => by
    obtain ⟨g, q1, q2, q3, _⟩ := row_getD (h.on hb) k (by omega)
    exact ⟨g, q1, q2, q3⟩
  have HT : Hid (∀ k, k < n → (l.take (k + 1)).map fixB = (l.take k).map fixB ++ [fixB (l.getD k 0)]) := fun k hk => take_map fixB l k (by omega)
  have HE : Hid ((l.take n).map fixB = l.map fixB) := by show _ = _; rw [← hn, List.take_length]
  have HL : Hid (∀ k, k ≤ n → ((l.take k).map fixB).length = k) := fun k hk => by simp; omega
  have H0 : Hid (CelAt 56 (w.alloc (.cells #[.slice none 0 0] 56)) w.heap.size none 0 []) := ⟨heap_alloc_new _ _, ⟨World.ownsRow_nil _ _ _ _⟩, by simp [fpR], by simp⟩
  clear hi hz0 hz1 hz2 h hl hn
  go_enter Try.func15, Try.ntmps15
  go_wp2
  go_loopw [5] (fun vi wr => ∃ (k : Nat) (q : Option Addr) (d : Nat), vi = .int .i64 k ∧ k ≤ n ∧ Hid (CelAt 56 wr w.heap.size q d ((l.take k).map fixB)) ∧ Hid (Abv w.heap.size (fpR q)) ∧ Hid (Below w.heap.size w wr)) (fun vi _ => n - (intOf vi).toNat)
  case atStart => exact ⟨0, none, 0, rfl, Nat.zero_le _, H0, fun k hk => by simp [fpR] at hk, below_alloc _ _⟩
  case round =>
    obtain ⟨k, q, d, rfl, hk, HS, HA, HB⟩ := hrel
    by_cases hlt : k < n
    · have hlt' : (k : Int) < (n : Int) := by omega
      have q0 := HS.out.cell0
      rw [HL.out k hk] at q0
      have qb := HS.out.ltB
      have qf := HS.out.free 0
      obtain ⟨g, hpg, hg, hx⟩ := HX.out _ HB.out k hlt
      subst hpg
      have HTK := Lib.hid (HT.out k hlt)
      generalize l.getD k 0 = y at hx HTK
      have HLK := Lib.hid (HL.out k hk)
      have HO : Hid (wr.ownsRow 0 44 1 (.slice q k d) k (fls ((l.take k).map fixB))) := by
        have := HS.out.row.own
        rw [fls_len, HL.out k hk] at this
        exact this
      have HMORE : Hid (∀ o w3 v, w3.ownsRow 0 44 1 v (k + 1) (fls ((l.take k).map fixB) ++ [.float .f64 (fixB y)]) → (wr.alloc o).grownBy w3 (Value.slice q k d).ownBlock → (v.ownBlock = (Value.slice q k d).ownBlock ∨ v.ownBlock = some (wr.alloc o).heap.size) → ∃ p' c', v = .slice p' (k + 1) c' ∧ CelAt 56 (w3.setCell ⟨w.heap.size, 0, none⟩ (.slice p' (k + 1) c')) w.heap.size p' c' ((l.take (k + 1)).map fixB) ∧ Abv w.heap.size (fpR p') ∧ Below w.heap.size w (w3.setCell ⟨w.heap.size, 0, none⟩ (.slice p' (k + 1) c')) ∧ w3.cell? ⟨w.heap.size, 0, none⟩ = some (.slice q k d) ∧ w3.frozen? ⟨w.heap.size, 0, none⟩ = false ∧ w.heap.size < w3.heap.size) := by
        intro o w3 v ho hg hat
        have e := HLK.out
        have m := HS.out.more (w3 := w3) (v := v) (o := o) (x := fixB y) (by rw [e]; exact ho) (by rw [e]; exact hg) (by rw [e]; exact hat) (by rw [e]; omega)
        rw [e] at m
        obtain ⟨p', c', m1, m2, m3, m4, m5, m6⟩ := m
        have ha : Abv w.heap.size (w.heap.size :: fpR q) := fun j hj => by
          rcases List.mem_cons.1 hj with rfl | z
          · exact Nat.le_refl _
          · exact HA.out j z
        exact ⟨p', c', m1, by rw [HTK.out]; exact m2, fun j hj => (ha.turn HB.out.size m3) j (List.mem_cons_of_mem _ hj), turn_chain HB.out m3 ha, m4, m5, m6⟩
      clear HX HT HL
      go_wp2_with (first
        | (go_at_call 31; refine (refFix_any _ _).mono ?_; rintro e w' ⟨rfl, hw⟩; subst w')
        | (at_builtin; refine wpList_append_own_at _ rfl _ _ 36 rfl 0 44 i0 (.float .f64 0) 1 8 Try.underlying36 HZI.out.1 HZI.out.2.1 HZI.out.2.2.1 HZI.out.2.2.2 rfl (by decide) _ k (fls ((l.take k).map fixB)) rfl (World.ownsRow.alloc HO.out _) ⟨wr.heap.size, 0, none⟩ 1 1 [.float .f64 (fixB y)] rfl rfl (cell_one_new _ _ _) (fun u hu => by simp at hu; subst hu; rfl) (by unfold maxLen; omega) (by omega) (Nat.zero_le _) ?_; intro v3 w3 hown3 hgrow3 hnil3 hat3; obtain ⟨p', c', hv3, q1, q2, q3, q4, q5, q6⟩ := HMORE.out _ _ _ hown3 hgrow3 hat3; subst hv3; have HQ := Lib.hid (And.intro q1 (And.intro q2 q3)); clear hown3 hgrow3 hnil3 hat3 q1 q2 q3 HMORE))
      exact ⟨⟨k + 1, p', c', by first | rfl | (congr 1), by omega, HQ.out.1, HQ.out.2.1, HQ.out.2.2⟩, by simp [intOf]; omega⟩
    · have hlt' : ¬ (k : Int) < (n : Int) := by omega
      have e : k = n := by omega
      subst e
      have h0 := HS.out
      rw [HE.out] at h0
      have HF := Lib.hid h0
      clear h0 HX HT HL
      go_wp2
      go_ret2
      exact ⟨_, rfl, _, HF.out.cel, fun j hj => by
        rcases List.mem_cons.1 hj with rfl | z
        · exact Nat.le_refl _
        · exact HA.out j z, HB.out⟩
theorem refOf_some (h : RowAt 44 w p c (fls l)) (hl : mayN (l.length : Int) = true) : Calls Try.prog 15 #[.slice p l.length c] w fun e w' => ∃ b F, e = .returned (.tuple #[.pointer (some ⟨b, 0, none⟩), .int .i64 0]) ∧ Cel 56 w' b F (l.map fixB) ∧ Abv w.heap.size F ∧ Below w.heap.size w w' := refOf_some' rfl h hl
end
section
variable {w : World} {b n : Nat} {F : List Nat} {l : List Nat}
theorem take_fls (l : List Nat) (k : Nat) (h : k < l.length) : fls (l.take (k + 1)) = fls (l.take k) ++ [.float .f64 (l.getD k 0)] := by
  rw [List.take_succ_eq_append_getElem h, fls_snoc, show l.getD k 0 = l[k] by simp [h]]
set_option maxHeartbeats 2000000 in
set_option maxRecDepth 100000 in
theorem refAll_any' (hn : l.length = n) (h : Cel 56 w b F l) : Calls Try.prog 23 #[.pointer (some ⟨b, 0, none⟩)] w fun e w' => ∃ p c, e = .returned (.slice p n c) ∧ RowAt 44 w' p c (fls l) ∧ Abv w.heap.size (fpR p) ∧ Below w.heap.size w w' := by
  obtain ⟨pp, cc, hs, rfl⟩ := h
  have hb := hs.ltB
  have hm : n ≤ 256 := by rw [← hn]; exact hs.many
  have HBX : Hid (∀ wr, Below w.heap.size w wr → wr.cell? ⟨b, 0, none⟩ = some (.slice pp n cc)) := fun wr k => by
    rw [k.cell (p := ⟨b, 0, none⟩) hb, hs.cell0, hn]
  have HX : Hid (∀ wr, Below w.heap.size w wr → ∀ k, k < n → ∃ g, pp = some ⟨g, 0, none⟩ ∧ g < wr.heap.size ∧ wr.cell? ⟨g, k, none⟩ = some (.float .f64 (l.getD k 0))) := fun wr hb k hk => by
    obtain ⟨g, q1, q2, q3, _⟩ := row_getD (hs.row.on hb) k (by omega)
    exact ⟨g, q1, q2, q3⟩
  have HT : Hid (∀ k, k < n → fls (l.take (k + 1)) = fls (l.take k) ++ [.float .f64 (l.getD k 0)]) := fun k hk => take_fls l k (by omega)
  have HE : Hid (fls (l.take n) = fls l) := by show _ = _; rw [← hn, List.take_length]
  have HLN : Hid (l.length = n) := hn
  obtain ⟨i0, hi, hz0, hz1, hz2⟩ := info_parts fInfo
  have HZI := Lib.hid (And.intro hi (And.intro hz0 (And.intro hz1 hz2)))
  clear hi hz0 hz1 hz2 hs hn
  go_enter Try.func23, Try.ntmps23
  go_wp2
  go_loopw [3, 4] (fun v vi wr => ∃ k : Nat, vi = .int .i64 k ∧ k ≤ n ∧ Hid (wr.ownsRow w.heap.size 44 1 v k (fls (l.take k))) ∧ Hid (Below w.heap.size w wr)) (fun _ vi _ => n - (intOf vi).toNat)
  case atStart => exact ⟨0, rfl, Nat.zero_le _, World.ownsRow_nil _ _ _ _, Below.refl _ _⟩
  case round =>
    obtain ⟨k, rfl, hk, HO, HB⟩ := hrel
    have q0 := HBX.out _ HB.out
    have qb : b < wr.heap.size := Nat.lt_of_lt_of_le hb HB.out.size
    by_cases hlt : k < n
    · have hlt' : (k : Int) < (n : Int) := by omega
      obtain ⟨g, hpg, hg, hx⟩ := HX.out _ HB.out k hlt
      subst hpg
      have HTK := Lib.hid (HT.out k hlt)
      generalize l.getD k 0 = y at hx HTK
      have HS : Hid (w.heap.size ≤ wr.heap.size) := HB.out.size
      clear HX HT HBX
      go_wp2_with (at_builtin; refine wpList_append_own _ rfl _ _ 36 rfl w.heap.size 44 i0 (.float .f64 0) 1 8 Try.underlying36 HZI.out.1 HZI.out.2.1 HZI.out.2.2.1 HZI.out.2.2.2 rfl (by decide) _ k _ rfl (World.ownsRow.alloc HO.out _) ⟨wr.heap.size, 0, none⟩ 1 1 [.float .f64 y] rfl rfl (cell_one_new _ _ _) (fun u hu => by simp at hu; subst hu; rfl) (by unfold maxLen; omega) (by omega) (by have := HS.out; simp; omega) ?_; intro v3 w3 hown3 hgrow3 hnil3; replace hown3 := Lib.hid hown3; replace hgrow3 := Lib.hid hgrow3; clear hnil3)
      have HF : Hid (w3.ownsRow w.heap.size 44 1 v3 (k + 1) (fls (l.take (k + 1)))) := by
        show w3.ownsRow _ _ _ _ _ _
        rw [HTK.out]
        exact hown3.out
      have HG : Hid (Below w.heap.size w w3) := (HB.out.alloc HB.out.size _).grown hgrow3.out (Nat.le_trans HS.out (by simp)) (fun j hj => (World.ownsRow.lt HO.out j hj).1)
      exact ⟨⟨k + 1, by first | rfl | (congr 1), by omega, HF, HG⟩, by simp [intOf]; omega⟩
    · have hlt' : ¬ (k : Int) < (n : Int) := by omega
      have e : k = n := by omega
      subst e
      have h0 := HO.out
      rw [HE.out] at h0
      obtain ⟨p, c, hv, hr, ha⟩ := ownsRow_based h0
      rw [fls_len, HLN.out] at hv
      subst hv
      have HF := Lib.hid (And.intro hr ha)
      clear h0 HO hlt hr ha HX HT HBX
      go_wp2
      go_ret
      exact ⟨p, c, rfl, HF.out.1, HF.out.2, HB.out⟩
theorem refAll_any (h : Cel 56 w b F l) : Calls Try.prog 23 #[.pointer (some ⟨b, 0, none⟩)] w fun e w' => ∃ p c, e = .returned (.slice p l.length c) ∧ RowAt 44 w' p c (fls l) ∧ Abv w.heap.size (fpR p) ∧ Below w.heap.size w w' := refAll_any' rfl h
end
end Go.Proofs.Ytahcppoeooadhaa
