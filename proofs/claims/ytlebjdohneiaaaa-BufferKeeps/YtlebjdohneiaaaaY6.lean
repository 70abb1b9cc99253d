import Derived.Test.YtlebjdohneiaaaaY5
namespace Go.Proofs.Ytlebjdohneiaaaa
open Go.ChangeShapes Go.WideShapes Go.ChangeAt Go.RowKit Num Go.Maps
attribute [local go_sem] run_store_float frombits_run bits_run

/-- the document's buffer -/
structure RefAt (w : World) (b : Nat) (p : Option Addr) (c : Nat) (m : Int) (l : Wr) : Prop where
  box : w.heap[b]? = some (.cells #[.slice p l.length c, .int .i64 m] 56 (0, 0))
  row : TRow w p c l
  ne : b ∉ fpR p
  fits : (l.length : Int) ≤ m
  most : m ≤ 32
def Ref (w : World) (b : Nat) (F : List Nat) (m : Int) (l : Wr) : Prop := ∃ p c, RefAt w b p c m l ∧ F = b :: fpR p
section
variable {w w' : World} {b c : Nat} {p : Option Addr} {m : Int} {l : Wr} {F : List Nat}
theorem RefAt.ltB (h : RefAt w b p c m l) : b < w.heap.size := lt_of_block h.box
theorem RefAt.cell0 (h : RefAt w b p c m l) : w.cell? ⟨b, 0, none⟩ = some (.slice p l.length c) := by rw [cell_of_row w b 0 _ _ _ h.box]; rfl
theorem RefAt.cell1 (h : RefAt w b p c m l) : w.cell? ⟨b, 1, none⟩ = some (.int .i64 m) := by rw [cell_of_row w b 1 _ _ _ h.box]; rfl
theorem RefAt.free (h : RefAt w b p c m l) (j : Nat) : w.frozen? ⟨b, j, none⟩ = false := frozen_of_row w b j _ _ h.box
theorem RefAt.blw (h : RefAt w b p c m l) : Blw w (b :: fpR p) := fun k hk => by
  rcases List.mem_cons.1 hk with rfl | q
  · exact h.ltB
  · exact h.row.blw k q
theorem RefAt.keep (h : RefAt w b p c m l) (k : Kept (b :: fpR p) w w') : RefAt w' b p c m l :=
  ⟨(k.2 b (by simp)).trans h.box, h.row.keep ⟨k.1, fun i hi => k.2 i (by simp [hi])⟩, h.ne, h.fits, h.most⟩
theorem RefAt.same (h : RefAt w b p c m l) (k : Same w w') : RefAt w' b p c m l := h.keep (k.kept _)
theorem RefAt.ref (h : RefAt w b p c m l) : Ref w b (b :: fpR p) m l := ⟨p, c, h, rfl⟩
theorem Ref.blw (h : Ref w b F m l) : Blw w F := by obtain ⟨p, c, hs, rfl⟩ := h; exact hs.blw
theorem Ref.keep (h : Ref w b F m l) (k : Kept F w w') : Ref w' b F m l := by
  obtain ⟨p, c, hs, rfl⟩ := h
  exact ⟨p, c, hs.keep k, rfl⟩
theorem Ref.same (h : Ref w b F m l) (k : Same w w') : Ref w' b F m l := h.keep (k.kept F)
theorem Ref.on (h : Ref w b F m l) (k : Below w.heap.size w w') : Ref w' b F m l := h.keep (kept_below k h.blw)
theorem Ref.turn {G G' : List Nat} (h : Ref w b F m l) (k : Turn G G' w w') (s : Sep F G) : Ref w' b F m l := h.keep (k.kept s h.blw)
theorem Ref.few (h : Ref w b F m l) : (l.length : Int) ≤ m ∧ m ≤ 32 := by obtain ⟨p, c, hs, rfl⟩ := h; exact ⟨hs.fits, hs.most⟩
/-- its list is another one: a store into its field -/
theorem RefAt.put {w2 : World} {p' : Option Addr} {c' : Nat} {l' : Wr} (h : RefAt w b p c m l) (hr : TRow w2 p' c' l') (g : w.grownBy w2 (Value.slice p l.length c).ownBlock) (ho : ∀ k, k ∈ fpR p' → k ∈ fpR p ∨ w.heap.size ≤ k) (hf : (l'.length : Int) ≤ m) :
    Ref (w2.setCell ⟨b, 0, none⟩ (.slice p' l'.length c')) b (b :: fpR p') m l' ∧ Turn (b :: fpR p) (b :: fpR p') w (w2.setCell ⟨b, 0, none⟩ (.slice p' l'.length c')) ∧ w2.cell? ⟨b, 0, none⟩ = some (.slice p l.length c) ∧ w2.frozen? ⟨b, 0, none⟩ = false ∧ b < w2.heap.size := by
  have hbox : w2.heap[b]? = some (.cells #[.slice p l.length c, .int .i64 m] 56 (0, 0)) := (g.block b h.ltB (fun q => h.ne (own_fpR.2 q.symm))).trans h.box
  have hne : b ∉ fpR p' := fun q => (ho b q).elim h.ne (fun z => absurd h.ltB (Nat.not_lt.2 z))
  refine ⟨⟨p', c', ⟨(heap_setCell_same w2 b 0 _ _ _ hbox).trans rfl, hr.keep ⟨by simp, fun k hk => heap_setCell_other _ _ _ _ (by rintro rfl; exact hne hk)⟩, hne, hf, h.most⟩, rfl⟩, ?_, by rw [cell_of_row w2 b 0 _ _ _ hbox]; rfl, frozen_of_row w2 b 0 _ _ hbox, lt_of_block hbox⟩
  refine ⟨g.os, g.tape, g.output, by simpa using g.size, fun k hk hn => ?_, fun k hk => ?_⟩
  · rw [List.mem_cons, not_or] at hn
    exact (heap_setCell_other _ _ _ _ (by simpa using hn.1)).trans (g.block k hk (fun q => hn.2 (own_fpR.2 q.symm)))
  · rcases List.mem_cons.1 hk with rfl | q
    · exact .inl (List.mem_cons_self ..)
    · exact (ho k q).imp (List.mem_cons_of_mem _) id
theorem flat_set (l : Wr) (y : Nat) : ∀ i (h : i < l.length), (l.flatMap tchC).set (i * 2 + 1) (.float .f64 y) = (l.set i (l[i].1, y)).flatMap tchC := by
  induction l with
  | nil => intro i h; exact absurd h (Nat.not_lt_zero i)
  | cons t l ih =>
    intro i h
    cases i with
    | zero => simp [tchC]
    | succ i =>
      have := ih i (by simpa using h)
      rw [List.flatMap_cons, List.set_cons_succ, List.flatMap_cons]
      have e : (i + 1) * 2 + 1 = (tchC t).length + (i * 2 + 1) := by simp [tchC]; omega
      rw [e, List.set_append_right _ _ (by omega), Nat.add_sub_cancel_left, this]
      simp
/-- a number is laid where its cell stands -/
theorem RefAt.lay {g : Nat} {d : Int} (h : RefAt w b (some ⟨g, 0, none⟩) c m l) (hd : idx l d < l.length) (y : Nat) : Ref (w.setCell ⟨g, idx l d * 2 + 1, none⟩ (.float .f64 y)) b [b, g] m (putC l d y) ∧ Turn [b, g] [b, g] w (w.setCell ⟨g, idx l d * 2 + 1, none⟩ (.float .f64 y)) := by
  have hne : b ≠ g := fun z => h.ne (by simp [fpR, z])
  obtain ⟨hs, hg⟩ := h.row.own.stored (idx l d * 2 + 1) (.float .f64 y)
  have e : putC l d y = l.set (idx l d) (l[idx l d].1, y) := by unfold putC hasC; rw [if_pos (by simpa using hd), idx_at hd]
  rw [flat_set l y _ hd, ← e] at hs
  have hl : (putC l d y).length = l.length := by rw [e, List.length_set]
  refine ⟨⟨some ⟨g, 0, none⟩, c, ⟨?_, ⟨by rw [hl]; exact hs⟩, h.ne, by rw [hl]; exact h.fits, h.most⟩, rfl⟩, (grown_turn hg).wide (by simp)⟩
  rw [heap_setCell_other _ _ _ _ hne, hl]
  exact h.box
/-- one more -/
theorem RefAt.more {w3 : World} {v : Value} {d : Int} {y : Nat} {o : Obj} (h : RefAt w b p c m l) (hown : w3.ownsRow 0 47 2 v (l.length + 1) (l.flatMap tchC ++ [.int .i64 d, .float .f64 y])) (hg : (w.alloc o).grownBy w3 (Value.slice p l.length c).ownBlock) (hat : v.ownBlock = (Value.slice p l.length c).ownBlock ∨ v.ownBlock = some (w.alloc o).heap.size) (hd : hasC l d = false) (hf : (l.length : Int) < m) :
    ∃ p' c', v = .slice p' (l.length + 1) c' ∧ Ref (w3.setCell ⟨b, 0, none⟩ (.slice p' (l.length + 1) c')) b (b :: fpR p') m (putC l d y) ∧ Turn (b :: fpR p) (b :: fpR p') w (w3.setCell ⟨b, 0, none⟩ (.slice p' (l.length + 1) c')) ∧ w3.cell? ⟨b, 0, none⟩ = some (.slice p l.length c) ∧ w3.frozen? ⟨b, 0, none⟩ = false ∧ b < w3.heap.size := by
  obtain ⟨p', c', rfl, _⟩ := owns_slice2 hown
  have e : putC l d y = l ++ [(d, y)] := by unfold putC; rw [hd]; rfl
  have hl : (putC l d y).length = l.length + 1 := by rw [e]; simp
  have hr : TRow w3 p' c' (putC l d y) := ⟨by rw [hl, e, List.flatMap_append]; simpa [tchC] using hown⟩
  have g : w.grownBy w3 (Value.slice p l.length c).ownBlock := (World.grownBy_alloc w o _).trans hg
  have := h.put hr g (own_at hat (by simp)) (by rw [hl]; omega)
  rw [hl] at this
  exact ⟨p', c', rfl, this⟩
end
theorem refNew_none {n : Int} (hn : mayM n = false) (w : World) : Calls Try.prog 10 #[.int .i64 n] w fun e w' => e = .returned (.tuple #[.pointer none, .int .i64 1]) ∧ w' = w := by
  unfold mayM at hn
  simp at hn
  by_cases h1 : n < 1
  · go_enter Try.func10, Try.ntmps10
    go_wp2
    go_ret2
    exact ⟨rfl, rfl⟩
  · have h2 : 32 < n := hn (by omega)
    clear hn
    go_enter Try.func10, Try.ntmps10
    go_wp2
    go_ret2
    exact ⟨rfl, rfl⟩
set_option maxRecDepth 100000 in
theorem refNew_some {n : Int} (hn : mayM n = true) (w : World) : Calls Try.prog 10 #[.int .i64 n] w fun e w' => ∃ b F, e = .returned (.tuple #[.pointer (some ⟨b, 0, none⟩), .int .i64 0]) ∧ Ref w' b F n [] ∧ Abv w.heap.size F ∧ Below w.heap.size w w' := by
  have h0 : 1 ≤ n ∧ n ≤ 32 := by unfold mayM at hn; simpa using hn
  have h1 : ¬ n < 1 := by omega
  have h2 : ¬ 32 < n := by omega
  have HN := Lib.hid h0
  clear hn h0
  go_enter Try.func10, Try.ntmps10
  go_wp2
  go_ret2
  exact ⟨w.heap.size, by simp, [w.heap.size], ⟨none, 0, ⟨heap_alloc_new _ _, ⟨World.ownsRow_nil _ _ _ _⟩, by simp [fpR], by have := HN.out; simp; omega, HN.out.2⟩, by simp [fpR]⟩, fun k hk => by simp at hk; omega, below_alloc _ _⟩
section
variable {w : World} {b : Nat} {F : List Nat} {m : Int} {l : Wr}
theorem refLen_any (h : Ref w b F m l) : Calls Try.prog 15 #[.pointer (some ⟨b, 0, none⟩)] w fun e w' => e = .returned (.int .i64 l.length) ∧ w' = w := by
  obtain ⟨p, c, hs, rfl⟩ := h
  have h0 := hs.cell0
  have hb := hs.ltB
  clear hs
  go_enter Try.func15, Try.ntmps15
  go_wp2
  go_ret
  exact ⟨rfl, rfl⟩
def placeV (l : Wr) (d : Int) : Int := if hasC l d then (idx l d : Int) else -1
set_option maxRecDepth 100000 in
theorem place_any (h : Ref w b F m l) (d : Int) {n : Nat} (hn : l.length = n) : Calls Try.prog 31 #[.pointer (some ⟨b, 0, none⟩), .int .i64 d] w fun e w' => e = .returned (.int .i64 (placeV l d)) ∧ w' = w := by
  have hn32 : n ≤ 32 := by have := h.few; omega
  obtain ⟨p, c, hs, rfl⟩ := h
  have h0 := hs.cell0
  rw [hn] at h0
  have hb := hs.ltB
  have HX : Hid (∀ k, k < n → ∃ g, p = some ⟨g, 0, none⟩ ∧ g < w.heap.size ∧ w.cell? ⟨g, k * 2, none⟩ = some (.int .i64 (l.getD k (0, 0)).1)) := fun k hk => by
    obtain ⟨g, r1, r2, r3, _⟩ := hs.row.at k (by omega)
    exact ⟨g, r1, r2, by rw [show l.getD k (0, 0) = l[k]'(by omega) by simp [show k < l.length by omega]]; exact r3⟩
  have HE : Hid (∀ k, k < n → k ≤ idx l d → (l.getD k (0, 0)).1 = d → placeV l d = (k : Int)) := fun k hk hle he => by
    have hk' : k < l.length := by omega
    have e1 : idx l d = k := by
      rcases Nat.lt_or_ge k (idx l d) with q | q
      · exact absurd (by simpa [hk'] using he) (idx_not q hk')
      · omega
    unfold placeV hasC
    rw [if_pos (by simp; omega), e1]
  have HG : Hid (∀ k, k < n → k ≤ idx l d → (l.getD k (0, 0)).1 ≠ d → k + 1 ≤ idx l d) := fun k hk hle he => by
    have hk' : k < l.length := by omega
    rcases Nat.lt_or_ge k (idx l d) with q | q
    · exact q
    · have e1 : idx l d = k := by omega
      have := idx_at (l := l) (c := d) (by omega)
      exact absurd (by simp only [e1] at this; simpa [hk'] using this) he
  have HL : Hid (n ≤ idx l d → placeV l d = -1) := fun hle => by
    unfold placeV hasC
    rw [if_neg (by simp; omega)]
  clear hs hn
  go_enter Try.func31, Try.ntmps31
  go_wp2
  go_loopw [5] (fun vi wr => ∃ k : Nat, vi = .int .i64 k ∧ k ≤ n ∧ k ≤ idx l d ∧ wr = w) (fun vi _ => n - (intOf vi).toNat)
  case atStart => exact ⟨0, rfl, Nat.zero_le _, Nat.zero_le _, rfl⟩
  case round =>
    obtain ⟨k, rfl, hk, hki, rfl⟩ := hrel
    by_cases hlt : k < n
    · have hlt' : (k : Int) < (n : Int) := by omega
      obtain ⟨g, hpg, hg, hx⟩ := HX.out k hlt
      subst hpg
      by_cases he : (l.getD k (0, 0)).1 = d
      · have HV := Lib.hid (HE.out k hlt hki he)
        rw [he] at hx
        clear HX HE HG HL he
        go_wp2
        go_ret
        exact ⟨by rw [HV.out]; rfl, rfl⟩
      · have HK := Lib.hid (HG.out k hlt hki he)
        generalize (l.getD k (0, 0)).1 = x at hx he
        clear HX HE HG HL
        go_wp2
        exact ⟨⟨k + 1, by first | rfl | (congr 1), by omega, HK.out, trivial⟩, by simp [intOf]; omega⟩
    · have hlt' : ¬ (k : Int) < (n : Int) := by omega
      have HV := Lib.hid (HL.out (by omega))
      clear HX HE HG HL
      go_wp2
      go_ret
      exact ⟨by rw [HV.out]; rfl, rfl⟩
theorem refGet_any (h : Ref w b F m l) (d : Int) : Calls Try.prog 26 #[.pointer (some ⟨b, 0, none⟩), .int .i64 d] w fun e w' => e = .returned (.tuple #[.float .f64 (getC l d), .bool (hasC l d)]) ∧ w' = w := by
  have HP := Lib.hid (place_any h d rfl)
  obtain ⟨p, c, hs, rfl⟩ := h
  have h0 := hs.cell0
  have hb := hs.ltB
  unfold placeV at HP
  cases hh : hasC l d
  · rw [hh] at HP
    have e : getC l d = 0 := by
      unfold getC
      have : ¬ idx l d < l.length := by simpa [hasC] using hh
      rw [List.getD_eq_getElem?_getD, List.getElem?_eq_none (by omega)]
      rfl
    rw [e]
    clear hs e
    go_enter Try.func26, Try.ntmps26
    go_wp2_with (go_at_call 31; refine HP.out.mono ?_; rintro e w' ⟨rfl, hw⟩; subst w')
    go_ret2
    exact ⟨rfl, rfl⟩
  · rw [hh] at HP
    have hi : idx l d < l.length := by simpa [hasC] using hh
    have e : getC l d = l[idx l d].2 := by unfold getC; simp [hi]
    obtain ⟨g, rfl, hg, _, hx, _⟩ := hs.row.at _ hi
    rw [← e] at hx
    have hi2 : (idx l d : Int) < (l.length : Int) := by omega
    have hi0 : ¬ (idx l d : Int) < 0 := by omega
    generalize getC l d = y at *
    clear e hs
    generalize idx l d = k at *
    go_enter Try.func26, Try.ntmps26
    go_wp2_with (go_at_call 31; refine HP.out.mono ?_; rintro e w' ⟨rfl, hw⟩; subst w'; try simp only [if_true])
    go_ret2
    exact ⟨rfl, rfl⟩
theorem refClear_any (h : Ref w b F m l) : Calls Try.prog 27 #[.pointer (some ⟨b, 0, none⟩)] w fun e w' => ∃ F', e = .returned (.tuple #[]) ∧ Ref w' b F' m [] ∧ Turn F F' w w' := by
  obtain ⟨p, c, hs, rfl⟩ := h
  have h0 := hs.cell0
  have hb := hs.ltB
  have hf := hs.free 0
  have hfit := hs.fits
  have HF := Lib.hid (hs.put (p' := none) (c' := 0) (l' := []) ⟨World.ownsRow_nil _ _ _ _⟩ ⟨rfl, rfl, rfl, Nat.le_refl _, fun _ _ _ => rfl⟩ (fun k hk => by simp [fpR] at hk) (by simp; omega))
  clear hs hfit
  go_enter Try.func27, Try.ntmps27
  go_wp2
  go_end0
  exact ⟨_, rfl, HF.out.1, HF.out.2.1⟩
end
end Go.Proofs.Ytlebjdohneiaaaa
