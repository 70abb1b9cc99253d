import Derived.Test.YtaliehikdidiaaaGreatDoorK3
import Derived.Test.YtaliehikdidiaaaGreatDoorK9
import Derived.Test.YtaliehikdidiaaaGreatDoorM9
import Derived.Deep.RegionHeld
namespace Go.Proofs.YtaliehikdidiaaaGreatDoor
open Go.ChangeShapes Go.WideShapes Go.ChangeAt Go.RowKit Num
attribute [local go_sem] run_store_float

theorem insInfo : (Tryz.prog.info? 90).map (fun i => (i.zero, i.size, i.bytes)) = some (some (.agg #[.int .i64 0, .int .i64 0, .float .f64 0]), 3, 24) := by kernel_rfl
theorem cloneF_nil (w : World) : Calls Tryz.prog 129 #[.slice none 0 0] w fun e w' => e = .returned (.slice none 0 0) ∧ w' = w := by
  have hq := fun w => Lib.run_eql_slice_nil (P := Tryz.prog) w 44 74 none 0 0 0 0 Tryz.underlying44
  go_enter Tryz.func129, Tryz.ntmps129
  go_wp2
  go_ret
  exact ⟨rfl, rfl⟩
set_option maxRecDepth 100000 in
theorem cloneF_some {w : World} {g o c n : Nat} {sp : Option Nat} {xs : List Value} (hn : xs.length = n * 1) (hx : ∀ j u, xs[j]? = some u → w.cell? ((⟨g, o, sp⟩ : Addr).add j) = some u) (h1 : ∀ u ∈ xs, u.oneCell' = true) (hz : n ≤ 1024) : Calls Tryz.prog 129 #[.slice (some ⟨g, o, sp⟩) n c] w fun e w' => ∃ p' c', e = .returned (.slice p' n c') ∧ w'.ownsRow w.heap.size 74 1 (.slice p' n c') n xs ∧ Below w.heap.size w w' := by
  have hq := fun w c => Lib.run_eql_slice_nil (P := Tryz.prog) w 44 74 (some ⟨g, o, sp⟩) n c 0 0 Tryz.underlying44
  have HX : Hid (∀ j u, xs[j]? = some u → (w.alloc (.cells #[] 74)).cell? ((⟨g, o, sp⟩ : Addr).add j) = some u) := fun j u hj => ((below_alloc w _).cell (World.block_lt_of_cell? w _ (hx j u hj))).trans (hx j u hj)
  have H1 := Lib.hid (And.intro h1 (And.intro hn hz))
  have HO : Hid ((w.alloc (.cells #[] 74)).ownsRow w.heap.size 74 1 (.slice (some ⟨w.heap.size, 0, none⟩) 0 0) 0 []) := ⟨rfl, .inr ⟨w.heap.size, 0, #[], rfl, Nat.le_refl _, heap_alloc_new _ _, Nat.le_refl _, Nat.zero_le _, by simp, by simp⟩⟩
  obtain ⟨i0, hi, hz0, hz1, hz2⟩ := info_parts fInfo
  have HZI := Lib.hid (And.intro hi (And.intro hz0 (And.intro hz1 hz2)))
  clear hi hz0 hz1 hz2 hx h1 hz hn
  go_enter Tryz.func129, Tryz.ntmps129
  go_wp2_with (at_builtin; refine wpList_append_own_at _ rfl _ _ 44 rfl w.heap.size 74 i0 (.float .f64 0) 1 8 Tryz.underlying44 HZI.out.1 HZI.out.2.1 HZI.out.2.2.1 HZI.out.2.2.2 rfl (by decide) _ 0 [] rfl HO.out ⟨g, o, sp⟩ n _ xs rfl H1.out.2.1 HX.out H1.out.1 (by have := H1.out.2.2; unfold maxLen; omega) (by have := H1.out.2.2; omega) (by simp) ?_; intro v w3 hown hgrow hnil hloc; have HS := Lib.hid (And.intro hown hgrow); clear hown hgrow hnil hloc)
  have ho3 := HS.out.1
  rw [List.nil_append, Nat.zero_add] at ho3
  obtain ⟨p', c', hv, ha⟩ := owns_slice2 ho3
  subst hv
  have hb3 : Below w.heap.size w w3 := (below_alloc w _).grown HS.out.2 (by simp) (fun j hj => by
    have := hj
    simp [Act.eval, Value.ownBlock] at this
    omega)
  have HF := Lib.hid (And.intro ho3 hb3)
  clear ho3 ha hb3 HS H1
  go_wp2
  go_ret
  exact ⟨_, _, rfl, HF.out.1, HF.out.2⟩
theorem cloneT_nil (w : World) : Calls Tryz.prog 130 #[.slice none 0 0] w fun e w' => e = .returned (.slice none 0 0) ∧ w' = w := by
  have hq := fun w => Lib.run_eql_slice_nil (P := Tryz.prog) w 60 123 none 0 0 0 0 Tryz.underlying60
  go_enter Tryz.func130, Tryz.ntmps130
  go_wp2
  go_ret
  exact ⟨rfl, rfl⟩
set_option maxRecDepth 100000 in
theorem cloneT_some {w : World} {g o c n : Nat} {xs : List Value} (hn : xs.length = n * 2) (hx : ∀ j u, xs[j]? = some u → w.cell? ((⟨g, o, none⟩ : Addr).add j) = some u) (h1 : ∀ u ∈ xs, u.oneCell' = true) (hz : n ≤ 1024) : Calls Tryz.prog 130 #[.slice (some ⟨g, o, none⟩) n c] w fun e w' => ∃ p' c', e = .returned (.slice p' n c') ∧ w'.ownsRow w.heap.size 123 2 (.slice p' n c') n xs ∧ Below w.heap.size w w' := by
  have hq := fun w c => Lib.run_eql_slice_nil (P := Tryz.prog) w 60 123 (some ⟨g, o, none⟩) n c 0 0 Tryz.underlying60
  have HX : Hid (∀ j u, xs[j]? = some u → (w.alloc (.cells #[] 123)).cell? ((⟨g, o, none⟩ : Addr).add j) = some u) := fun j u hj => ((below_alloc w _).cell (World.block_lt_of_cell? w _ (hx j u hj))).trans (hx j u hj)
  have H1 := Lib.hid (And.intro h1 (And.intro hn hz))
  have HO : Hid ((w.alloc (.cells #[] 123)).ownsRow w.heap.size 123 2 (.slice (some ⟨w.heap.size, 0, none⟩) 0 0) 0 []) := ⟨rfl, .inr ⟨w.heap.size, 0, #[], rfl, Nat.le_refl _, heap_alloc_new _ _, Nat.le_refl _, Nat.zero_le _, by simp, by simp⟩⟩
  obtain ⟨i0, hi, hz0, hz1, hz2⟩ := info_parts tInfo
  have HZI := Lib.hid (And.intro hi (And.intro hz0 (And.intro hz1 hz2)))
  clear hi hz0 hz1 hz2 hx h1 hz hn
  go_enter Tryz.func130, Tryz.ntmps130
  go_wp2_with (at_builtin; refine wpList_append_own_at _ rfl _ _ 60 rfl w.heap.size 123 i0 _ 2 16 Tryz.underlying60 HZI.out.1 HZI.out.2.1 HZI.out.2.2.1 HZI.out.2.2.2 rfl (by decide) _ 0 [] rfl HO.out ⟨g, o, none⟩ n _ xs rfl H1.out.2.1 HX.out H1.out.1 (by have := H1.out.2.2; unfold maxLen; omega) (by have := H1.out.2.2; omega) (by simp) ?_; intro v w3 hown hgrow hnil hloc; have HS := Lib.hid (And.intro hown hgrow); clear hown hgrow hnil hloc)
  have ho3 := HS.out.1
  rw [List.nil_append, Nat.zero_add] at ho3
  obtain ⟨p', c', hv, ha⟩ := owns_slice2 ho3
  subst hv
  have hb3 : Below w.heap.size w w3 := (below_alloc w _).grown HS.out.2 (by simp) (fun j hj => by
    have := hj
    simp [Act.eval, Value.ownBlock] at this
    omega)
  have HF := Lib.hid (And.intro ho3 hb3)
  clear ho3 ha hb3 HS H1
  go_wp2
  go_ret
  exact ⟨_, _, rfl, HF.out.1, HF.out.2⟩
theorem cloneI_nil (w : World) : Calls Tryz.prog 89 #[.slice none 0 0] w fun e w' => e = .returned (.slice none 0 0) ∧ w' = w := by
  have hq := fun w => Lib.run_eql_slice_nil (P := Tryz.prog) w 24 90 none 0 0 0 0 Tryz.underlying24
  go_enter Tryz.func89, Tryz.ntmps89
  go_wp2
  go_ret
  exact ⟨rfl, rfl⟩
set_option maxRecDepth 100000 in
theorem cloneI_some {w : World} {g o c n : Nat} {xs : List Value} (hn : xs.length = n * 3) (hx : ∀ j u, xs[j]? = some u → w.cell? ((⟨g, o, none⟩ : Addr).add j) = some u) (h1 : ∀ u ∈ xs, u.oneCell' = true) (hz : n ≤ 1024) : Calls Tryz.prog 89 #[.slice (some ⟨g, o, none⟩) n c] w fun e w' => ∃ p' c', e = .returned (.slice p' n c') ∧ w'.ownsRow w.heap.size 90 3 (.slice p' n c') n xs ∧ Below w.heap.size w w' := by
  have hq := fun w c => Lib.run_eql_slice_nil (P := Tryz.prog) w 24 90 (some ⟨g, o, none⟩) n c 0 0 Tryz.underlying24
  have HX : Hid (∀ j u, xs[j]? = some u → (w.alloc (.cells #[] 90)).cell? ((⟨g, o, none⟩ : Addr).add j) = some u) := fun j u hj => ((below_alloc w _).cell (World.block_lt_of_cell? w _ (hx j u hj))).trans (hx j u hj)
  have H1 := Lib.hid (And.intro h1 (And.intro hn hz))
  have HO : Hid ((w.alloc (.cells #[] 90)).ownsRow w.heap.size 90 3 (.slice (some ⟨w.heap.size, 0, none⟩) 0 0) 0 []) := ⟨rfl, .inr ⟨w.heap.size, 0, #[], rfl, Nat.le_refl _, heap_alloc_new _ _, Nat.le_refl _, Nat.zero_le _, by simp, by simp⟩⟩
  obtain ⟨i0, hi, hz0, hz1, hz2⟩ := info_parts insInfo
  have HZI := Lib.hid (And.intro hi (And.intro hz0 (And.intro hz1 hz2)))
  clear hi hz0 hz1 hz2 hx h1 hz hn
  go_enter Tryz.func89, Tryz.ntmps89
  go_wp2_with (at_builtin; refine wpList_append_own_at _ rfl _ _ 24 rfl w.heap.size 90 i0 _ 3 24 Tryz.underlying24 HZI.out.1 HZI.out.2.1 HZI.out.2.2.1 HZI.out.2.2.2 rfl (by decide) _ 0 [] rfl HO.out ⟨g, o, none⟩ n _ xs rfl H1.out.2.1 HX.out H1.out.1 (by have := H1.out.2.2; unfold maxLen; omega) (by have := H1.out.2.2; omega) (by simp) ?_; intro v w3 hown hgrow hnil hloc; have HS := Lib.hid (And.intro hown hgrow); clear hown hgrow hnil hloc)
  have ho3 := HS.out.1
  rw [List.nil_append, Nat.zero_add] at ho3
  obtain ⟨p', c', hv, ha⟩ := owns_slice2 ho3
  subst hv
  have hb3 : Below w.heap.size w w3 := (below_alloc w _).grown HS.out.2 (by simp) (fun j hj => by
    have := hj
    simp [Act.eval, Value.ownBlock] at this
    omega)
  have HF := Lib.hid (And.intro ho3 hb3)
  clear ho3 ha hb3 HS H1
  go_wp2
  go_ret
  exact ⟨_, _, rfl, HF.out.1, HF.out.2⟩
theorem fls_one (l : List Nat) : ∀ u ∈ fls l, u.oneCell' = true := fun u hu => by
  unfold fls at hu
  obtain ⟨x, _, rfl⟩ := List.mem_map.1 hu
  rfl
theorem tch_one (l : Wr) : ∀ u ∈ l.flatMap tchC, u.oneCell' = true := fun u hu => by
  obtain ⟨x, _, hx⟩ := List.mem_flatMap.1 hu
  simp [tchC] at hx
  rcases hx with rfl | rfl <;> rfl
theorem cloneOut {w : World} {p : Option Addr} {c n : Nat} {l : List Nat} (h : RowAt 74 w p c (fls l)) (hn : l.length = n) (hz : n ≤ 1024) : Calls Tryz.prog 129 #[.slice p n c] w fun e w' => ∃ p' c', e = .returned (.slice p' n c') ∧ RowAt 74 w' p' c' (fls l) ∧ Abv w.heap.size (fpR p') ∧ Below w.heap.size w w' := by
  have ho := h.own
  rw [fls_len, hn] at ho
  rcases ho.2 with ⟨hv, h0⟩ | ⟨g, cap, cur, hv, _⟩
  · cases hv
    have e : l = [] := List.eq_nil_of_length_eq_zero hn
    subst e
    exact (cloneF_nil w).mono fun e w' ⟨a1, a2⟩ => ⟨none, 0, a1, a2 ▸ h, fun k hk => by simp [fpR] at hk, a2 ▸ Below.refl _ _⟩
  · cases hv
    refine (cloneF_some (by rw [fls_len, hn, Nat.mul_one]) (fun j u hj => World.ownsRow.cells ho (g := g) rfl j u hj) (fls_one l) hz).mono fun e w' ⟨p', c', a1, a2, a3⟩ => ⟨p', c', a1, ⟨?_⟩, fun k hk => (a2.lt k (own_fpR.1 hk)).1, a3⟩
    rw [fls_len, hn]
    exact owns_zero a2
theorem cloneReads {w : World} {p : Option Addr} {c n : Nat} {l : Wr} (h : TRow w p c l) (hn : l.length = n) (hz : n ≤ 1024) : Calls Tryz.prog 130 #[.slice p n c] w fun e w' => ∃ p' c', e = .returned (.slice p' n c') ∧ TRow w' p' c' l ∧ Abv w.heap.size (fpR p') ∧ Below w.heap.size w w' := by
  have ho := h.own
  rw [hn] at ho
  rcases ho.2 with ⟨hv, h0⟩ | ⟨g, cap, cur, hv, _⟩
  · cases hv
    have e : l = [] := List.eq_nil_of_length_eq_zero hn
    subst e
    exact (cloneT_nil w).mono fun e w' ⟨a1, a2⟩ => ⟨none, 0, a1, a2 ▸ h, fun k hk => by simp [fpR] at hk, a2 ▸ Below.refl _ _⟩
  · cases hv
    refine (cloneT_some (by rw [tch_len, hn]) (fun j u hj => World.ownsRow.cells ho (g := g) rfl j u hj) (tch_one l) hz).mono fun e w' ⟨p', c', a1, a2, a3⟩ => ⟨p', c', a1, ⟨?_⟩, fun k hk => (a2.lt k (own_fpR.1 hk)).1, a3⟩
    rw [hn]
    exact owns_zero a2
section
variable {W w : World} {b : Nat} {F0 K : List Nat} {m : Mac}
set_option maxRecDepth 100000 in
theorem out_any (h : Gm W F0 b K w m) (hz : m.out.length ≤ 1024) : Calls Tryz.prog 96 #[.pointer (some ⟨b, 0, none⟩)] w fun e w' => ∃ p' c', e = .returned (.slice p' m.out.length c') ∧ RowAt 74 w' p' c' (fls m.out) ∧ Abv w.heap.size (fpR p') ∧ Below w.heap.size w w' := by
  obtain ⟨p, hm, ht, hk⟩ := h
  have h20 : w.cell? ⟨b, 24, none⟩ = some (.slice p.po m.out.length p.co) := (hm.cell 24).trans rfl
  have hb := hm.ltB
  have HP := Lib.hid (cloneOut hm.out rfl hz)
  clear hm ht hk hz
  go_enter Tryz.func96, Tryz.ntmps96
  go_wp2_with (go_at_call 129; refine HP.out.mono ?_; rintro e w1 ⟨p', c', rfl, q1, q2, q3⟩; have HQ := Lib.hid (And.intro q1 (And.intro q2 q3)); clear q1 q2 q3 HP)
  go_ret
  exact ⟨_, _, rfl, HQ.out.1, HQ.out.2.1, HQ.out.2.2⟩
set_option maxRecDepth 100000 in
theorem reads_any (h : Gm W F0 b K w m) (hz : m.reads.length ≤ 1024) : Calls Tryz.prog 97 #[.pointer (some ⟨b, 0, none⟩)] w fun e w' => ∃ p' c', e = .returned (.slice p' m.reads.length c') ∧ TRow w' p' c' m.reads ∧ Abv w.heap.size (fpR p') ∧ Below w.heap.size w w' := by
  obtain ⟨p, hm, ht, hk⟩ := h
  have h20 : w.cell? ⟨b, 25, none⟩ = some (.slice p.pr m.reads.length p.cr) := (hm.cell 25).trans rfl
  have hb := hm.ltB
  have HP := Lib.hid (cloneReads hm.rds rfl hz)
  clear hm ht hk hz
  go_enter Tryz.func97, Tryz.ntmps97
  go_wp2_with (go_at_call 130; refine HP.out.mono ?_; rintro e w1 ⟨p', c', rfl, q1, q2, q3⟩; have HQ := Lib.hid (And.intro q1 (And.intro q2 q3)); clear q1 q2 q3 HP)
  go_ret
  exact ⟨_, _, rfl, HQ.out.1, HQ.out.2.1, HQ.out.2.2⟩
def eight (f : Nat → Nat) : List Nat := [f 0, f 1, f 2, f 3, f 4, f 5, f 6, f 7]
end
end Go.Proofs.YtaliehikdidiaaaGreatDoor
namespace Go.Proofs.YtaliehikdidiaaaGreatDoor
open Go.ChangeShapes Go.WideShapes Go.ChangeAt Go.RowKit Num
attribute [local go_sem] run_store_float

/-- the arguments that a machine has of those that were handed in -/
def argF (l : List Nat) : Nat → Nat := fun k => fixB (l.getD k 0)
/-- a machine at its beginning -/
def newM (a f e t : Int) (c : List Ins) (l : List Nat) : Mac := ⟨a, f, e, (t == 2), if checkB t c then c else [], argF l, fun _ => 0, [], [], 0, 0, [], [], [], -1, 0, 0, 0⟩
theorem argF_nil (k : Nat) : argF [] k = 0 := by simp [argF]; decide
theorem fix0 : fixB 0 = 0 := by decide
theorem argF_take (l : List Nat) {k : Nat} (h : k < l.length) : updF (argF (l.take k)) k (fixB (l.getD k 0)) = argF (l.take (k + 1)) := by
  funext j
  unfold updF argF
  by_cases hj : j = k
  · subst hj
    rw [if_pos rfl]
    simp [List.getD_eq_getElem?_getD]
  · rw [if_neg hj]
    simp only [List.getD_eq_getElem?_getD, List.getElem?_take]
    by_cases h2 : j < k
    · rw [if_pos h2, if_pos (by omega)]
    · rw [if_neg h2, if_neg (by omega)]
section
variable {W w : World} {b : Nat} {F0 K : List Nat} {m : Mac}
/-- a machine made about its parts -/
theorem mac_made {w0 w1 : World} {bn bc bw : Nat} {Fw : List Nat} (a f e : Int) (u : Bool) (hn : NStk w1 bn [bn] []) (hc : CStk w1 bc [bc] []) (hw : Buf w1 bw Fw e []) (h1 : bn ≠ bc) (h2 : bn ∉ Fw) (h3 : bc ∉ Fw) (hB : Below w0.heap.size w0 w1) (a1 : w0.heap.size ≤ bn) (a2 : w0.heap.size ≤ bc) (a3 : Abv w0.heap.size Fw) :
    Gm w0 [] w1.heap.size [] (w1.alloc (.cells (boxV ⟨a, f, e, u, [], fun _ => 0, fun _ => 0, [], [], 0, 0, [], [], [], -1, 0, 0, 0⟩ ⟨none, 0, bn, bc, bw, [bn], [bc], Fw, none, 0, none, 0, 0⟩) 138)) ⟨a, f, e, u, [], fun _ => 0, fun _ => 0, [], [], 0, 0, [], [], [], -1, 0, 0, 0⟩ := by
  have hbl := below_alloc w1 (.cells (boxV ⟨a, f, e, u, [], fun _ => 0, fun _ => 0, [], [], 0, 0, [], [], [], -1, 0, 0, 0⟩ ⟨none, 0, bn, bc, bw, [bn], [bc], Fw, none, 0, none, 0, 0⟩) 138)
  have l1 : bn < w1.heap.size := hn.blw bn (by simp)
  have l2 : bc < w1.heap.size := hc.blw bc (by simp)
  have l3 := hw.blw
  refine ⟨⟨none, 0, bn, bc, bw, [bn], [bc], Fw, none, 0, none, 0, 0⟩, ⟨heap_alloc_new _ _, hn.on hbl, hc.on hbl, hw.on hbl, ⟨World.ownsRow_nil _ _ _ _⟩, ⟨World.ownsRow_nil _ _ _ _⟩, fun k hk => absurd hk (Nat.not_lt_zero k), fun k hk => by simp [fpR] at hk, fun h => absurd h (show ¬ (0 : Int) ≤ -1 by decide), ?_⟩, ?_, rfl⟩
  · have d01 : Sep [w1.heap.size] [bn] := fun k hk q => by simp at hk q; omega
    have d02 : Sep [w1.heap.size] [bc] := fun k hk q => by simp at hk q; omega
    have d03 : Sep [w1.heap.size] Fw := fun k hk q => by simp at hk; subst hk; exact absurd (l3 _ q) (Nat.lt_irrefl _)
    have d12 : Sep [bn] [bc] := fun k hk q => by simp at hk q; omega
    have d13 : Sep [bn] Fw := fun k hk q => by simp at hk; subst hk; exact h2 q
    have d23 : Sep [bc] Fw := fun k hk q => by simp at hk; subst hk; exact h3 q
    have e0 : ∀ F : List Nat, Sep F [] := fun F k _ q => by simp at q
    intro i j hij
    match i, j with
    | 0, 0 => exact absurd rfl hij
    | 0, 1 => exact d01
    | 0, 2 => exact d02
    | 0, 3 => exact d03
    | 1, 0 => exact d01.symm
    | 1, 1 => exact absurd rfl hij
    | 1, 2 => exact d12
    | 1, 3 => exact d13
    | 2, 0 => exact d02.symm
    | 2, 1 => exact d12.symm
    | 2, 2 => exact absurd rfl hij
    | 2, 3 => exact d23
    | 3, 0 => exact d03.symm
    | 3, 1 => exact d13.symm
    | 3, 2 => exact d23.symm
    | 3, 3 => exact absurd rfl hij
    | _, 4 => exact e0 _
    | _, 5 => exact e0 _
    | _, 6 => exact e0 _
    | 4, _ => exact (e0 _).symm
    | 5, _ => exact (e0 _).symm
    | 6, _ => exact (e0 _).symm
    | _, q + 7 => simp only [Pt.L, List.getD_eq_getElem?_getD]; exact fun k _ z => by simp at z
    | q + 7, _ => exact fun k z => by simp [Pt.L] at z
  · have hb2 := hB.trans (hbl.mono hB.size)
    refine ⟨hb2.os, hb2.tape, hb2.output, hb2.size, fun k hk _ => hb2.block k hk, fun k hk => .inr ?_⟩
    simp only [Pt.F, Pt.own, List.flatten_cons, List.flatten_nil, List.mem_append, List.append_nil, List.mem_singleton, fpR, Option.map_none, Option.toList_none] at hk
    rcases hk with rfl | rfl | rfl | hk
    · exact hB.size
    · exact a1
    · exact a2
    · exact a3 k hk
/-- its instructions are laid in -/
theorem MacAt.code {p : Pt} (h1 : MacAt w b m p) {pk : Option Addr} {ck : Nat} {c : List Ins} (hc : CodeAt w pk c) (hl : Blw w (fpR pk)) (hsp : Sep (fpR pk) (p.F b)) : MacAt (w.setCell ⟨b, 3, none⟩ (.slice pk c.length ck)) b { m with code := c } { p with pk := pk, ck := ck } ∧ Turn (p.F b) ({ p with pk := pk, ck := ck }.F b) w (w.setCell ⟨b, 3, none⟩ (.slice pk c.length ck)) := by
  have t := turn_set w b 3 (.slice pk c.length ck)
  have kk := h1.others (i := 0) t
  have kc : Kept (fpR pk) w (w.setCell ⟨b, 3, none⟩ (.slice pk c.length ck)) := t.kept (fun k hk q => hsp k hk (own_in (j := 0) (by omega) q)) hl
  refine ⟨⟨?_, h1.num.keep (kk 1 (by omega)), h1.cal.keep (kk 2 (by omega)), h1.wri.keep (kk 3 (by omega)), h1.out.keep (kk 4 (by omega)), h1.rds.keep (kk 5 (by omega)), hc.keep kc, fun x hx => Nat.lt_of_lt_of_le (hl x hx) t.size, h1.wt, ?_⟩, Turn.part (L := p.own b) (i := 0) t⟩
  · exact (heap_setCell_same w b 3 _ _ _ h1.box).trans rfl
  · intro i j hij
    by_cases hi : i = 6
    · subst hi
      by_cases hj : j < 6
      · have : ({ p with pk := pk, ck := ck }.L b).getD j [] = (p.L b).getD j [] := by
          match j, hj with
          | 0, _ => rfl
          | 1, _ => rfl
          | 2, _ => rfl
          | 3, _ => rfl
          | 4, _ => rfl
          | 5, _ => rfl
        rw [this]
        exact fun k hk q => hsp k hk (own_in hj q)
      · match j, hj, hij with
        | 6, _, hij => exact absurd rfl hij
        | q + 7, _, _ => exact fun k _ z => by simp [Pt.L] at z
    · by_cases hj : j = 6
      · subst hj
        by_cases hi6 : i < 6
        · have : ({ p with pk := pk, ck := ck }.L b).getD i [] = (p.L b).getD i [] := by
            match i, hi6 with
            | 0, _ => rfl
            | 1, _ => rfl
            | 2, _ => rfl
            | 3, _ => rfl
            | 4, _ => rfl
            | 5, _ => rfl
          rw [this]
          exact fun k hk q => hsp k q (own_in hi6 hk)
        · match i, hi6, hi with
          | 6, _, hi => exact absurd rfl hi
          | q + 7, _, _ => exact fun k z => by simp [Pt.L] at z
      · have e : ∀ q, q ≠ 6 → ({ p with pk := pk, ck := ck }.L b).getD q [] = (p.L b).getD q [] := fun q hq => by
          match q, hq with
          | 0, _ => rfl
          | 1, _ => rfl
          | 2, _ => rfl
          | 3, _ => rfl
          | 4, _ => rfl
          | 5, _ => rfl
          | 6, hq => exact absurd rfl hq
          | q + 7, _ => simp [Pt.L]
        rw [e i hi, e j hj]
        exact h1.apart i j hij
theorem arg_set (h : Gm W F0 b K w m) {k : Nat} (hk : k < 8) (y : Nat) : Gm W F0 b K (w.setCell ⟨b, 4 + k, none⟩ (.float .f64 y)) { m with args := updF m.args k y } := by
  refine h.set (4 + k) _ _ (fun p hp => ⟨p.wt, ?_, hp⟩) ⟨rfl, rfl, rfl, rfl, rfl, rfl, rfl⟩
  match k, hk with
  | 0, _ => rfl
  | 1, _ => rfl
  | 2, _ => rfl
  | 3, _ => rfl
  | 4, _ => rfl
  | 5, _ => rfl
  | 6, _ => rfl
  | 7, _ => rfl
end
end Go.Proofs.YtaliehikdidiaaaGreatDoor
namespace Go.Proofs.YtaliehikdidiaaaGreatDoor
open Go.ChangeShapes Go.WideShapes Go.ChangeAt Go.RowKit Num
attribute [local go_sem] run_store_float

/-- a list of numbers, wherever it lies -/
def FlAt (w : World) (po : Option Addr) (l : List Nat) : Prop := ∀ k, k < l.length → ∃ g o, po = some ⟨g, o, none⟩ ∧ g < w.heap.size ∧ w.cell? ⟨g, o + k, none⟩ = some (.float .f64 (l.getD k 0))
theorem FlAt.on {w w' : World} {po : Option Addr} {l : List Nat} (h : FlAt w po l) (hb : Below w.heap.size w w') : FlAt w' po l := fun k hk => by
  obtain ⟨g, o, e, hlt, c⟩ := h k hk
  exact ⟨g, o, e, Nat.lt_of_lt_of_le hlt hb.size, (hb.cell (p := ⟨g, o + k, none⟩) hlt).trans c⟩
abbrev cfgO (a b c e : Int) : Obj := .cells #[.int .i64 a, .int .i64 b, .int .i64 c, .int .i64 e] 48
abbrev prgO (t : Int) (ao : Option Addr) (n cap : Nat) : Obj := .cells #[.int .i64 t, .slice ao n cap] 26
abbrev cfgV (a b c e : Int) : Value := .agg #[.int .i64 a, .int .i64 b, .int .i64 c, .int .i64 e]
abbrev newW (w : World) (a b c e t : Int) (ao : Option Addr) (n cap : Nat) : World := (w.alloc (cfgO a b c e)).alloc (prgO t ao n cap)
theorem newW_below (w : World) (a b c e t : Int) (ao : Option Addr) (n cap : Nat) : Below w.heap.size w (newW w a b c e t ao n cap) := (below_alloc w _).trans ((below_alloc _ _).mono (by simp))
theorem newW_boxes {w u : World} {a b c e t : Int} {ao : Option Addr} {n cap : Nat} (h : Below (newW w a b c e t ao n cap).heap.size (newW w a b c e t ao n cap) u) :
    (u.cell? ⟨w.heap.size, 0, none⟩ = some (.int .i64 a) ∧ u.cell? ⟨w.heap.size, 2, none⟩ = some (.int .i64 c) ∧ u.cell? ⟨w.heap.size, 3, none⟩ = some (.int .i64 e) ∧ w.heap.size < u.heap.size) ∧ (u.cell? ⟨w.heap.size + 1, 0, none⟩ = some (.int .i64 t) ∧ u.cell? ⟨w.heap.size + 1, 1, none⟩ = some (.slice ao n cap) ∧ w.heap.size + 1 < u.heap.size) ∧ Below w.heap.size w u := by
  have b1 : u.heap[w.heap.size]? = some (cfgO a b c e) := (h.block _ (by simp; omega)).trans ((heap_alloc_old _ _ (by simp)).trans (heap_alloc_new w _))
  have b2 : u.heap[w.heap.size + 1]? = some (prgO t ao n cap) := (h.block _ (by simp)).trans (heap_new (by simp))
  refine ⟨⟨?_, ?_, ?_, lt_of_block b1⟩, ⟨?_, ?_, lt_of_block b2⟩, (newW_below w a b c e t ao n cap).trans (h.mono (by simp; omega))⟩
  · rw [cell_of_row u _ 0 _ _ _ b1]; rfl
  · rw [cell_of_row u _ 2 _ _ _ b1]; rfl
  · rw [cell_of_row u _ 3 _ _ _ b1]; rfl
  · rw [cell_of_row u _ 0 _ _ _ b2]; rfl
  · rw [cell_of_row u _ 1 _ _ _ b2]; rfl
section
variable {w : World}
set_option maxHeartbeats 600000 in
set_option maxRecDepth 100000 in
theorem mnew_cfg (a b c e t : Int) (ao : Option Addr) (n cap : Nat) (po : Option Addr) (k co : Nat) (hc : Md.cfgB a b c e = false) : Calls Tryz.prog 47 #[cfgV a b c e, .agg #[.int .i64 t, .slice ao n cap], .slice po k co] w fun r w' => r = .returned (.pointer none) ∧ Below w.heap.size w w' := by
  have HP := Lib.hid (Md.place_any a b c e (newW w a b c e t ao n cap))
  rw [hc] at HP
  clear hc
  go_enter Tryz.func47, Tryz.ntmps47
  go_wp2_with (go_at_call 84; refine HP.out.mono ?_; rw [if_neg Bool.false_ne_true]; rintro r u0 ⟨rfl, q⟩; have HQ := Lib.hid (newW_boxes q).2.2; clear q HP)
  go_ret
  exact ⟨rfl, HQ.out.alloc HQ.out.size _⟩
set_option maxHeartbeats 600000 in
set_option maxRecDepth 100000 in
theorem mnew_args (a b c e t : Int) (ao : Option Addr) (n cap : Nat) (po : Option Addr) (k co : Nat) (hc : Md.cfgB a b c e = true) (hk : 8 < k) : Calls Tryz.prog 47 #[cfgV a b c e, .agg #[.int .i64 t, .slice ao n cap], .slice po k co] w fun r w' => r = .returned (.pointer none) ∧ Below w.heap.size w w' := by
  have HP := Lib.hid (Md.place_any a b c e (newW w a b c e t ao n cap))
  rw [hc] at HP
  have hk' : (8 : Int) < (k : Int) := by omega
  clear hc
  go_enter Tryz.func47, Tryz.ntmps47
  go_wp2_with (go_at_call 84; refine HP.out.mono ?_; rw [if_pos rfl]; rintro r u0 ⟨rfl, q⟩; have HQ := Lib.hid (newW_boxes q).2.2; clear q HP)
  go_ret
  exact ⟨rfl, HQ.out.alloc HQ.out.size _⟩
end
end Go.Proofs.YtaliehikdidiaaaGreatDoor
namespace Go.Proofs.YtaliehikdidiaaaGreatDoor
open Go.ChangeShapes Go.WideShapes Go.ChangeAt Go.RowKit Num
attribute [local go_sem] run_store_float

theorem code_row {w : World} {p : Option Addr} {c B : Nat} {l : List Ins} (h : w.ownsRow B 90 3 (.slice p l.length c) l.length (l.flatMap fun i => [.int .i64 i.op, .int .i64 i.n, .float .f64 i.x])) : CodeAt w p l ∧ Blw w (fpR p) ∧ Abv B (fpR p) := by
  refine ⟨fun k hk => ?_, fun k hk => (h.lt k (own_fpR.1 hk)).2, fun k hk => (h.lt k (own_fpR.1 hk)).1⟩
  rcases h.2 with ⟨_, q⟩ | ⟨g, cap', cur, hv, hB, hg, _, _, _, ht⟩
  · omega
  · cases hv
    have fl : ∀ (l : List Ins) k (h : k < l.length), (l.flatMap fun i => [Value.int .i64 i.op, .int .i64 i.n, .float .f64 i.x])[k * 3]? = some (.int .i64 (ci l k).op) ∧ (l.flatMap fun i => [Value.int .i64 i.op, .int .i64 i.n, .float .f64 i.x])[k * 3 + 1]? = some (.int .i64 (ci l k).n) ∧ (l.flatMap fun i => [Value.int .i64 i.op, .int .i64 i.n, .float .f64 i.x])[k * 3 + 2]? = some (.float .f64 (ci l k).x) := by
      intro l
      induction l with
      | nil => intro k h; exact absurd h (Nat.not_lt_zero k)
      | cons i l ih =>
        intro k h
        cases k with
        | zero => simp [ci]
        | succ k =>
          have := ih k (by simpa using h)
          rw [List.flatMap_cons]
          have e : (k + 1) * 3 = [Value.int .i64 i.op, .int .i64 i.n, .float .f64 i.x].length + k * 3 := by simp; omega
          rw [e, List.getElem?_append_right (by omega), Nat.add_assoc, List.getElem?_append_right (by omega), Nat.add_assoc, List.getElem?_append_right (by omega)]
          simpa [ci] using this
    have e : ∀ j, j < l.length * 3 → cur[j]? = (l.flatMap fun i => [Value.int .i64 i.op, .int .i64 i.n, .float .f64 i.x])[j]? := fun j hj => by
      have h1 : cur.toList[j]? = (cur.toList.take (l.length * 3))[j]? := by rw [List.getElem?_take, if_pos (by omega)]
      rw [ht] at h1
      simpa using h1
    obtain ⟨f0, f1, f2⟩ := fl l k hk
    refine ⟨g, 0, rfl, lt_of_block hg, ?_, ?_, ?_⟩
    · rw [cell_of_row w g _ _ _ _ hg, Nat.zero_add, e _ (by omega)]; exact f0
    · rw [cell_of_row w g _ _ _ _ hg, Nat.zero_add, e _ (by omega)]; exact f1
    · rw [cell_of_row w g _ _ _ _ hg, Nat.zero_add, e _ (by omega)]; exact f2
theorem ins_len (l : List Ins) : (l.flatMap fun i => [Value.int .i64 i.op, .int .i64 i.n, .float .f64 i.x]).length = l.length * 3 := by
  induction l with
  | nil => rfl
  | cons i l ih => rw [List.flatMap_cons, List.length_append, ih]; simp; omega
theorem ins_cells (l : List Ins) : ∀ j, j < l.length * 3 → (l.flatMap fun i => [Value.int .i64 i.op, .int .i64 i.n, .float .f64 i.x])[j]? = some (if j % 3 = 0 then .int .i64 (ci l (j / 3)).op else if j % 3 = 1 then .int .i64 (ci l (j / 3)).n else .float .f64 (ci l (j / 3)).x) := by
  induction l with
  | nil => intro j h; simp at h
  | cons i l ih =>
    intro j h
    rw [List.flatMap_cons]
    by_cases hj : j < 3
    · rw [List.getElem?_append_left (by simpa using hj)]
      match j, hj with
      | 0, _ => rfl
      | 1, _ => rfl
      | 2, _ => rfl
    · rw [List.getElem?_append_right (by simp; omega)]
      have := ih (j - 3) (by simp at h; omega)
      have e1 : (j - 3) % 3 = j % 3 := by omega
      have e2 : j / 3 = (j - 3) / 3 + 1 := by omega
      rw [e1] at this
      rw [e2]
      simpa [ci] using this
theorem clone_code {w : World} {ao : Option Addr} {cap n : Nat} {c : List Ins} (h : CodeAt w ao c) (hn : c.length = n) (h1 : 1 ≤ n) (hz : n ≤ 1024) : Calls Tryz.prog 89 #[.slice ao n cap] w fun e w' => ∃ p' c', e = .returned (.slice p' n c') ∧ CodeAt w' p' c ∧ Blw w' (fpR p') ∧ Abv w.heap.size (fpR p') ∧ Below w.heap.size w w' := by
  obtain ⟨g, o, e, _, _, _, _⟩ := h 0 (by omega)
  subst e
  refine (cloneI_some (xs := c.flatMap fun i => [Value.int .i64 i.op, .int .i64 i.n, .float .f64 i.x]) (by rw [ins_len, hn]) (fun j u hj => ?_) (fun u hu => ?_) hz).mono fun e w' ⟨p', c', a1, a2, a3⟩ => ?_
  · have hjl : j < c.length * 3 := by
      have := (List.getElem?_eq_some_iff.1 hj).1
      rwa [ins_len] at this
    rw [ins_cells c j hjl] at hj
    obtain ⟨g', o', e', _, c0, c1, c2⟩ := h (j / 3) (by omega)
    cases e'
    rw [show (⟨g, o, none⟩ : Addr).add j = ⟨g, o + j, none⟩ by unfold Addr.add; split <;> simp_all, ← hj]
    by_cases h0 : j % 3 = 0
    · rw [if_pos h0, show o + j = o + j / 3 * 3 by omega]
      exact c0
    · rw [if_neg h0]
      by_cases h1 : j % 3 = 1
      · rw [if_pos h1, show o + j = o + j / 3 * 3 + 1 by omega]
        exact c1
      · rw [if_neg h1, show o + j = o + j / 3 * 3 + 2 by omega]
        exact c2
  · obtain ⟨i, _, hx⟩ := List.mem_flatMap.1 hu
    simp at hx
    rcases hx with rfl | rfl | rfl <;> rfl
  · rw [← hn] at a2
    obtain ⟨b1, b2, b3⟩ := code_row a2
    exact ⟨p', c', a1, b1, b2, b3, a3⟩
section
variable {w : World}
/-- its instructions are laid in: new ones -/
theorem Gm.code' {W : World} {F0 K : List Nat} {b : Nat} {u u' : World} {m : Mac} (h : Gm W F0 b K u m) (hb : Below u.heap.size u u') {pk : Option Addr} {ck : Nat} {c : List Ins} (hc : CodeAt u' pk c) (hl : Blw u' (fpR pk)) (hA : Abv u.heap.size (fpR pk)) : Gm W F0 b (fpR pk) (u'.setCell ⟨b, 3, none⟩ (.slice pk c.length ck)) { m with code := c } := by
  obtain ⟨p, h1, h2, _⟩ := h
  obtain ⟨a1, a2⟩ := (h1.on hb).code (ck := ck) hc hl (fun k hk q => absurd (hA k hk) (Nat.not_le.2 (h1.blw k q)))
  exact ⟨_, a1, (h2.trans (Below.turn hb _)).trans a2, rfl⟩
/-- the parts of a machine that is being made -/
structure Parts (w N v : World) (bn bc bw : Nat) (Fw : List Nat) (e : Int) : Prop where
  n : NStk v bn [bn] []
  c : CStk v bc [bc] []
  bf : Buf v bw Fw e []
  nc : bn ≠ bc
  nw : bn ∉ Fw
  cw : bc ∉ Fw
  an : w.heap.size ≤ bn
  ac : w.heap.size ≤ bc
  aw : Abv w.heap.size Fw
  bl : Below N.heap.size N v
theorem parts_fi {N u u' v v' : World} {bn bc bw : Nat} {Fw : List Nat} {e : Int} (hN : w.heap.size ≤ N.heap.size) (hb : Below N.heap.size N u) (hw : Buf u bw Fw e []) (ha : Abv w.heap.size Fw) (k1 : Same u u') (e1 : bn = u'.heap.size) (s1 : Stk 167 74 v bn [bn] [] (roomV 64)) (d1 : Below u'.heap.size u' v) (k2 : Same v v') {x : World} (e2 : bc = v'.heap.size) (s2 : Stk 169 3 x bc [bc] [] (roomV 16)) (d2 : Below v'.heap.size v' x) : Parts w N x bn bc bw Fw e := by
  have z1 : u'.heap.size = u.heap.size := by rw [k1.heap]
  have z2 : v'.heap.size = v.heap.size := by rw [k2.heap]
  have g1 : Below u.heap.size u v := (k1.below _).trans (d1.mono (by omega))
  have g2 : Below v.heap.size v x := (k2.below _).trans (d2.mono (by omega))
  have l1 : bn < v.heap.size := s1.blw bn (by simp)
  have hsz := hb.size
  exact ⟨Stk.on s1 g2, s2, (hw.on g1).on g2, by omega, fun q => absurd (hw.blw _ q) (by omega), fun q => absurd (hw.blw _ q) (by have := g1.size; omega), by omega, by have := g1.size; omega, ha, (hb.trans (g1.mono hsz)).trans (g2.mono (Nat.le_trans hsz g1.size))⟩
theorem parts_if {N u u' v v' : World} {bn bc bw : Nat} {Fw : List Nat} {e : Int} (hN : w.heap.size ≤ N.heap.size) (hb : Below N.heap.size N u) (hw : Buf u bw Fw e []) (ha : Abv w.heap.size Fw) (k1 : Same u u') (e1 : bc = u'.heap.size) (s1 : Stk 169 3 v bc [bc] [] (roomV 16)) (d1 : Below u'.heap.size u' v) (k2 : Same v v') {x : World} (e2 : bn = v'.heap.size) (s2 : Stk 167 74 x bn [bn] [] (roomV 64)) (d2 : Below v'.heap.size v' x) : Parts w N x bn bc bw Fw e := by
  have z1 : u'.heap.size = u.heap.size := by rw [k1.heap]
  have z2 : v'.heap.size = v.heap.size := by rw [k2.heap]
  have g1 : Below u.heap.size u v := (k1.below _).trans (d1.mono (by omega))
  have g2 : Below v.heap.size v x := (k2.below _).trans (d2.mono (by omega))
  have l1 : bc < v.heap.size := s1.blw bc (by simp)
  have hsz := hb.size
  exact ⟨s2, Stk.on s1 g2, (hw.on g1).on g2, by omega, fun q => absurd (hw.blw _ q) (by have := g1.size; omega), fun q => absurd (hw.blw _ q) (by omega), by have := g1.size; omega, by omega, ha, (hb.trans (g1.mono hsz)).trans (g2.mono (Nat.le_trans hsz g1.size))⟩
theorem Parts.mac {N v : World} {bn bc bw : Nat} {Fw : List Nat} {e : Int} (h : Parts w N v bn bc bw Fw e) (hB : Below w.heap.size w v) (a f : Int) (u : Bool) : Gm w [] v.heap.size [] (v.alloc (.cells (boxV ⟨a, f, e, u, [], fun _ => 0, fun _ => 0, [], [], 0, 0, [], [], [], -1, 0, 0, 0⟩ ⟨none, 0, bn, bc, bw, [bn], [bc], Fw, none, 0, none, 0, 0⟩) 138)) ⟨a, f, e, u, [], fun _ => 0, fun _ => 0, [], [], 0, 0, [], [], [], -1, 0, 0, 0⟩ :=
  mac_made a f e u h.n h.c h.bf h.nc h.nw h.cw hB h.an h.ac h.aw
theorem Gm.cod3 {W : World} {F0 K : List Nat} {b : Nat} {u : World} {m : Mac} (h : Gm W F0 b K u m) : ∃ v, u.cell? ⟨b, 3, none⟩ = some v := by
  obtain ⟨p, hm, _, _⟩ := h
  exact ⟨_, (hm.cell 3).trans rfl⟩
theorem Gm.arg4 {W : World} {F0 K : List Nat} {b : Nat} {u : World} {m : Mac} (h : Gm W F0 b K u m) {j : Nat} (hj : j < 8) : u.cell? ⟨b, 4 + j, none⟩ = some (.float .f64 (m.args j)) ∧ u.frozen? ⟨b, 4 + j, none⟩ = false ∧ b < u.heap.size := ⟨args_at h hj, h.free _, h.ltB⟩
theorem Gm.fresh {K : List Nat} {b : Nat} {u : World} {m : Mac} (h : Gm w [] b K u m) : Below w.heap.size w u := by
  obtain ⟨p, _, h2, _⟩ := h
  exact h2.below (fun k hk => by simp at hk) (Nat.le_refl _)
theorem newM_args (a c e t : Int) (cs : List Ins) (l : List Nat) : newM a c e t cs l = { newM a c e t cs [] with args := argF l } := rfl
set_option maxHeartbeats 1000000 in
set_option maxRecDepth 100000 in
theorem mnew_yes {a b c e t : Int} {ao : Option Addr} {cs : List Ins} {n cap : Nat} {po : Option Addr} {l : List Nat} {k co : Nat} (hc : Md.cfgB a b c e = true) (hn : cs.length = n) (hk : l.length = k) (hk8 : k ≤ 8) (hT : Shaped5 w) (hC : CodeAt w ao cs) (hL : FlAt w po l) (hnl : n ≤ 9223372036854775807) (hq : checkB t cs = true) : Calls Tryz.prog 47 #[cfgV a b c e, .agg #[.int .i64 t, .slice ao n cap], .slice po k co] w fun r w' => ∃ bm K, r = .returned (.pointer (some ⟨bm, 0, none⟩)) ∧ Gm w [] bm K w' (newM a c e t cs l) ∧ Abv w.heap.size K := by
  have HP := Lib.hid (Md.place_any a b c e (newW w a b c e t ao n cap))
  rw [hc] at HP
  have hcf := Md.cfgB_iff.1 hc
  have hk' : ¬ (8 : Int) < (k : Int) := by omega
  have HBF : Hid (∀ u, Calls Tryz.prog 86 #[.int .i64 e] u fun r w' => ∃ b F, r = .returned (.tuple #[.pointer (some ⟨b, 0, none⟩), .int .i64 0]) ∧ Buf w' b F e [] ∧ Abv u.heap.size F ∧ Below u.heap.size u w') := fun u => new_some (by unfold mayM; simp; omega) u
  have HCK : Hid (∀ u, Below w.heap.size w u → Calls Tryz.prog 14 #[.agg #[.int .i64 t, .slice ao n cap]] u fun r w' => r = .returned (.int .i64 (checkE t cs)) ∧ Below u.heap.size u w') := fun u hb => by
    have := check_any t cap (hT.on hb) (hC.on hb) (by omega)
    rw [hn] at this
    exact this
  rw [checkE_yes hq] at HCK
  have HL := Lib.hid (And.intro hL (And.intro hk hk8))
  have HNW : Hid (w.heap.size ≤ (newW w a b c e t ao n cap).heap.size) := by show _ ≤ _; simp; omega
  have hcp := check_parts.1 hq
  have HC : Hid ((∀ u, Below w.heap.size w u → CodeAt u ao cs) ∧ cs.length = n ∧ 1 ≤ n ∧ n ≤ 1024) := ⟨fun u hb => hC.on hb, hn, by omega, by omega⟩
  clear hcp
  clear hc hT hC hL hnl hcf
  go_enter Tryz.func47, Tryz.ntmps47
  go_wp2_with (first
    | (go_at_call 86; refine (HBF.out _).mono ?_; rintro r u1 ⟨bw, Fw, rfl, q1, q2, q3⟩; have B1 := B0.out.alloc B0.out.size (.cells #[.int .i64 0, .int .i64 1, .int .i64 2, .int .i64 3, .int .i64 (3 + b), .int .i64 (3 + b + 3 * a)] 125); have B2 := Lib.hid (B1.trans (q3.mono B1.size)); obtain ⟨⟨x0, x1, x2, x3⟩, ⟨y0, y1, y2⟩, z0⟩ := newW_boxes B2.out; have HW1 := Lib.hid (And.intro q1 (Abv.mono q2 (B' := w.heap.size) (Nat.le_trans HNW.out B1.size))); clear q1 q2 q3 B1 z0)
    | (go_at_call 84; refine HP.out.mono ?_; rw [if_pos rfl]; rintro r u0 ⟨rfl, q⟩; obtain ⟨⟨x0, x1, x2, x3⟩, ⟨y0, y1, y2⟩, z0⟩ := newW_boxes q; have B0 := Lib.hid q; clear q HP z0))
  go_region_held (fun w' => w'.cell? ⟨w.heap.size, 0, none⟩ = some (.int .i64 a) ∧ w'.cell? ⟨w.heap.size, 2, none⟩ = some (.int .i64 c) ∧ w'.cell? ⟨w.heap.size + 1, 0, none⟩ = some (.int .i64 t)) (go_keep) (first
    | (go_at_call 87; refine (fNew_any 64 _).mono ?_; rintro r v2 ⟨bn, rfl, e2, s2, d2⟩; have P2 := parts_if (w := w) HNW.out B2.out HW1.out.1 HW1.out.2 (Same.drew _) I1.out.1 I1.out.2.1 I1.out.2.2 (Same.refl _) e2 s2 d2; obtain ⟨⟨x0, x1, x2, x3⟩, ⟨y0, y1, y2⟩, z0⟩ := newW_boxes P2.bl; have HZ := Lib.hid z0; have HPT := Lib.hid P2; clear e2 s2 d2 P2 z0)
    | (go_at_call 88; refine (iNew_any 16 _).mono ?_; rintro r v2 ⟨bc, rfl, e2, s2, d2⟩; have P2 := parts_fi (w := w) HNW.out B2.out HW1.out.1 HW1.out.2 (Same.drew _) J1.out.1 J1.out.2.1 J1.out.2.2 (Same.refl _) e2 s2 d2; obtain ⟨⟨x0, x1, x2, x3⟩, ⟨y0, y1, y2⟩, z0⟩ := newW_boxes P2.bl; have HZ := Lib.hid z0; have HPT := Lib.hid P2; clear e2 s2 d2 P2 z0)
    | (go_at_call 87; refine (fNew_any 64 _).mono ?_; rintro r v1 ⟨bn, rfl, e1, s1, d1⟩; have J1 := Lib.hid (And.intro e1 (And.intro s1 d1)); obtain ⟨⟨x0, x1, x2, x3⟩, ⟨y0, y1, y2⟩, z0⟩ := newW_boxes (B2.out.trans (((Same.drew _).below _).trans (d1.mono B2.out.size))); clear e1 s1 d1 z0)
    | (go_at_call 88; refine (iNew_any 16 _).mono ?_; rintro r v1 ⟨bc, rfl, e1, s1, d1⟩; have I1 := Lib.hid (And.intro e1 (And.intro s1 d1)); obtain ⟨⟨x0, x1, x2, x3⟩, ⟨y0, y1, y2⟩, z0⟩ := newW_boxes (B2.out.trans (((Same.drew _).below _).trans (d1.mono B2.out.size))); clear e1 s1 d1 z0))
  all_goals go_wp2_with (first
    | (go_at_call 89; refine (clone_code (HC.out.1 _ G1.out.fresh) HC.out.2.1 HC.out.2.2.1 HC.out.2.2.2).mono ?_; rintro r v4 ⟨pk, ck, rfl, q1, q2, q3, q4⟩; have g4 := G1.out.on q4; obtain ⟨cv, c3⟩ := g4.cod3; have f3 := g4.free 3; have l3 := g4.ltB; have g5 := G1.out.code' q4 (ck := ck) q1 q2 q3; rw [HC.out.2.1] at g5; have G2 := Lib.hid (And.intro g5 (Abv.mono q3 (B' := w.heap.size) G1.out.fresh.size)); clear g4 g5 q1 q2 q3 q4)
    | (go_at_call 14; refine (HCK.out _ (HZ.out.alloc HZ.out.size _)).mono ?_; rintro r v3 ⟨rfl, d3⟩; have g3 := (HPT.out.mac HZ.out a c (t == 2)).on d3; obtain ⟨⟨x0, x1, x2, x3⟩, ⟨y0, y1, y2⟩, z0⟩ := newW_boxes ((HPT.out.bl.alloc HPT.out.bl.size _).trans (d3.mono (Nat.le_trans HPT.out.bl.size (by simp)))); have G1 := Lib.hid g3; clear d3 g3 z0))
  all_goals go_loopw [55] (fun vi wr => ∃ j : Nat, vi = .int .i64 j ∧ j ≤ k ∧ Hid (Gm w [] v2.heap.size (fpR pk) wr { newM a c e t cs [] with args := argF (l.take j) })) (fun vi _ => k - (intOf vi).toNat)
  case atStart =>
    refine ⟨0, rfl, Nat.zero_le _, ?_⟩
    have e1 : argF (l.take 0) = fun _ => 0 := by funext q; exact argF_nil q
    rw [e1]
    unfold newM
    rw [hq]
    exact G2.out.1
  case round =>
    obtain ⟨j, rfl, hj, HG⟩ := hrel
    by_cases hlt : j < k
    · have hlt' : (j : Int) < (k : Int) := by omega
      have hj8 : (j : Int) < 8 := by omega
      obtain ⟨g, o, hpo, hg, hcell⟩ := (HL.out.1.on HG.out.fresh) j (by omega)
      subst hpo
      have HTK := Lib.hid (argF_take l (k := j) (by omega))
      generalize l.getD j 0 = y at hcell HTK
      obtain ⟨d0, d1, d2⟩ := HG.out.arg4 (j := j) (by omega)
      clear HCK HBF HPT HZ G1 G2
      go_wp2
      refine region_tail 7 (by kernel_rfl) ?_
      simp only [List.take_succ_cons, List.take_zero, List.drop_succ_cons, List.drop_zero]
      repeat (first | still_step | still_call (fix_any y _))
      refine wpStill_nil ?_
      go_wp2
      refine ⟨⟨j + 1, by first | rfl | (congr 1), by omega, ?_⟩, by simp [intOf]; omega⟩
      have g6 := (arg_set HG.out (k := j) (by omega) (fixB y)).same (Same.drew _)
      rw [← HTK.out]
      exact g6
    · have hlt' : ¬ (j : Int) < (k : Int) := by omega
      have e : j = k := by omega
      subst e
      have HF : Hid (Gm w [] v2.heap.size (fpR pk) wr (newM a c e t cs l)) := by
        have := HG.out
        rw [show l.take j = l by rw [← hk]; exact List.take_length] at this
        exact this
      clear HCK HBF HPT HZ G1
      go_wp2
      go_ret
      exact ⟨_, rfl, (fpR pk), HF.out, G2.out.2⟩
set_option maxHeartbeats 1000000 in
set_option maxRecDepth 100000 in
theorem mnew_no {a b c e t : Int} {ao : Option Addr} {cs : List Ins} {n cap : Nat} {po : Option Addr} {l : List Nat} {k co : Nat} (hc : Md.cfgB a b c e = true) (hn : cs.length = n) (hk : l.length = k) (hk8 : k ≤ 8) (hT : Shaped5 w) (hC : CodeAt w ao cs) (hL : FlAt w po l) (hnl : n ≤ 9223372036854775807) (hq : checkB t cs = false) : Calls Tryz.prog 47 #[cfgV a b c e, .agg #[.int .i64 t, .slice ao n cap], .slice po k co] w fun r w' => ∃ bm K, r = .returned (.pointer (some ⟨bm, 0, none⟩)) ∧ Gm w [] bm K w' (newM a c e t cs l) ∧ Abv w.heap.size K := by
  have HP := Lib.hid (Md.place_any a b c e (newW w a b c e t ao n cap))
  rw [hc] at HP
  have hcf := Md.cfgB_iff.1 hc
  have hk' : ¬ (8 : Int) < (k : Int) := by omega
  have HBF : Hid (∀ u, Calls Tryz.prog 86 #[.int .i64 e] u fun r w' => ∃ b F, r = .returned (.tuple #[.pointer (some ⟨b, 0, none⟩), .int .i64 0]) ∧ Buf w' b F e [] ∧ Abv u.heap.size F ∧ Below u.heap.size u w') := fun u => new_some (by unfold mayM; simp; omega) u
  have HCK : Hid (∀ u, Below w.heap.size w u → Calls Tryz.prog 14 #[.agg #[.int .i64 t, .slice ao n cap]] u fun r w' => r = .returned (.int .i64 (checkE t cs)) ∧ Below u.heap.size u w') := fun u hb => by
    have := check_any t cap (hT.on hb) (hC.on hb) (by omega)
    rw [hn] at this
    exact this
  rw [checkE_no hq] at HCK
  have HL := Lib.hid (And.intro hL (And.intro hk hk8))
  have HNW : Hid (w.heap.size ≤ (newW w a b c e t ao n cap).heap.size) := by show _ ≤ _; simp; omega
  clear hc hT hC hL hnl hcf
  go_enter Tryz.func47, Tryz.ntmps47
  go_wp2_with (first
    | (go_at_call 86; refine (HBF.out _).mono ?_; rintro r u1 ⟨bw, Fw, rfl, q1, q2, q3⟩; have B1 := B0.out.alloc B0.out.size (.cells #[.int .i64 0, .int .i64 1, .int .i64 2, .int .i64 3, .int .i64 (3 + b), .int .i64 (3 + b + 3 * a)] 125); have B2 := Lib.hid (B1.trans (q3.mono B1.size)); obtain ⟨⟨x0, x1, x2, x3⟩, ⟨y0, y1, y2⟩, z0⟩ := newW_boxes B2.out; have HW1 := Lib.hid (And.intro q1 (Abv.mono q2 (B' := w.heap.size) (Nat.le_trans HNW.out B1.size))); clear q1 q2 q3 B1 z0)
    | (go_at_call 84; refine HP.out.mono ?_; rw [if_pos rfl]; rintro r u0 ⟨rfl, q⟩; obtain ⟨⟨x0, x1, x2, x3⟩, ⟨y0, y1, y2⟩, z0⟩ := newW_boxes q; have B0 := Lib.hid q; clear q HP z0))
  go_region_held (fun w' => w'.cell? ⟨w.heap.size, 0, none⟩ = some (.int .i64 a) ∧ w'.cell? ⟨w.heap.size, 2, none⟩ = some (.int .i64 c) ∧ w'.cell? ⟨w.heap.size + 1, 0, none⟩ = some (.int .i64 t)) (go_keep) (first
    | (go_at_call 87; refine (fNew_any 64 _).mono ?_; rintro r v2 ⟨bn, rfl, e2, s2, d2⟩; have P2 := parts_if (w := w) HNW.out B2.out HW1.out.1 HW1.out.2 (Same.drew _) I1.out.1 I1.out.2.1 I1.out.2.2 (Same.refl _) e2 s2 d2; obtain ⟨⟨x0, x1, x2, x3⟩, ⟨y0, y1, y2⟩, z0⟩ := newW_boxes P2.bl; have HZ := Lib.hid z0; have HPT := Lib.hid P2; clear e2 s2 d2 P2 z0)
    | (go_at_call 88; refine (iNew_any 16 _).mono ?_; rintro r v2 ⟨bc, rfl, e2, s2, d2⟩; have P2 := parts_fi (w := w) HNW.out B2.out HW1.out.1 HW1.out.2 (Same.drew _) J1.out.1 J1.out.2.1 J1.out.2.2 (Same.refl _) e2 s2 d2; obtain ⟨⟨x0, x1, x2, x3⟩, ⟨y0, y1, y2⟩, z0⟩ := newW_boxes P2.bl; have HZ := Lib.hid z0; have HPT := Lib.hid P2; clear e2 s2 d2 P2 z0)
    | (go_at_call 87; refine (fNew_any 64 _).mono ?_; rintro r v1 ⟨bn, rfl, e1, s1, d1⟩; have J1 := Lib.hid (And.intro e1 (And.intro s1 d1)); obtain ⟨⟨x0, x1, x2, x3⟩, ⟨y0, y1, y2⟩, z0⟩ := newW_boxes (B2.out.trans (((Same.drew _).below _).trans (d1.mono B2.out.size))); clear e1 s1 d1 z0)
    | (go_at_call 88; refine (iNew_any 16 _).mono ?_; rintro r v1 ⟨bc, rfl, e1, s1, d1⟩; have I1 := Lib.hid (And.intro e1 (And.intro s1 d1)); obtain ⟨⟨x0, x1, x2, x3⟩, ⟨y0, y1, y2⟩, z0⟩ := newW_boxes (B2.out.trans (((Same.drew _).below _).trans (d1.mono B2.out.size))); clear e1 s1 d1 z0))
  all_goals go_wp2_with (go_at_call 14; refine (HCK.out _ (HZ.out.alloc HZ.out.size _)).mono ?_; rintro r v3 ⟨rfl, d3⟩; have g3 := (HPT.out.mac HZ.out a c (t == 2)).on d3; obtain ⟨⟨x0, x1, x2, x3⟩, ⟨y0, y1, y2⟩, z0⟩ := newW_boxes ((HPT.out.bl.alloc HPT.out.bl.size _).trans (d3.mono (Nat.le_trans HPT.out.bl.size (by simp)))); have G1 := Lib.hid g3; clear d3 g3 z0)
  all_goals go_loopw [55] (fun vi wr => ∃ j : Nat, vi = .int .i64 j ∧ j ≤ k ∧ Hid (Gm w [] v2.heap.size [] wr { newM a c e t cs [] with args := argF (l.take j) })) (fun vi _ => k - (intOf vi).toNat)
  case atStart =>
    refine ⟨0, rfl, Nat.zero_le _, ?_⟩
    have e1 : argF (l.take 0) = fun _ => 0 := by funext q; exact argF_nil q
    rw [e1]
    unfold newM
    rw [hq]
    exact G1.out
  case round =>
    obtain ⟨j, rfl, hj, HG⟩ := hrel
    by_cases hlt : j < k
    · have hlt' : (j : Int) < (k : Int) := by omega
      have hj8 : (j : Int) < 8 := by omega
      obtain ⟨g, o, hpo, hg, hcell⟩ := (HL.out.1.on HG.out.fresh) j (by omega)
      subst hpo
      have HTK := Lib.hid (argF_take l (k := j) (by omega))
      generalize l.getD j 0 = y at hcell HTK
      obtain ⟨d0, d1, d2⟩ := HG.out.arg4 (j := j) (by omega)
      clear HCK HBF HPT HZ G1
      go_wp2
      refine region_tail 7 (by kernel_rfl) ?_
      simp only [List.take_succ_cons, List.take_zero, List.drop_succ_cons, List.drop_zero]
      repeat (first | still_step | still_call (fix_any y _))
      refine wpStill_nil ?_
      go_wp2
      refine ⟨⟨j + 1, by first | rfl | (congr 1), by omega, ?_⟩, by simp [intOf]; omega⟩
      have g6 := (arg_set HG.out (k := j) (by omega) (fixB y)).same (Same.drew _)
      rw [← HTK.out]
      exact g6
    · have hlt' : ¬ (j : Int) < (k : Int) := by omega
      have e : j = k := by omega
      subst e
      have HF : Hid (Gm w [] v2.heap.size [] wr (newM a c e t cs l)) := by
        have := HG.out
        rw [show l.take j = l by rw [← hk]; exact List.take_length] at this
        exact this
      clear HCK HBF HPT HZ G1
      go_wp2
      go_ret
      exact ⟨_, rfl, [], HF.out, fun k hk => by simp at hk⟩
end
end Go.Proofs.YtaliehikdidiaaaGreatDoor
