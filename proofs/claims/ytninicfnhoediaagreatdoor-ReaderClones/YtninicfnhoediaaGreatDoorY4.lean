import Derived.Test.YtninicfnhoediaaGreatDoorY3
import Derived.Shelf.SlMaps.Clone
namespace Go.Proofs.YtninicfnhoediaaGreatDoor
open Go.ChangeShapes Go.WideShapes Go.ChangeAt Go.RowKit Num Go.Maps
attribute [local go_sem] run_store_float frombits_run bits_run

/-! cells with numbers in a row of one's own -/
theorem tInfo : (Tryz.prog.info? 73).map (fun i => (i.zero, i.size, i.bytes)) = some (some (.agg #[.int .i64 0, .float .f64 0]), 2, 16) := by kernel_rfl
def tchC (t : Int × Nat) : List Value := [.int .i64 t.1, .float .f64 t.2]
theorem tch_len (l : Wr) : (l.flatMap tchC).length = l.length * 2 := by
  induction l with
  | nil => rfl
  | cons t l ih => rw [List.flatMap_cons, List.length_append, ih]; simp [tchC]; omega
theorem take_tch (l : Wr) (k : Nat) (h : k < l.length) : (l.take (k + 1)).flatMap tchC = (l.take k).flatMap tchC ++ [.int .i64 (l.getD k (0, 0)).1, .float .f64 (l.getD k (0, 0)).2] := by
  rw [List.take_succ_eq_append_getElem h, List.flatMap_append, show l.getD k (0, 0) = l[k] by simp [h]]
  simp [tchC]
theorem flat_pair (l : Wr) : ∀ k (h : k < l.length), (l.flatMap tchC)[k * 2]? = some (.int .i64 l[k].1) ∧ (l.flatMap tchC)[k * 2 + 1]? = some (.float .f64 l[k].2) := by
  induction l with
  | nil => intro k h; exact absurd h (Nat.not_lt_zero k)
  | cons t l ih =>
    intro k h
    cases k with
    | zero => simp [tchC]
    | succ k =>
      have := ih k (by simpa using h)
      rw [List.flatMap_cons]
      have e : (k + 1) * 2 = (tchC t).length + k * 2 := by simp [tchC]; omega
      rw [e, List.getElem?_append_right (by omega), Nat.add_assoc, List.getElem?_append_right (by omega)]
      simpa using this
/-- a list of cells with numbers, in a row of one's own -/
structure TRow (w : World) (p : Option Addr) (c : Nat) (l : Wr) : Prop where
  own : w.ownsRow 0 73 2 (.slice p l.length c) l.length (l.flatMap tchC)
theorem TRow.blw {w : World} {p : Option Addr} {c : Nat} {l : Wr} (h : TRow w p c l) : Blw w (fpR p) := fun k hk => (h.own.lt k (own_fpR.1 hk)).2
theorem TRow.keep {w w' : World} {p : Option Addr} {c : Nat} {l : Wr} (h : TRow w p c l) (k : Kept (fpR p) w w') : TRow w' p c l := by
  refine ⟨h.own.1, ?_⟩
  rcases h.own.2 with q | ⟨g, cap, cur, hv, hb, hg, rest⟩
  · exact .inl q
  · refine .inr ⟨g, cap, cur, hv, hb, ?_, rest⟩
    rw [k.2 g (own_fpR.2 (by rw [hv]; rfl))]
    exact hg
theorem TRow.on {w w' : World} {p : Option Addr} {c : Nat} {l : Wr} (h : TRow w p c l) (k : Below w.heap.size w w') : TRow w' p c l := h.keep (kept_below k h.blw)
theorem TRow.turn {w w' : World} {p : Option Addr} {c : Nat} {l : Wr} {G G' : List Nat} (h : TRow w p c l) (k : Turn G G' w w') (s : Sep (fpR p) G) : TRow w' p c l := h.keep (k.kept s h.blw)
theorem TRow.same {w w' : World} {p : Option Addr} {c : Nat} {l : Wr} (h : TRow w p c l) (k : Same w w') : TRow w' p c l := h.keep (k.kept _)
/-- one of them -/
theorem TRow.at {w : World} {p : Option Addr} {c : Nat} {l : Wr} (h : TRow w p c l) (i : Nat) (hi : i < l.length) : ∃ g, p = some ⟨g, 0, none⟩ ∧ g < w.heap.size ∧ w.cell? ⟨g, i * 2, none⟩ = some (.int .i64 l[i].1) ∧ w.cell? ⟨g, i * 2 + 1, none⟩ = some (.float .f64 l[i].2) ∧ ∀ j, w.frozen? ⟨g, j, none⟩ = false := by
  rcases h.own.2 with ⟨_, q⟩ | ⟨g, cap', cur, hv, hB, hg, _, _, _, ht⟩
  · omega
  · cases hv
    have e : ∀ j, j < l.length * 2 → cur[j]? = (l.flatMap tchC)[j]? := fun j hj => by
      have h1 : cur.toList[j]? = (cur.toList.take (l.length * 2))[j]? := by
        rw [List.getElem?_take, if_pos (by omega)]
      rw [ht] at h1
      simpa using h1
    have q := flat_pair l i hi
    refine ⟨g, rfl, lt_of_block hg, ?_, ?_, fun j => frozen_of_row w g j _ _ hg⟩
    · rw [cell_of_row w g _ _ _ _ hg, e _ (by omega)]; exact q.1
    · rw [cell_of_row w g _ _ _ _ hg, e _ (by omega)]; exact q.2
theorem owns_slice2 {B : Nat} {E : TypeId} {w : World} {v : Value} {n s : Nat} {xs : List Value} (h : w.ownsRow B E s v n xs) : ∃ p c, v = .slice p n c ∧ Abv B (fpR p) := by
  rcases h.2 with ⟨rfl, h0⟩ | ⟨g, cap, cur, rfl, hB, _⟩
  · exact ⟨none, 0, by rw [h0], fun k hk => by simp [fpR] at hk⟩
  · exact ⟨some ⟨g, 0, none⟩, cap, rfl, fun k hk => by simp [fpR] at hk; omega⟩
theorem owns_zero {B : Nat} {E : TypeId} {w : World} {v : Value} {n s : Nat} {xs : List Value} (h : w.ownsRow B E s v n xs) : w.ownsRow 0 E s v n xs :=
  ⟨h.1, h.2.imp id (fun ⟨g, cap, cur, a1, _, a3⟩ => ⟨g, cap, cur, a1, Nat.zero_le _, a3⟩)⟩
theorem owns_heap {B : Nat} {E : TypeId} {s : Nat} {w w' : World} {v : Value} {n : Nat} {xs : List Value} (h : w.ownsRow B E s v n xs) (e : w'.heap = w.heap) : w'.ownsRow B E s v n xs := by
  refine ⟨h.1, ?_⟩
  rcases h.2 with q | ⟨g, cap, cur, hv, hB, hg, rest⟩
  · exact .inl q
  · exact .inr ⟨g, cap, cur, hv, hB, by rw [e]; exact hg, rest⟩
theorem abv_new (w : World) : Abv w.heap.size (fpR (some ⟨w.heap.size, 0, none⟩)) := fun k hk => by simp [fpR] at hk; omega

/-! slices.Clone, maps.Clone -/
set_option maxRecDepth 100000 in
theorem cloneI_any {w : World} {p : Option Addr} {c n : Nat} {xs : List Value} (h : RowAt 3 w p c xs) (hn : xs.length = n) (h1 : ∀ u ∈ xs, u.oneCell' = true) (hz : n ≤ 32) : Calls Tryz.prog 175 #[.slice p n c] w fun e w' => ∃ p' c', e = .returned (.slice p' n c') ∧ RowAt 3 w' p' c' xs ∧ Abv w.heap.size (fpR p') ∧ Below w.heap.size w w' := by
  have ho := h.own
  rcases ho.2 with ⟨hv, h0⟩ | ⟨g, cap, cur, hv, _, hg, _⟩
  · have hx : xs = [] := List.eq_nil_of_length_eq_zero h0
    subst hx
    cases hv
    have hn0 : n = 0 := by rw [← hn]; rfl
    subst hn0
    have hq := fun w => Lib.run_eql_slice_nil (P := Tryz.prog) w 114 3 none 0 0 0 0 Tryz.underlying114
    have HH := Lib.hid h
    clear h h1 hn ho hz
    go_enter Tryz.func175, Tryz.ntmps175
    go_wp2
    go_ret
    exact ⟨_, _, rfl, HH.out, by intro k hk; simp [fpR] at hk, Below.refl _ _⟩
  · cases hv
    rw [hn] at ho
    have hq := fun w c => Lib.run_eql_slice_nil (P := Tryz.prog) w 114 3 (some ⟨g, 0, none⟩) n c 0 0 Tryz.underlying114
    have HX : Hid (∀ j u, xs[j]? = some u → (w.alloc (.cells #[] 3)).cell? ((⟨g, 0, none⟩ : Addr).add j) = some u) := fun j u hj => World.ownsRow.cells (ho.alloc _) (g := g) rfl j u hj
    have H1 := Lib.hid (And.intro h1 (And.intro hn hz))
    have HO : Hid ((w.alloc (.cells #[] 3)).ownsRow w.heap.size 3 1 (.slice (some ⟨w.heap.size, 0, none⟩) 0 0) 0 []) := World.ownsRow_lit w #[] 0 (Nat.le_refl _) (Nat.zero_le _) (by simp)
    obtain ⟨i0, hi, hz0, hz1, hz2⟩ := info_parts iInfo
    have HZI := Lib.hid (And.intro hi (And.intro hz0 (And.intro hz1 hz2)))
    clear hi hz0 hz1 hz2 h h1 ho hg hz
    go_enter Tryz.func175, Tryz.ntmps175
    go_wp2_with (at_builtin; refine wpList_append_own_at _ rfl _ _ 114 rfl w.heap.size 3 i0 (.int .i64 0) 1 8 Tryz.underlying114 HZI.out.1 HZI.out.2.1 HZI.out.2.2.1 HZI.out.2.2.2 rfl (by decide) _ 0 [] rfl HO.out ⟨g, 0, none⟩ n _ xs rfl (by rw [H1.out.2.1, Nat.mul_one]) HX.out H1.out.1 (by have := H1.out.2.2; unfold maxLen; omega) (by have := H1.out.2.2; omega) (by simp) ?_; intro v w3 hown hgrow hnil hloc; have HS := Lib.hid (And.intro hown hgrow); clear hown hgrow hnil hloc)
    have ho3 := HS.out.1
    rw [List.nil_append, Nat.zero_add] at ho3
    obtain ⟨p', c', hv, hr, ha⟩ := ownsRow_based ho3
    subst hv
    have hb3 : Below w.heap.size w w3 := (below_alloc w _).grown HS.out.2 (by simp) (fun j hj => by
      have := hj
      simp [Act.eval, Value.ownBlock] at this
      omega)
    have HF := Lib.hid (And.intro hr (And.intro ha hb3))
    have hl := H1.out.2.1
    rw [hl]
    clear ho3 hr ha hb3 HS H1
    go_wp2
    go_ret
    exact ⟨_, _, rfl, HF.out.1, HF.out.2.1, HF.out.2.2⟩
end Go.Proofs.YtninicfnhoediaaGreatDoor
