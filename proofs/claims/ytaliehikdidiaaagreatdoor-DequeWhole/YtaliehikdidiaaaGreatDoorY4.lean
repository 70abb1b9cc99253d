import Derived.Test.YtaliehikdidiaaaGreatDoorY3
import Derived.Shelf.SlMaps.Clone
namespace Go.Proofs.YtaliehikdidiaaaGreatDoor
open Go.ChangeShapes Go.WideShapes Go.ChangeAt Go.RowKit Num Go.Maps
attribute [local go_sem] run_store_float frombits_run bits_run

/-! cells with numbers in a row of one's own -/
theorem tInfo : (Tryz.prog.info? 123).map (fun i => (i.zero, i.size, i.bytes)) = some (some (.agg #[.int .i64 0, .float .f64 0]), 2, 16) := by kernel_rfl
def tchC (t : Int × Nat) : List Value := [.int .i64 t.1, .float .f64 t.2]
theorem tch_len (l : Wr) : (l.flatMap tchC).length = l.length * 2 := by
  induction l with
  | nil => rfl
  | cons t l ih => rw [List.flatMap_cons, List.length_append, ih]; simp [tchC]; omega
theorem take_tch (l : Wr) (k : Nat) (h : k < l.length) : (l.take (k + 1)).flatMap tchC = (l.take k).flatMap tchC ++ [.int .i64 (l.getD k (0, 0)).1, .float .f64 (l.getD k (0, 0)).2] := by
  rw [List.take_succ_eq_append_getElem h, List.flatMap_append, show l.getD k (0, 0) = l[k] by simp [h]]
  simp [tchC]
theorem flat_pair (l : Wr) : ∀ k (h : k < l.length), (l.flatMap tchC)[k * 2]? = some (.int .i64 l[k].1) ∧ (l.flatMap tchC)[k * 2 + 1]? = some (.float .f64 l[k].2) := by
  induction l with
  | nil => intro k h; exact absurd h (Nat.not_lt_zero k)
  | cons t l ih =>
    intro k h
    cases k with
    | zero => simp [tchC]
    | succ k =>
      have := ih k (by simpa using h)
      rw [List.flatMap_cons]
      have e : (k + 1) * 2 = (tchC t).length + k * 2 := by simp [tchC]; omega
      rw [e, List.getElem?_append_right (by omega), Nat.add_assoc, List.getElem?_append_right (by omega)]
      simpa using this
/-- a list of cells with numbers, in a row of one's own -/
structure TRow (w : World) (p : Option Addr) (c : Nat) (l : Wr) : Prop where
  own : w.ownsRow 0 123 2 (.slice p l.length c) l.length (l.flatMap tchC)
theorem TRow.blw {w : World} {p : Option Addr} {c : Nat} {l : Wr} (h : TRow w p c l) : Blw w (fpR p) := fun k hk => (h.own.lt k (own_fpR.1 hk)).2
theorem TRow.keep {w w' : World} {p : Option Addr} {c : Nat} {l : Wr} (h : TRow w p c l) (k : Kept (fpR p) w w') : TRow w' p c l := by
  refine ⟨h.own.1, ?_⟩
  rcases h.own.2 with q | ⟨g, cap, cur, hv, hb, hg, rest⟩
  · exact .inl q
  · refine .inr ⟨g, cap, cur, hv, hb, ?_, rest⟩
    rw [k.2 g (own_fpR.2 (by rw [hv]; rfl))]
    exact hg
theorem TRow.on {w w' : World} {p : Option Addr} {c : Nat} {l : Wr} (h : TRow w p c l) (k : Below w.heap.size w w') : TRow w' p c l := h.keep (kept_below k h.blw)
theorem TRow.turn {w w' : World} {p : Option Addr} {c : Nat} {l : Wr} {G G' : List Nat} (h : TRow w p c l) (k : Turn G G' w w') (s : Sep (fpR p) G) : TRow w' p c l := h.keep (k.kept s h.blw)
theorem TRow.same {w w' : World} {p : Option Addr} {c : Nat} {l : Wr} (h : TRow w p c l) (k : Same w w') : TRow w' p c l := h.keep (k.kept _)
/-- one of them -/
theorem TRow.at {w : World} {p : Option Addr} {c : Nat} {l : Wr} (h : TRow w p c l) (i : Nat) (hi : i < l.length) : ∃ g, p = some ⟨g, 0, none⟩ ∧ g < w.heap.size ∧ w.cell? ⟨g, i * 2, none⟩ = some (.int .i64 l[i].1) ∧ w.cell? ⟨g, i * 2 + 1, none⟩ = some (.float .f64 l[i].2) ∧ ∀ j, w.frozen? ⟨g, j, none⟩ = false := by
  rcases h.own.2 with ⟨_, q⟩ | ⟨g, cap', cur, hv, hB, hg, _, _, _, ht⟩
  · omega
  · cases hv
    have e : ∀ j, j < l.length * 2 → cur[j]? = (l.flatMap tchC)[j]? := fun j hj => by
      have h1 : cur.toList[j]? = (cur.toList.take (l.length * 2))[j]? := by
        rw [List.getElem?_take, if_pos (by omega)]
      rw [ht] at h1
      simpa using h1
    have q := flat_pair l i hi
    refine ⟨g, rfl, lt_of_block hg, ?_, ?_, fun j => frozen_of_row w g j _ _ hg⟩
    · rw [cell_of_row w g _ _ _ _ hg, e _ (by omega)]; exact q.1
    · rw [cell_of_row w g _ _ _ _ hg, e _ (by omega)]; exact q.2
theorem owns_slice2 {B : Nat} {E : TypeId} {w : World} {v : Value} {n s : Nat} {xs : List Value} (h : w.ownsRow B E s v n xs) : ∃ p c, v = .slice p n c ∧ Abv B (fpR p) := by
  rcases h.2 with ⟨rfl, h0⟩ | ⟨g, cap, cur, rfl, hB, _⟩
  · exact ⟨none, 0, by rw [h0], fun k hk => by simp [fpR] at hk⟩
  · exact ⟨some ⟨g, 0, none⟩, cap, rfl, fun k hk => by simp [fpR] at hk; omega⟩
theorem owns_zero {B : Nat} {E : TypeId} {w : World} {v : Value} {n s : Nat} {xs : List Value} (h : w.ownsRow B E s v n xs) : w.ownsRow 0 E s v n xs :=
  ⟨h.1, h.2.imp id (fun ⟨g, cap, cur, a1, _, a3⟩ => ⟨g, cap, cur, a1, Nat.zero_le _, a3⟩)⟩
theorem owns_heap {B : Nat} {E : TypeId} {s : Nat} {w w' : World} {v : Value} {n : Nat} {xs : List Value} (h : w.ownsRow B E s v n xs) (e : w'.heap = w.heap) : w'.ownsRow B E s v n xs := by
  refine ⟨h.1, ?_⟩
  rcases h.2 with q | ⟨g, cap, cur, hv, hB, hg, rest⟩
  · exact .inl q
  · exact .inr ⟨g, cap, cur, hv, hB, by rw [e]; exact hg, rest⟩
theorem abv_new (w : World) : Abv w.heap.size (fpR (some ⟨w.heap.size, 0, none⟩)) := fun k hk => by simp [fpR] at hk; omega

/-! slices.Clone, maps.Clone -/
end Go.Proofs.YtaliehikdidiaaaGreatDoor
