import Derived.Test.YtahcppoeooadhaaX9
import Derived.Deep.RegionLaw
namespace Go.Proofs.Ytahcppoeooadhaa
open Go.ChangeShapes Go.WideShapes Go.ChangeAt Go.RowKit Num
attribute [local go_sem] run_store_float frombits_run bits_run

theorem tInfo : (Try.prog.info? 75).map (fun i => (i.zero, i.size, i.bytes)) = some (some (.agg #[.int .i64 0, .float .f64 0]), 2, 16) := by kernel_rfl
def tchC (t : Int × Nat) : List Value := [.int .i64 t.1, .float .f64 t.2]
theorem take_tch (l : List (Int × Nat)) (k : Nat) (h : k < l.length) : (l.take (k + 1)).flatMap tchC = (l.take k).flatMap tchC ++ [.int .i64 (l.getD k (0, 0)).1, .float .f64 (l.getD k (0, 0)).2] := by
  rw [List.take_succ_eq_append_getElem h, List.flatMap_append, show l.getD k (0, 0) = l[k] by simp [h]]
  simp [tchC]
theorem owns_heap {B : Nat} {E : TypeId} {s : Nat} {w w' : World} {v : Value} {n : Nat} {xs : List Value} (h : w.ownsRow B E s v n xs) (e : w'.heap = w.heap) : w'.ownsRow B E s v n xs := by
  refine ⟨h.1, ?_⟩
  rcases h.2 with q | ⟨g, cap, cur, hv, hB, hg, rest⟩
  · exact .inl q
  · exact .inr ⟨g, cap, cur, hv, hB, by rw [e]; exact hg, rest⟩
theorem flat_pair (l : List (Int × Nat)) : ∀ k (h : k < l.length), (l.flatMap tchC)[k * 2]? = some (.int .i64 l[k].1) ∧ (l.flatMap tchC)[k * 2 + 1]? = some (.float .f64 l[k].2) := by
  induction l with
  | nil => intro k h; exact absurd h (Nat.not_lt_zero k)
  | cons t l ih =>
    intro k h
    cases k with
    | zero => simp [tchC]
    | succ k =>
      have := ih k (by simpa using h)
      rw [List.flatMap_cons]
      have e : (k + 1) * 2 = (tchC t).length + k * 2 := by simp [tchC]; omega
      rw [e, List.getElem?_append_right (by omega), Nat.add_assoc, List.getElem?_append_right (by omega)]
      simpa using this
theorem tch_row {B : Nat} {w : World} {p : Option Addr} {c : Nat} {l : List (Int × Nat)} (h : w.ownsRow B 75 2 (.slice p l.length c) l.length (l.flatMap tchC)) : TchAt w p l := by
  intro i hi
  rcases h.2 with ⟨_, q⟩ | ⟨g, cap', cur, hv, hB, hg, _, _, _, ht⟩
  · omega
  · cases hv
    have e : ∀ j, j < l.length * 2 → cur[j]? = (l.flatMap tchC)[j]? := fun j hj => by
      have h1 : cur.toList[j]? = (cur.toList.take (l.length * 2))[j]? := by
        rw [List.getElem?_take, if_pos (by omega)]
      rw [ht] at h1
      simpa using h1
    have q := flat_pair l i hi
    refine ⟨g, rfl, lt_of_block hg, ?_, ?_⟩
    · rw [cell_of_row w g _ _ _ _ hg, e _ (by omega)]; exact q.1
    · rw [cell_of_row w g _ _ _ _ hg, e _ (by omega)]; exact q.2
theorem owns_slice2 {B : Nat} {E : TypeId} {w : World} {v : Value} {n s : Nat} {xs : List Value} (h : w.ownsRow B E s v n xs) : ∃ p c, v = .slice p n c ∧ Abv B (fpR p) := by
  rcases h.2 with ⟨rfl, h0⟩ | ⟨g, cap, cur, rfl, hB, _⟩
  · exact ⟨none, 0, by rw [h0], fun k hk => by simp [fpR] at hk⟩
  · exact ⟨some ⟨g, 0, none⟩, cap, rfl, fun k hk => by simp [fpR] at hk; omega⟩
section
variable {w : World} {p : Option Addr} {n cap : Nat}
set_option maxHeartbeats 2000000 in
set_option maxRecDepth 100000 in
theorem touches_any' {l : List (Int × Nat)} (h : PutsAt w p l) (hn : l.length = n) (hz : n * 16 ≤ reachBytes) : Calls Try.prog 39 #[.slice p n cap] w fun e w' => ∃ q c, e = .returned (.slice q n c) ∧ TchAt w' q l ∧ Abv w.heap.size (fpR q) ∧ Below w.heap.size w w' := by
  have hz' : n * 16 ≤ 140737488351232 := hz
  have HX : Hid (∀ wr, Below w.heap.size w wr → ∀ k, k < n → ∃ g o, p = some ⟨g, o, none⟩ ∧ g < wr.heap.size ∧ wr.cell? ⟨g, o + k * 2, none⟩ = some (.int .i64 (l.getD k (0, 0)).1) ∧ wr.cell? ⟨g, o + k * 2 + 1, none⟩ = some (.int .u64 (((l.getD k (0, 0)).2 : Nat) : Int))) := fun wr hb k hk => (h.on hb) k (by omega)
  have HT : Hid (∀ k, k < n → (l.take (k + 1)).flatMap tchC = (l.take k).flatMap tchC ++ [.int .i64 (l.getD k (0, 0)).1, .float .f64 (l.getD k (0, 0)).2]) := fun k hk => take_tch l k (by omega)
  have HE : Hid (l.take n = l) := by show _ = _; rw [← hn, List.take_length]
  have HLN : Hid (l.length = n) := hn
  obtain ⟨i0, hi, hz0, hz1, hz2⟩ := info_parts tInfo
  have HZI := Lib.hid (And.intro hi (And.intro hz0 (And.intro hz1 hz2)))
  clear hi hz0 hz1 hz2 hn h hz
  go_enter Try.func39, Try.ntmps39
  go_wp2
  go_loopw [3, 4] (fun v vi wr => ∃ k : Nat, vi = .int .i64 k ∧ k ≤ n ∧ Hid (wr.ownsRow w.heap.size 75 2 v k ((l.take k).flatMap tchC)) ∧ Hid (Below w.heap.size w wr)) (fun _ vi _ => n - (intOf vi).toNat)
  case atStart => exact ⟨0, rfl, Nat.zero_le _, ⟨by simp, .inl ⟨rfl, rfl⟩⟩, Below.refl _ _⟩
  case round =>
    obtain ⟨k, rfl, hk, HO, HB⟩ := hrel
    by_cases hlt : k < n
    · have hlt' : (k : Int) < (n : Int) := by omega
      obtain ⟨g, o, hpg, hg, hx, hy⟩ := HX.out _ HB.out k hlt
      subst hpg
      have HTK := Lib.hid (HT.out k hlt)
      generalize (l.getD k (0, 0)).1 = x at hx HTK
      generalize (l.getD k (0, 0)).2 = y at hy HTK
      have HS : Hid (w.heap.size ≤ wr.heap.size) := HB.out.size
      have HOA := Lib.hid (fun (u : World) (e : u.heap = (wr.alloc (.cells #[.int .i64 x, .float .f64 y] 75)).heap) => owns_heap (World.ownsRow.alloc HO.out (.cells #[.int .i64 x, .float .f64 y] 75)) e)
      have HBX : Hid (∀ u : World, u.heap = (wr.alloc (.cells #[.int .i64 x, .float .f64 y] 75)).heap → u.os = wr.os → u.tape = wr.tape → u.output = wr.output → Below w.heap.size w u) := fun u e1 e2 e3 e4 => HB.out.trans ⟨e2, e3, e4, by rw [e1]; simp, fun j hj => by rw [e1]; exact Below.heap_alloc _ _ _ (Nat.lt_of_lt_of_le hj HB.out.size)⟩
      clear HX HT
      go_wp2
      go_region_law (first
        | (go_simp; go_at_call 19; refine (raw6_any _ _).mono ?_; rintro e w' ⟨rfl, hw⟩; subst w')
        | (refine step_append_lies _ (by rfl) _ _ _ (by rfl) w.heap.size 75 i0 _ 2 16 Try.underlying68 HZI.out.1 HZI.out.2.1 HZI.out.2.2.1 HZI.out.2.2.2 rfl (by omega) _ k ((l.take k).flatMap tchC) (by rfl) (HOA.out _ (by rfl)) ⟨wr.heap.size, 0, none⟩ 1 1 [.int .i64 x, .float .f64 y] (by rfl) (by rfl) (World.news_of_block (cs := #[.int .i64 x, .float .f64 y]) (t := 75) (fr := (0, 0)) (heap_alloc_new wr _)) (by simp [Value.oneCell']) (by omega) (by unfold maxLen; omega) (by omega) (by have := HS.out; simp; omega) (wr.heap.size + 1) (by simp) ?_; intro g5 cap5 w5 hown5 hgrow5 hat5 hlt5; have HN5 := Lib.hid (And.intro hown5 hgrow5); clear hown5 hgrow5 hat5 hlt5))
      all_goals go_wp2
      all_goals exact ⟨⟨k + 1, by first | rfl | (congr 1), by omega, by rw [HTK.out]; exact HN5.out.1, (HBX.out (wr.alloc (.cells #[.int .i64 x, .float .f64 y] 75)).drew rfl rfl rfl rfl).grown HN5.out.2 (HBX.out (wr.alloc (.cells #[.int .i64 x, .float .f64 y] 75)).drew rfl rfl rfl rfl).size (fun j hj => (World.ownsRow.lt HO.out j hj).1)⟩, by simp [intOf]; omega⟩
    · have hlt' : ¬ (k : Int) < (n : Int) := by omega
      have e : k = n := by omega
      subst e
      have h0 := HO.out
      rw [HE.out] at h0
      obtain ⟨q, c, hv, ha⟩ := owns_slice2 h0
      subst hv
      have HF : Hid (TchAt wr q l ∧ Abv w.heap.size (fpR q)) := ⟨tch_row (by rw [HLN.out]; exact h0), ha⟩
      clear h0 HO hlt ha HX HT
      go_wp2
      go_ret
      exact ⟨q, ⟨c, rfl⟩, HF.out.1, HF.out.2, HB.out⟩
theorem touches_any {l : List (Int × Nat)} (h : PutsAt w p l) (hz : l.length * 16 ≤ reachBytes) : Calls Try.prog 39 #[.slice p l.length cap] w fun e w' => ∃ q c, e = .returned (.slice q l.length c) ∧ TchAt w' q l ∧ Abv w.heap.size (fpR q) ∧ Below w.heap.size w w' := touches_any' h rfl hz
end
end Go.Proofs.Ytahcppoeooadhaa
