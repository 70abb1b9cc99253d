import Derived.Test.YtdfmmolhfacahaaM7
import Derived.Deep.QuietTactic
import Derived.BigQuiet
namespace Go.Proofs.Ytdfmmolhfacahaa
open Go.ChangeShapes Go.WideShapes Go.ChangeAt Go.RowKit

theorem cell_two_new (w : World) (x y : Value) (t : TypeId) : ∀ j u, [x, y][j]? = some u → (w.alloc (.cells #[x, y] t)).cell? ((⟨w.heap.size, 0, none⟩ : Addr).add j) = some u := by
  intro j u hj
  match j, hj with
  | 0, hj => simp at hj; subst hj; simp [Addr.add]
  | 1, hj => simp at hj; subst hj; simp [Addr.add]
theorem RowAt.owns {w : World} {g B : Nat} {ws : List Int} (h : RowAt w g ws) (hB : B ≤ g) (hn : ws.length ≤ 4096) : w.ownsRow B 30 1 (.slice (some ⟨g, 0, none⟩) ws.length ws.length) ws.length (u64s ws) :=
  ⟨by rw [u64s_len, Nat.mul_one], .inr ⟨g, ws.length, (u64s ws).toArray, rfl, hB, h, Nat.le_refl _, by unfold maxLen; omega, by simp [u64s_len], by rw [Nat.mul_one, ← u64s_len, List.take_length]⟩⟩
theorem take_one (ws : List Int) (k : Nat) (h : k < ws.length) : u64s (ws.take (k + 1)) = u64s (ws.take k) ++ [.int .u64 ws[k]] := by
  unfold u64s
  rw [List.take_succ_eq_append_getElem h, List.map_append]
  rfl
set_option maxHeartbeats 2000000 in
set_option maxRecDepth 100000 in
theorem refAll_any {w : World} {b g : Nat} {ws : List Int} {o : Bool} {c : Int} (h : MemAt 86 w b g ws o c) : Calls Try.prog 22 #[.pointer (some ⟨b, 0, none⟩)] w fun e w' => ∃ gv cv, e = .returned (.slice (some ⟨gv, 0, none⟩) ws.length cv) ∧ w'.ownsRow w.heap.size 30 1 (.slice (some ⟨gv, 0, none⟩) ws.length cv) ws.length (u64s ws) ∧ Below w.heap.size w w' := by
  have HM := Lib.hid h
  have hn := h.many
  have HN := Lib.hid h.some'
  have hb := h.ltB
  clear h
  obtain ⟨n, hnn⟩ : ∃ n, n = ws.length := ⟨_, rfl⟩
  rw [← hnn] at hn HN ⊢
  have HNN := Lib.hid hnn
  clear hnn
  obtain ⟨i0, hi, hz0, hz1, hz2⟩ := info_parts wordInfo
  have HZI := Lib.hid (And.intro hi (And.intro hz0 (And.intro hz1 hz2)))
  clear hi hz0 hz1 hz2
  go_enter Try.func22, Try.ntmps22
  go_wp2
  go_loopw [3, 4] (fun v vi wr => ∃ k : Nat, vi = .int .i64 k ∧ k ≤ n ∧ Hid (wr.ownsRow w.heap.size 30 1 v k (u64s (ws.take k))) ∧ Hid (Below w.heap.size w wr)) (fun _ vi _ => n - (intOf vi).toNat)
  case atStart => exact ⟨0, rfl, Nat.zero_le _, World.ownsRow_nil _ _ _ _, Below.refl _ _⟩
  case round =>
    obtain ⟨k, rfl, hk, HO, HB⟩ := hrel
    have q0 : wr.cell? ⟨b, 0, none⟩ = some (.slice (some ⟨g, 0, none⟩) n n) := by
      rw [HB.out.cell (p := ⟨b, 0, none⟩) hb, HM.out.cell0, ← HNN.out]
    by_cases hlt : k < n
    · have hlt' : (k : Int) < (n : Int) := by omega
      have hkw : k < ws.length := by rw [← HNN.out]; exact hlt
      have q1 : wr.cell? ⟨g, k, none⟩ = some (.int .u64 ws[k]) := by
        rw [HB.out.cell (p := ⟨g, k, none⟩) HM.out.ltG, HM.out.word hkw]
      have HT := Lib.hid (take_one ws k hkw)
      obtain ⟨x, hx⟩ : ∃ x, x = ws[k] := ⟨_, rfl⟩
      rw [← hx] at q1 HT
      clear hx
      have HS : Hid (w.heap.size ≤ wr.heap.size) := HB.out.size
      go_wp2_with (at_builtin; refine wpList_append_own _ rfl _ _ 53 rfl w.heap.size 30 i0 (.int .u64 0) 1 8 Try.underlying53 HZI.out.1 HZI.out.2.1 HZI.out.2.2.1 HZI.out.2.2.2 rfl (by decide) _ k _ rfl (World.ownsRow.alloc HO.out _) ⟨wr.heap.size, 0, none⟩ 1 1 [.int .u64 x] rfl rfl (cell_one_new _ _ _) (fun u hu => by simp at hu; subst hu; rfl) (by unfold maxLen; omega) (by omega) (by have := HS.out; simp; omega) ?_; intro v3 w3 hown3 hgrow3 hnil3; replace hown3 := Lib.hid hown3; replace hgrow3 := Lib.hid hgrow3; clear hnil3)
      have HF : Hid (w3.ownsRow w.heap.size 30 1 v3 (k + 1) (u64s (ws.take (k + 1)))) := by
        show w3.ownsRow _ _ _ _ _ _
        rw [HT.out]
        exact hown3.out
      have HG : Hid (Below w.heap.size w w3) := (HB.out.alloc HB.out.size _).grown hgrow3.out (Nat.le_trans HS.out (by simp)) (fun j hj => (World.ownsRow.lt HO.out j hj).1)
      exact ⟨⟨k + 1, by first | rfl | (congr 1), by omega, HF, HG⟩, by simp [intOf]; omega⟩
    · have hlt' : ¬ (k : Int) < (n : Int) := by omega
      have e : k = n := by omega
      subst e
      have h0 := HO.out
      rw [HNN.out, List.take_length, ← HNN.out] at h0
      rcases h0.2 with ⟨_, q⟩ | ⟨gv, cv, _, hv, _⟩
      · exact absurd HN.out (by omega)
      · subst hv
        have HF := Lib.hid h0
        clear h0 HO hlt
        go_wp2
        go_ret
        exact ⟨gv, cv, rfl, HF.out, HB.out⟩
theorem drewN_below (w : World) (k : Nat) : Below w.heap.size w (w.drewN k) := ⟨rfl, rfl, rfl, Nat.le_refl _, fun _ _ => rfl⟩
set_option maxHeartbeats 2000000 in
set_option maxRecDepth 100000 in
/-- two lists of the same words -/
theorem words_cells (n ga gb ca cb : Nat) (x : Nat → Int) (w : World) (hn : n ≤ 4096) (ha : ∀ i, i < n → w.cell? ⟨ga, i, none⟩ = some (.int .u64 (x i))) (hb : ∀ i, i < n → w.cell? ⟨gb, i, none⟩ = some (.int .u64 (x i))) :
    Calls Try.prog 23 #[.slice (some ⟨ga, 0, none⟩) n ca, .slice (some ⟨gb, 0, none⟩) n cb] w fun e w' => e = .returned (.bool true) ∧ Below w.heap.size w w' := by
  have HA := Lib.hid ha
  have HB := Lib.hid hb
  clear ha hb
  go_enter Try.func23, Try.ntmps23
  go_wp2
  go_loopw [5] (fun vi wr => ∃ (i k : Nat), vi = .int .i64 i ∧ wr = w.drewN k ∧ i ≤ n) (fun vi _ => n - (intOf vi).toNat)
  case atStart => exact ⟨0, 0, rfl, by rw [World.drewN_zero], Nat.zero_le _⟩
  case round =>
    obtain ⟨i, k, rfl, rfl, hi⟩ := hrel
    by_cases hlt : i < n
    · have hlt' : (i : Int) < (n : Int) := by omega
      have hca := HA.out i hlt
      have hcb := HB.out i hlt
      generalize x i = y at hca hcb
      go_wp2
      go_quiet (fail)
      go_wp2
      exact ⟨⟨i + 1, _, by first | rfl | (congr 1), rfl, by omega⟩, by simp [intOf]; omega⟩
    · have hlt' : ¬ (i : Int) < (n : Int) := by omega
      go_wp2
      go_ret
      exact ⟨rfl, drewN_below _ _⟩
end Go.Proofs.Ytdfmmolhfacahaa
