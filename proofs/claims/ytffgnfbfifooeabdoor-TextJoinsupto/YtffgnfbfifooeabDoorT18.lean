import Derived.Test.YtffgnfbfifooeabDoorT17
import Derived.Deep.RegionHeld
import Derived.Deep.QuietTactic
import Derived.BigQuiet
namespace Go.Proofs.YtffgnfbfifooeabDoor
open Go.ChangeShapes Go.WideShapes Go.ChangeAt Go.RowKit Num

theorem below_drewN (w : World) (k : Nat) : Below w.heap.size w (w.drewN k) := ⟨rfl, rfl, rfl, Nat.le_refl _, fun _ _ => rfl⟩
/-- how a list lies -/
theorem Lst.shape {B : Nat} {w : World} {v : Value} {ls : List (List UInt8)} (h : Lst B w v ls) : (v = .slice none 0 0 ∧ ls = []) ∨ ∃ g cap, v = .slice (some ⟨g, 0, none⟩) ls.length cap ∧ B ≤ g ∧ g < w.heap.size ∧ ls.length ≤ cap ∧ ∀ j (hj : j < ls.length), w.cell? ⟨g, j, none⟩ = some (strV ls[j]) := by
  have h0 := h
  rcases h.2 with ⟨e, hn⟩ | ⟨g, cap, cur, e, hb, hg, hc, hm, hs, ht⟩
  · exact .inl ⟨e, List.eq_nil_of_length_eq_zero hn⟩
  · refine .inr ⟨g, cap, e, hb, (Array.getElem?_eq_some_iff.1 hg).1, hc, fun j hj => ?_⟩
    have := World.ownsRow.cells h0 (g := g) (by rw [e]; rfl) j (strV ls[j]) (by rw [List.getElem?_map, List.getElem?_eq_getElem hj]; rfl)
    rw [Lib.add_plain, Nat.zero_add] at this
    exact this

set_option maxHeartbeats 2000000 in
set_option maxRecDepth 100000 in
theorem same_cells (la lb : List (List UInt8)) (ga gb ca cb : Nat) (w : World) (hn : la.length = lb.length) (hlen : la.length ≤ 8796093022207)
    (ha : ∀ j (hj : j < la.length), w.cell? ⟨ga, j, none⟩ = some (strV la[j])) (hb : ∀ j (hj : j < lb.length), w.cell? ⟨gb, j, none⟩ = some (strV lb[j])) :
    Calls Tryd.prog 8 #[.slice (some ⟨ga, 0, none⟩) la.length ca, .slice (some ⟨gb, 0, none⟩) lb.length cb] w fun e w' => e = .returned (.bool (decide (la = lb))) ∧ Below w.heap.size w w' := by
  obtain ⟨R, hR⟩ : ∃ R, R = decide (la = lb) := ⟨_, rfl⟩
  rw [← hR]
  have HR := Lib.hid hR
  have HA := Lib.hid ha
  have HB := Lib.hid hb
  have HN := Lib.hid hn
  rw [← hn]
  clear hR ha hb hn
  obtain ⟨n, hnn⟩ : ∃ n, n = la.length := ⟨_, rfl⟩
  rw [← hnn] at hlen ⊢
  have HNN := Lib.hid hnn
  clear hnn
  have hne : (((n : Nat) : Int) != (n : Int)) = false := by simp
  go_enter Tryd.func8, Tryd.ntmps8
  go_wp2
  go_loopw [5] (fun vi wr => ∃ (i k : Nat), vi = .int .i64 i ∧ wr = w.drewN k ∧ i ≤ n ∧ Hid (la.take i = lb.take i)) (fun vi _ => n - (intOf vi).toNat)
  case atStart => exact ⟨0, 0, rfl, by rw [World.drewN_zero], Nat.zero_le _, rfl⟩
  case round =>
    obtain ⟨i, k, rfl, rfl, hi, HE⟩ := hrel
    by_cases hlt : i < n
    · have hla : i < la.length := by rw [← HNN.out]; exact hlt
      have hlb : i < lb.length := by rw [← HN.out]; exact hla
      have hca := HA.out i hla
      have hcb := HB.out i hlb
      obtain ⟨x, hx⟩ : ∃ x, x = la[i] := ⟨_, rfl⟩
      obtain ⟨y, hy⟩ : ∃ y, y = lb[i] := ⟨_, rfl⟩
      rw [← hx] at hca
      rw [← hy] at hcb
      have HX := Lib.hid hx
      have HY := Lib.hid hy
      clear hx hy
      unfold strV at hca hcb
      have hlt' : (i : Int) < (n : Int) := by omega
      by_cases hxy : x = y
      · have hq : (x == y) = true := by rw [hxy]; simp
        have HE1 : Hid (la.take (i + 1) = lb.take (i + 1)) := by
          show la.take (i + 1) = lb.take (i + 1)
          rw [List.take_add_one, List.take_add_one, List.getElem?_eq_getElem hla, List.getElem?_eq_getElem hlb, HE.out, ← HX.out, ← HY.out, hxy]
        clear HX HY HE hxy
        go_wp2
        go_quiet (fail)
        go_wp2
        exact ⟨⟨i + 1, _, by first | rfl | (congr 1), rfl, by omega, HE1⟩, by simp [intOf]; omega⟩
      · have hq : (x == y) = false := by rw [beq_eq_false_iff_ne]; exact hxy
        have hr : R = false := by
          rw [HR.out, decide_eq_false_iff_not]
          intro q
          apply hxy
          rw [HX.out, HY.out]
          simp only [q]
        subst hr
        clear HX HY HE HR hxy
        go_wp2
        go_quiet (fail)
        go_wp2
        go_ret
        exact ⟨rfl, ⟨rfl, rfl, rfl, Nat.le_refl _, fun _ _ => rfl⟩⟩
    · have hr : R = true := by
        rw [HR.out, decide_eq_true_eq]
        have := HE.out
        rw [List.take_of_length_le (by rw [← HNN.out]; omega), List.take_of_length_le (by rw [← HN.out, ← HNN.out]; omega)] at this
        exact this
      subst hr
      clear HE HR
      go_wp2
      go_ret
      exact ⟨rfl, ⟨rfl, rfl, rfl, Nat.le_refl _, fun _ _ => rfl⟩⟩

theorem same_zero (ao bo : Option Addr) (ca cb : Nat) (w : World) : Calls Tryd.prog 8 #[.slice ao 0 ca, .slice bo 0 cb] w fun e w' => e = .returned (.bool true) ∧ Below w.heap.size w w' := by
  go_enter Tryd.func8, Tryd.ntmps8
  go_wp2
  go_loopw [5] (fun vi wr => vi = .int .i64 0 ∧ wr = w) (fun _ _ => 0)
  case atStart => exact ⟨rfl, rfl⟩
  case round =>
    obtain ⟨rfl, rfl⟩ := hrel
    go_wp2
    go_ret
    exact ⟨rfl, Below.refl _ _⟩
theorem same_len (ao bo : Option Addr) (na nb ca cb : Nat) (w : World) (h : na ≠ nb) : Calls Tryd.prog 8 #[.slice ao na ca, .slice bo nb cb] w fun e w' => e = .returned (.bool false) ∧ w' = w := by
  have h' : ((na : Int) != (nb : Int)) = true := by rw [bne_iff_ne]; omega
  clear h
  go_enter Tryd.func8, Tryd.ntmps8
  go_wp2
  go_ret
  exact ⟨rfl, rfl⟩
theorem same_any {B1 B2 : Nat} {va vb : Value} {la lb : List (List UInt8)} {w : World} (ha : Lst B1 w va la) (hb : Lst B2 w vb lb) (hl : la.length ≤ 8796093022207) :
    Calls Tryd.prog 8 #[va, vb] w fun e w' => e = .returned (.bool (decide (la = lb))) ∧ Below w.heap.size w w' := by
  have sh : ∀ {B : Nat} {v : Value} {l : List (List UInt8)}, Lst B w v l → ∃ ao c, v = .slice ao l.length c := by
    intro B v l h
    rcases h.shape with ⟨e, e2⟩ | ⟨g, cap, e, _⟩
    · rw [e2]; exact ⟨none, 0, e⟩
    · exact ⟨_, _, e⟩
  obtain ⟨ao, ca, ea⟩ := sh ha
  obtain ⟨bo, cb, eb⟩ := sh hb
  by_cases hn : la.length = lb.length
  · by_cases h0 : la.length = 0
    · have e1 := List.eq_nil_of_length_eq_zero h0
      have e2 := List.eq_nil_of_length_eq_zero (hn.symm.trans h0)
      subst e1
      subst e2
      rw [ea, eb, decide_eq_true rfl]
      exact same_zero ao bo ca cb w
    · rcases ha.shape with ⟨_, q⟩ | ⟨ga, ca, ea, _, _, _, hca⟩
      · rw [q] at h0; exact absurd rfl h0
      · rcases hb.shape with ⟨_, q⟩ | ⟨gb, cb, eb, _, _, _, hcb⟩
        · rw [q] at hn; exact absurd hn h0
        · rw [ea, eb]
          exact same_cells la lb ga gb ca cb w hn hl hca hcb
  · rw [ea, eb, decide_eq_false (fun q => hn (by rw [q]))]
    exact (same_len ao bo _ _ ca cb w hn).mono fun e w' ⟨he, hw⟩ => ⟨he, by rw [hw]; exact Below.refl _ _⟩
end Go.Proofs.YtffgnfbfifooeabDoor
