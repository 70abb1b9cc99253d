import Derived.Test.YtdfmmolhfacahaaM6
namespace Go.Proofs.Ytdfmmolhfacahaa
open Go.ChangeShapes Go.WideShapes Go.ChangeAt Go.RowKit

theorem below_chg {w w1 w2 : World} {b g : Nat} (h : Below w.heap.size w w1) (k : Chg b g w1 w2) (hb : w.heap.size ≤ b) (hg : w.heap.size ≤ g) : Below w.heap.size w w2 :=
  h.trans (k.below hb hg h.size)
theorem below_chain {a b c : World} (h : Below a.heap.size a b) (k : Below b.heap.size b c) : Below a.heap.size a c := h.trans (k.mono h.size)
theorem lv1 : errA [0, 0] true 1 = 0 := by decide
theorem lv2 : stored [0, 0] true 1 7 = [0, 7] := by decide
theorem lv3 : spentO [0, 0] true 1 = false := by decide
theorem lv4 : spentC [0, 0] true 1 0 = 1 := by decide +kernel
theorem lv5 : errA [0, 7] false 1 = 31 := by decide
theorem lv6 : toldW [0, 7] false 1 = 0 := by decide
theorem lv7 : spentO [0, 7] false 1 = false := by decide
theorem lv8 : spentC [0, 7] false 1 1 = 1 := by decide +kernel
theorem lv9 : errP [0, 7] 1 = 0 := by decide
theorem lv10 : (if hasB [0, 7] 1 then wordAt [0, 7] 1 else 0) = 7 := by decide
theorem new_at (i : Int) (h1 : 1 ≤ i) (h2 : i ≤ 4096) (w : World) : Calls Try.prog 17 #[.int .i64 i] w fun e w' => ∃ ws : List Int, e = .returned (.tuple #[.pointer (some ⟨w.heap.size + 1, 0, none⟩), .int .i64 0]) ∧ (ws.length : Int) = i ∧ Hid (ws = List.replicate i.toNat 0) ∧ MemAt 79 w' (w.heap.size + 1) w.heap.size ws false 0 ∧ Below w.heap.size w w' := by
  obtain ⟨n, rfl⟩ : ∃ n : Nat, i = n := ⟨i.toNat, by omega⟩
  exact (new_some n (by omega) (by omega) w).mono fun e w' ⟨he, hm, hb⟩ => ⟨_, he, by rw [List.length_replicate]; rfl, rfl, hm, hb⟩
end Go.Proofs.Ytdfmmolhfacahaa
