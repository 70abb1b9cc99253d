import Derived.Test.YthnpcnmidbacjaaGreatDoorKO
namespace Go.Proofs.YthnpcnmidbacjaaGreatDoor
open Go.ChangeShapes Go.WideShapes Go.ChangeAt Go.RowKit Go.Deep

/-! the form's own bound on a program's bytes -/
section
variable {H : Type} {enc : TypeId × Value → H}
theorem prog_sized {W : World} {t : Int} {ao : Option Addr} {n cap : Nat} {d : DataW H} {ps : List MemPlace} (h : DataW.Trod enc Tryz.prog W 0 (fun _ => true) true 26 (progV t ao n cap) d ps)
    {ts : List TypeId} {ds : List (DataW H)} (hz : (DataW.weightsEach Tryz.prog ts ds).all (· ≤ reachBytes) = true) {j : Nat} (h1 : ts[j]? = some 26) (h2 : ds[j]? = some d) : n * 24 ≤ reachBytes := by
  have cellsS : Tryz.prog.cellsOf 24 = 1 := by kernel_rfl
  have bytesI : Tryz.prog.bytesOf 66 = 24 := by kernel_rfl
  obtain ⟨fuel, hf⟩ := h
  obtain ⟨y0, y1, m, hx, _, _, hs⟩ := trod_struct2 Tryz.underlying26 hf
  simp [cellsS, Value.cells, progV] at hs
  rcases open_slice Tryz.underlying24 hs with ⟨hcs, _⟩ | ⟨a, len, cap', m', k, D, Pl, hcs, _, hl, _, hmm, hd, _⟩
  · simp at hcs
    obtain ⟨_, rfl, _⟩ := hcs
    omega
  · simp at hcs
    obtain ⟨_, rfl, _⟩ := hcs
    have hd0 : d = .agg [y0.1, y1.1] := congrArg Prod.fst hx
    have hd1 : y1.1 = .slice ((List.range n).map D) ((List.range (m' - n)).map fun j => D (n + j)) := congrArg Prod.fst hd
    rw [hd0, hd1] at h2
    have := List.all_eq_true.1 hz _ (DataW.weights_mem_each h1 h2 ((n + (m' - n)) * 24) (by
      simp [DataW.weights, DataW.weightsEach, Tryz.underlying26, Tryz.underlying24, bytesI]))
    simp at this
    omega
end
end Go.Proofs.YthnpcnmidbacjaaGreatDoor
