import Derived.Test.YtaliehikdidiaaaGreatDoorKO
namespace Go.Proofs.YtaliehikdidiaaaGreatDoor
open Go.ChangeShapes Go.WideShapes Go.ChangeAt Go.RowKit Go.Deep

/-! openings: an int, a float -/
section
variable {H : Type} {enc : TypeId × Value → H}
theorem okWide_f64 {P : Program} {t : TypeId} {w : World} {r : Reach} {base : Nat} {v : Value} (ht : P.underlying t = some (.float .f64)) (h : Value.okWide P w r base t v) : ∃ b, v = .float .f64 b := by
  simp only [Value.okWide, ht, Cell.okWide] at h
  cases v <;> simp_all [Cell.ok]
set_option maxRecDepth 100000 in
theorem open_f64 {W : World} {base : Nat} {v : Value} {d : DataW H} {ps : List MemPlace} (hval : Value.okWide Tryz.prog W .any base 74 v) (h : DataW.Trod enc Tryz.prog W 0 (fun _ => true) true 74 v d ps) : ∃ b : Nat, v = .float .f64 b ∧ b < 18446744073709551616 := by
  obtain ⟨b, rfl⟩ := okWide_f64 Tryz.underlying74 hval
  obtain ⟨fuel, hf⟩ := h
  obtain ⟨b', h1, h2⟩ := trod_f64 hf
  simp [Value.cells] at h1
  subst h1
  exact ⟨b, rfl, h2⟩
set_option maxRecDepth 100000 in
theorem open_i64 {W : World} {base : Nat} {v : Value} {d : DataW H} {ps : List MemPlace} (hval : Value.okWide Tryz.prog W .any base 3 v) (h : DataW.Trod enc Tryz.prog W 0 (fun _ => true) true 3 v d ps) : ∃ n : Int, v = .int .i64 n ∧ (Lit.int .i64 n).wf = true := by
  obtain ⟨n, h1, _, _, h4⟩ := open_int Tryz.underlying3 hval h
  exact ⟨n, h1, h4⟩
end
end Go.Proofs.YtaliehikdidiaaaGreatDoor
