import Derived.Test.YtmkikapoflaghaaM8
namespace Go.Proofs.Ytmkikapoflaghaa
open Go.ChangeShapes Go.WideShapes Go.ChangeAt Go.RowKit Go.Deep

theorem cellsU8 : Try.prog.cellsOf 5 = 1 := by kernel_rfl
theorem nat_of_u8 {z : Int} (h : (Lit.int .u8 z).wf = true) : ∃ n : Nat, z = n ∧ n < 256 := by
  simp [Lit.wf, IntKind.min, IntKind.max, IntKind.signed, IntKind.bits] at h
  exact ⟨z.toNat, by omega, by omega⟩
/-- bytes, wherever they lie -/
def BytesAt (W : World) (ao : Option Addr) (len : Nat) (x : Nat → Nat) : Prop :=
  ∀ i, i < len → ∃ b off, ao = some ⟨b, off, none⟩ ∧ b < W.heap.size ∧ W.cell? ⟨b, off + i, none⟩ = some (.int .u8 ((x i : Nat) : Int)) ∧ x i < 256
/-- a list has at most as many parts as its bulk -/
theorem bulk_len {H : Type} : ∀ l : List (DataW H), l.length ≤ Rows.uptoBulkAll l
  | [] => Nat.zero_le _
  | d :: r => by
    have h0 : Rows.uptoBulk d ≠ 0 := by unfold Rows.uptoBulk; split <;> omega
    have h1 := bulk_len r
    have h2 : Rows.uptoBulkAll (d :: r) = Rows.uptoBulk d + Rows.uptoBulkAll r := by rw [Rows.uptoBulkAll]
    rw [h2, List.length_cons]
    omega
section
variable {H : Type} {enc : TypeId × Value → H}
set_option maxRecDepth 100000 in
theorem open_bytes {W : World} {base : Nat} {v : Value} {d : DataW H} {ps : List MemPlace} (hval : Value.okWide Try.prog W .any base 50 v) (h : DataW.Trod enc Try.prog W 0 (fun _ => true) true 50 v d ps) :
    ∃ (ao : Option Addr) (len cap : Nat) (x : Nat → Nat), v = .slice ao len cap ∧ (Rows.uptoBulk d ≤ 1048576 → len ≤ 1048576) ∧ BytesAt W ao len x := by
  obtain ⟨a0, len, cap, rfl⟩ := okWide_slice Try.underlying50 hval
  obtain ⟨fuel, hf⟩ := h
  rcases open_slice Try.underlying50 hf with ⟨hcs, _⟩ | ⟨a, len', cap', m, n, D, Pl, hcs, _, hl, hm, hmm, hd, hx⟩
  · simp [Value.cells] at hcs
    obtain ⟨rfl, rfl, rfl⟩ := hcs
    exact ⟨none, 0, 0, fun _ => 0, rfl, fun _ => Nat.zero_le _, fun i hi => absurd hi (Nat.not_lt_zero i)⟩
  · simp [Value.cells] at hcs
    obtain ⟨rfl, rfl, rfl⟩ := hcs
    simp only [if_true] at hmm
    have hd1 : d = .slice ((List.range len).map D) ((List.range (m - len)).map fun j => D (len + j)) := congrArg Prod.fst hd
    obtain ⟨b, off, spot⟩ := a
    have hs : 0 < len → spot = none := by
      intro h0
      obtain ⟨cs', h1, _⟩ := hx 0 (by omega)
      rw [cellsU8] at h1
      obtain ⟨_, hlen, hcell⟩ := World.cells?_some h1
      match cs', hlen with
      | [c0], _ =>
        have f0 := hcell 0 (by omega)
        simpa [Addr.add] using World.cell?_spot f0
    have each : ∀ i, i < len → ∃ q : Nat, spot = none ∧ b < W.heap.size ∧ W.cell? ⟨b, off + i, none⟩ = some (.int .u8 ((q : Nat) : Int)) ∧ q < 256 := by
      intro i hi
      obtain ⟨cs', h1, h2⟩ := hx i (by omega)
      rw [cellsU8] at h1
      obtain ⟨_, hlen, hcell⟩ := World.cells?_some h1
      match cs', hlen with
      | [c0], _ =>
        obtain ⟨x0, e0, _, hwf⟩ := DataW.trod_int Try.underlying5 h2
        obtain ⟨q, rfl, hq⟩ := nat_of_u8 hwf
        simp at e0
        subst e0
        have f0 := hcell 0 (by omega)
        rw [add_add] at f0
        have hspot := hs (by omega)
        subst hspot
        rw [Go.WideShapes.add_plain] at f0
        simp at f0
        have hb := World.block_lt_of_cell? W _ f0
        exact ⟨q, rfl, hb, f0, hq⟩
    obtain ⟨q, hq⟩ := choose_lt each
    refine ⟨some ⟨b, off, spot⟩, len, cap, q, rfl, fun hk => ?_, fun i hi => ?_⟩
    · rw [hd1] at hk
      simp only [Rows.uptoBulk] at hk
      have := bulk_len ((List.range len).map D)
      rw [List.length_map, List.length_range] at this
      omega
    · obtain ⟨rfl, r1, r2, r3⟩ := hq i hi
      exact ⟨b, off, rfl, r1, r2, r3⟩
end
end Go.Proofs.Ytmkikapoflaghaa
