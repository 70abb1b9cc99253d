import Derived.Test.YtlnobfmbnnfbdaaGreatDoorCU
import Derived.Deep.RegionHeld3
import Derived.Deep.AppendLies
namespace Go.Proofs.YtlnobfmbnnfbdaaGreatDoor
open Go.ChangeShapes Go.WideShapes Go.ChangeAt Go.RowKit Num
attribute [local go_sem] run_store_float

theorem instrInfo : (Tryz.prog.info? 42).map (fun i => (i.zero, i.size, i.bytes)) = some (some (.agg #[.int .i64 0, .int .i64 0, .float .f64 0]), 3, 24) := by kernel_rfl
def insC (i : Ins) : List Value := [.int .i64 i.op, .int .i64 i.n, .float .f64 i.x]
/-- instructions of one's own, in a row from B on -/
def CodeRow (B : Nat) (w : World) (v : Value) (c : List Ins) : Prop := w.ownsRow B 42 3 v c.length (c.flatMap insC)
theorem CodeRow.codeAt {B : Nat} {w : World} {ao : Option Addr} {cap : Nat} {c : List Ins} (h : CodeRow B w (.slice ao c.length cap) c) : CodeAt w ao c := by
  intro k hk
  have h0 := hk
  rcases h.2 with ⟨_, q⟩ | ⟨g, cap', cur, hv, hB, hg, _, _, _, ht⟩
  · omega
  · cases hv
    have e : ∀ j, j < 3 → cur[k * 3 + j]? = (insC (ci c k))[j]? := fun j hj => by
      have h1 : cur.toList[k * 3 + j]? = (cur.toList.take (c.length * 3))[k * 3 + j]? := by
        rw [List.getElem?_take, if_pos (by omega)]
      have h2 := flat_at insC 3 (fun _ => rfl) k c (ci c k) (ci_lt hk) j hj
      rw [ht, h2] at h1
      simpa using h1
    refine ⟨g, 0, rfl, lt_of_block hg, ?_, ?_, ?_⟩
    · rw [cell_of_row w g _ _ _ _ hg, Nat.zero_add]; exact e 0 (by decide)
    · rw [cell_of_row w g _ _ _ _ hg, Nat.zero_add]; exact e 1 (by decide)
    · rw [cell_of_row w g _ _ _ _ hg, Nat.zero_add]; exact e 2 (by decide)
theorem row_ne {B p : Nat} {w : World} {v : Value} {c : List Ins} {cs : Array Value} {T : TypeId} (h : CodeRow B w v c) (hp : w.heap[p]? = some (.cells cs T (0, 0))) (hT : T ≠ 42) : v.ownBlock ≠ some p := by
  intro q
  rcases h.2 with ⟨rfl, _⟩ | ⟨g, cap, cur, rfl, _, hg, _⟩
  · cases q
  · have e : g = p := by simpa [Value.ownBlock] using q
    subst e
    rw [hg] at hp
    cases hp
    exact hT rfl
theorem row_turn {B b : Nat} {w w' : World} {v : Value} {c : List Ins} (h : CodeRow B w v c) (hn : v.ownBlock ≠ some b) (k : Turn [b] [b] w w') : CodeRow B w' v c := by
  refine ⟨h.1, ?_⟩
  rcases h.2 with q | ⟨g, cap, cur, hv, hB, hg, rest⟩
  · exact .inl q
  · refine .inr ⟨g, cap, cur, hv, hB, ?_, rest⟩
    have : g ≠ b := by rintro rfl; exact hn (by rw [hv]; rfl)
    rw [k.block g (lt_of_block hg) (by simpa using this)]
    exact hg
theorem row_nil (B : Nat) (w : World) : CodeRow B w (.slice none 0 0) [] := ⟨by simp, .inl ⟨rfl, rfl⟩⟩
def rdLen (w : World) (b : Nat) : Nat := match w.cell? ⟨b, 0, none⟩ with
  | some (.string s) => s.size
  | _ => 0
theorem RdAt.len {w : World} {b : Nat} {r : List UInt8} {l : Int} (h : RdAt w b r l) : rdLen w b = r.length := by
  unfold rdLen
  rw [(cells2_of h).1]
  show (⟨r.toArray⟩ : ByteArray).size = _
  rw [size_list]
theorem step_bad {k : Nat} {r : List UInt8} {c : List Ins} {e : Int} (hk : k ≤ 1024) (hn : ¬ (r = [] ∧ c ≠ [])) (h : stepI r (1025 - k) = .error e) : instrsF k r c = .error (e, 1026 - k) := by
  unfold stepI at h
  cases k with
  | zero =>
    rw [if_pos (by omega)] at h
    cases h
    unfold instrsF
    rw [if_neg hn]
    rfl
  | succ k =>
    rw [if_neg (by omega)] at h
    unfold instrsF
    rw [if_neg hn]
    split at h
    · rename_i hc
      cases h
      rw [if_pos hc]
      have e : (1025 : Int) - k = 1026 - ((k + 1 : Nat) : Int) := by omega
      rw [e]
    · rename_i hc
      rw [if_neg hc]
      split at h
      · rename_i hi
        cases h
        rw [hi]
        have e : (1025 : Int) - k = 1026 - ((k + 1 : Nat) : Int) := by omega
        simp only
        rw [e]
      · cases h
theorem step_got {k : Nat} {r r' : List UInt8} {c : List Ins} {i : Ins} (_hk : k ≤ 1024) (hn : ¬ (r = [] ∧ c ≠ [])) (h : stepI r (1025 - k) = .ok (i, r')) : ∃ k', k = k' + 1 ∧ instrsF k r c = instrsF k' r' (c ++ [i]) ∧ r'.length < r.length ∧ Good i := by
  unfold stepI at h
  cases k with
  | zero => rw [if_pos (by omega)] at h; cases h
  | succ k =>
    rw [if_neg (by omega)] at h
    refine ⟨k, rfl, ?_⟩
    split at h
    · cases h
    · rename_i hc
      split at h
      · cases h
      · rename_i j hi
        cases h
        refine ⟨?_, ?_, (read_line hi).2⟩
        · conv => lhs; unfold instrsF
          rw [if_neg hn, if_neg hc, hi]
        · rcases cutB_cases 10 r with ⟨a, b, rfl, _, e⟩ | ⟨_, e⟩
          · rw [e]; simp; omega
          · rw [e] at hc; exact absurd rfl hc
end Go.Proofs.YtlnobfmbnnfbdaaGreatDoor
