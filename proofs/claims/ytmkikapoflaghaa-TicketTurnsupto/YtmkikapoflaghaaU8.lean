import Derived.Test.YtmkikapoflaghaaU7
namespace Go.Proofs.Ytmkikapoflaghaa
open Go.ChangeShapes Go.WideShapes Go.ChangeAt Go.RowKit

theorem intInfo12 : (Try.prog.info? 3).map (fun i => (i.zero, i.size, i.bytes)) = some (some (.int .i64 0), 1, 8) := by kernel_rfl
def i64n (D : List Nat) : List Value := D.map fun x => .int .i64 (x : Nat)
theorem i64n_len (D : List Nat) : (i64n D).length = D.length := by unfold i64n; rw [List.length_map]
theorem i64n_snoc (D : List Nat) (t : Nat) : i64n D ++ [.int .i64 (t : Nat)] = i64n (D ++ [t]) := by simp [i64n]
theorem addV_nat {n : Nat} (h : n < 9223372036854775808) : addV (n : Int) 1 = ((n + 1 : Nat) : Int) := by
  unfold addV
  simp [IntKind.wrap, IntKind.bits, IntKind.signed]
  omega
theorem passV_nat {n : Nat} (h : n < 9223372036854775808) : passV (n : Int) = ((n + 1 : Nat) : Int) := by
  unfold passV
  simp [IntKind.wrap, IntKind.bits, IntKind.signed]
  omega
theorem betw_nat {s m : Nat} (h : s ≤ m) (hm : m - s ≤ 2147483647) : betw (s : Int) (m : Int) = ((m - s : Nat) : Int) := by
  have e : IntKind.u64.wrap ((m : Int) - s) = ((m - s : Nat) : Int) := by
    simp [IntKind.wrap, IntKind.bits, IntKind.signed]
    omega
  unfold betw
  rw [e]
  by_cases q : (m : Int) ≤ s
  · rw [if_pos q]; omega
  · rw [if_neg q, if_neg (by omega)]
/-- the memory, the threads, the plan, and who drew (E), in a row of their own from B on -/
structure Mid (W w : World) (B b g l q : Nat) (a : Option Addr) (cD : Nat) (E : List Nat) (p k : Nat → Int) (n0 sv : Nat) (o : Bool) (c : Int) : Prop where
  m : MemAt 59 w b g [(n0 : Int), (sv : Int)] o c
  t : TuAt w l p k
  pl : PlnAt w q 0 1 0 0 0 0
  own : w.ownsRow B 3 1 (.slice a E.length cD) E.length (i64n E)
  below : Below W.heap.size W w
  lo : W.heap.size ≤ b ∧ W.heap.size ≤ g ∧ W.heap.size ≤ l
  hi : b < B ∧ g < B ∧ l < B ∧ q < B ∧ B ≤ w.heap.size
  n1 : l ≠ b ∧ l ≠ g
  n2 : q ≠ b ∧ q ≠ g ∧ q ≠ l
section
variable {W w w' : World} {B b g l q : Nat} {a : Option Addr} {cD : Nat} {E D : List Nat} {p k p' k' : Nat → Int} {n0 sv n0' sv' n i : Nat} {o o' : Bool} {c c' : Int}
theorem Mid.wlo (h : Mid W w B b g l q a cD E p k n0 sv o c) : W.heap.size ≤ B := by have := h.lo; have := h.hi; omega
theorem Mid.ob {q' : Nat} (h : Mid W w B b g l q a cD E p k n0 sv o c) (d : Ob w w' b g l q' p' k' [(n0' : Int), (sv' : Int)] o' c') : Mid W w' B b g l q a cD E p' k' n0' sv' o' c' := by
  have hh := h.hi
  have hl := h.lo
  have hs := h.below.size
  refine ⟨d.m, d.t, (d.ch.block q (by omega) h.n2.1 h.n2.2.1 h.n2.2.2).trans h.pl, ⟨h.own.1, ?_⟩, h.below.trans (d.ch.below hl.1 hl.2.1 hl.2.2 hs), hl, ⟨hh.1, hh.2.1, hh.2.2.1, hh.2.2.2.1, Nat.le_trans hh.2.2.2.2 d.ch.size⟩, h.n1, h.n2⟩
  rcases h.own.2 with z | ⟨x, cap, cur, hv, hb, hg, rest⟩
  · exact .inl z
  · exact .inr ⟨x, cap, cur, hv, hb, (d.ch.block x (lt_of_block hg) (by omega) (by omega) (by omega)).trans hg, rest⟩
theorem Mid.app {x : Obj} {v : Value} {t : Nat} (h : Mid W w B b g l q a cD E p k n0 sv o c) (hown : w'.ownsRow B 3 1 v (E.length + 1) (i64n E ++ [.int .i64 (t : Nat)])) (hg : (w.alloc x).grownBy w' (Value.slice a E.length cD).ownBlock) :
    ∃ a' c', v = .slice a' (E.length + 1) c' ∧ Mid W w' B b g l q a' c' (E ++ [t]) p k n0 sv o c := by
  have hh := h.hi
  have hl := h.lo
  have hk : Below B w w' := ((Below.refl B w).alloc hh.2.2.2.2 x).grown hg (by simp; omega) (fun j hj => (h.own.lt j hj).1)
  rw [i64n_snoc] at hown
  have e : E.length + 1 = (E ++ [t]).length := by simp
  rw [e] at hown ⊢
  have h2 := hown.2
  rcases h2 with ⟨_, z⟩ | ⟨y, cap, cur, hv, _⟩
  · simp at z
  · refine ⟨_, _, hv, h.m.keep (hk.block b hh.1) (hk.block g hh.2.1), h.t.keep (hk.block l hh.2.2.1), (hk.block q hh.2.2.2.1).trans h.pl, by rw [← hv]; exact hown, h.below.trans (hk.mono h.wlo), hl, ⟨hh.1, hh.2.1, hh.2.2.1, hh.2.2.2.1, Nat.le_trans hh.2.2.2.2 hk.size⟩, h.n1, h.n2⟩
theorem Mid.at' (h : Mid W w B b g l q a cD E p k n0 sv o c) {j t : Nat} (hj : E[j]? = some t) : ∃ x, a = some ⟨x, 0, none⟩ ∧ x < w.heap.size ∧ w.cell? ⟨x, j, none⟩ = some (.int .i64 (t : Nat)) := by
  have hlt : j < E.length := (List.getElem?_eq_some_iff.1 hj).1
  rcases h.own.2 with ⟨_, z⟩ | ⟨x, cap, cur, hv, hb, hg, rest⟩
  · omega
  · cases hv
    refine ⟨x, rfl, lt_of_block hg, ?_⟩
    rw [h.own.cellAt j (by omega)]
    simp [i64n, hj]
/-- between two rounds -/
structure Rnd (W w : World) (B b g l q : Nat) (a : Option Addr) (cD : Nat) (D : List Nat) (p k : Nat → Int) (sv n i : Nat) (o : Bool) (c : Int) : Prop where
  mid : Mid W w B b g l q a cD D p k D.length sv o c
  inv : Tinv p k D sv n
  few : D.length ≤ i
/-- the same, whatever they do -/
def Rd (W w : World) (B b g l q : Nat) (a : Option Addr) (cD : Nat) (D : List Nat) (n i : Nat) : Prop := ∃ p k sv o c, Rnd W w B b g l q a cD D p k sv n i o c
theorem rnd_draw {q' t : Nat} (hR : Tinv p k D sv n) (hf : D.length ≤ i) (hi : i < 1048576) (ht : t < 8) (hp : p t = 0) (h : Mid W w B b g l q a cD (D ++ [t]) p k D.length sv o c) (d : Ob w w' b g l q' (upd p t 1) (upd k t (D.length : Int)) [addV (D.length : Int) 1, (sv : Int)] o' c') :
    Rnd W w' B b g l q a cD (D ++ [t]) (upd p t 1) (upd k t (D.length : Int)) sv n (i + 1) o' c' := by
  rw [addV_nat (by omega)] at d
  have e : (D ++ [t]).length = D.length + 1 := by simp
  exact ⟨by rw [e]; exact h.ob d, hR.draw ht hp, by rw [e]; omega⟩
theorem rnd_wait {q' : Nat} (h : Rnd W w B b g l q a cD D p k sv n i o c) (d : Ob w w' b g l q' p k [(D.length : Int), (sv : Int)] o' c') : Rnd W w' B b g l q a cD D p k sv n (i + 1) o' c' :=
  ⟨h.mid.ob d, h.inv, Nat.le_succ_of_le h.few⟩
theorem rnd_told {q' t : Nat} (h : Rnd W w B b g l q a cD D p k sv n i o c) (hT : Tinv (upd p t 2) k D sv (n + 1)) (d : Ob w w' b g l q' (upd p t 2) k [(D.length : Int), (sv : Int)] o' c') : Rnd W w' B b g l q a cD D (upd p t 2) k sv (n + 1) (i + 1) o' c' :=
  ⟨h.mid.ob d, hT, Nat.le_succ_of_le h.few⟩
theorem rnd_pass {q' t : Nat} (h : Rnd W w B b g l q a cD D p k sv n i o c) (hi : i < 1048576) (ht : t < 8) (hp : p t = 2) (d : Ob w w' b g l q' (upd p t 0) k [(D.length : Int), passV (k t)] o' c') : Rnd W w' B b g l q a cD D (upd p t 0) k (sv + 1) n (i + 1) o' c' := by
  obtain ⟨h1, h2, h3⟩ := h.inv.pass ht hp
  have := h.few
  rw [h1, passV_nat (by omega)] at d
  exact ⟨h.mid.ob d, h3, Nat.le_succ_of_le h.few⟩
theorem rnd_new {w1 w2 : World} {cur : Array Value} (hb : Below W.heap.size W w1) (hm : MemAt 59 w2 (w1.heap.size + 1) w1.heap.size [0, 0] false 0) (h2 : Below w1.heap.size w1 w2) (hs : cur.size = 16) (hc : ∀ i, i < 8 → cur[i * 2]? = some (.int .i64 0) ∧ cur[i * 2 + 1]? = some (.int .u64 0)) :
    Rd W ((w2.alloc (.cells #[.int .i64 0, .int .i64 1, .int .i64 0, .int .i64 0, .int .i64 0, .int .i64 0] 25)).alloc (.cells cur 54)) (w2.heap.size + 1 + 1) (w1.heap.size + 1) w1.heap.size (w2.heap.size + 1) w2.heap.size none 0 [] 0 0 := by
  have l1 := hm.ltB
  have l2 := hb.size
  have e := heap_alloc_new (w2.alloc (.cells #[.int .i64 0, .int .i64 1, .int .i64 0, .int .i64 0, .int .i64 0, .int .i64 0] 25)) (.cells cur 54)
  refine ⟨_, _, _, _, _, ⟨(hm.alloc _).alloc _, ⟨cur, by simpa using e, hs, hc⟩, ?_, World.ownsRow_nil _ _ _ _, ((below_chain hb h2).alloc (by have := h2.size; omega) _).alloc (by have := h2.size; simp; omega) _, ⟨by omega, by omega, by omega⟩, ⟨by omega, by omega, by omega, by omega, by simp⟩, ⟨by omega, by omega⟩, ⟨by omega, by omega, by omega⟩⟩, tinv_new, Nat.zero_le _⟩
  unfold PlnAt
  rw [Below.heap_alloc _ _ _ (by simp)]
  exact heap_alloc_new _ _
end
end Go.Proofs.Ytmkikapoflaghaa
