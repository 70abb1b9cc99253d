import Derived.Test.YteeemjidjckimaaS2r
import Derived.Test.YteeemjidjckimaaS2s
import Derived.Deep.Slices
import Derived.Carry
namespace Go.Proofs.Yteeemjidjckimaa
open Go.ChangeShapes Go.WideShapes Go.ChangeAt Go.RowKit Go.Deep

theorem ownK : ownKnob Try.prog.godebug = none := by kernel_rfl
theorem laidOut : laidOutB Try.prog = true := by kernel_rfl
theorem cellsI : Try.prog.cellsOf 3 = 1 := by kernel_rfl
/-- numbers, wherever they lie -/
def IntsAt (w : World) (p : Option Addr) (n : Nat) (x : Nat → Int) : Prop :=
  ∀ i, i < n → ∃ g o, p = some ⟨g, o, none⟩ ∧ g < w.heap.size ∧ w.cell? ⟨g, o + i, none⟩ = some (.int .i64 (x i))
theorem IntsAt.on {w w' : World} {p : Option Addr} {n : Nat} {x : Nat → Int} (h : IntsAt w p n x) (k : Below w.heap.size w w') : IntsAt w' p n x := fun i hi => by
  obtain ⟨g, o, h1, h2, h3⟩ := h i hi
  exact ⟨g, o, h1, Nat.lt_of_lt_of_le h2 k.size, (k.cell (p := ⟨g, o + i, none⟩) h2).trans h3⟩
theorem IntsAt.take {w : World} {p : Option Addr} {n : Nat} {x : Nat → Int} (h : IntsAt w p n x) {m : Nat} (hm : m ≤ n) : IntsAt w p m x := fun i hi => h i (Nat.lt_of_lt_of_le hi hm)
theorem IntsAt.cong {w : World} {p : Option Addr} {n : Nat} {x y : Nat → Int} (h : IntsAt w p n x) (k : ∀ i, i < n → x i = y i) : IntsAt w p n y := fun i hi => by rw [← k i hi]; exact h i hi
theorem RowAt.ints {w : World} {p : Option Addr} {c : Nat} {l : List Int} (h : RowAt 3 w p c (i64s l)) : IntsAt w p l.length (fun i => l.getD i 0) := by
  intro i hi
  have ho := h.own
  rw [i64s_len] at ho
  rcases ho.2 with ⟨_, q⟩ | ⟨g, cap, cur, hv, _, hg, _⟩
  · omega
  · cases hv
    refine ⟨g, 0, rfl, lt_of_block hg, ?_⟩
    rw [Nat.zero_add, ho.cellAt i (by omega)]
    simp [i64s, hi]
theorem RowAt.on {E : TypeId} {w w' : World} {p : Option Addr} {c : Nat} {xs : List Value} (h : RowAt E w p c xs) (k : Below w.heap.size w w') : RowAt E w' p c xs := h.keep (kept_below k h.blw)
section
variable {H : Type} {enc : TypeId × Value → H}
theorem open_nums {W : World} {base : Nat} {v : Value} {d : DataW H} {ps : List MemPlace} (hval : Value.okWide Try.prog W .any base 36 v) (h : DataW.Trod enc Try.prog W 0 (fun _ => true) true 36 v d ps) :
    ∃ ao len cap x, v = .slice ao len cap ∧ (len ≤ cap ∧ cap ≤ maxLen ∧ (ao = none → len = 0 ∧ cap = 0) ∧ ∀ a, ao = some a → 0 < len → a.spot = none) ∧ IntsAt W ao len x := by
  obtain ⟨a0, len, cap, rfl⟩ := okWide_slice Try.underlying36 hval
  obtain ⟨fuel, hf⟩ := h
  rcases open_slice1 Try.underlying36 cellsI hf with ⟨hcs, _⟩ | ⟨a, len', cap', m, n, V, D, Pl, hcs, _, hl, hm, hmm, _, hx⟩
  · simp [Value.cells] at hcs
    obtain ⟨rfl, rfl, rfl⟩ := hcs
    exact ⟨none, 0, 0, fun _ => 0, rfl, ⟨Nat.le_refl _, Nat.zero_le _, fun _ => ⟨rfl, rfl⟩, fun a h => (by cases h)⟩, fun i hi => absurd hi (Nat.not_lt_zero i)⟩
  · simp [Value.cells] at hcs
    obtain ⟨rfl, rfl, rfl⟩ := hcs
    simp only [if_true] at hmm
    obtain ⟨b, off, spot⟩ := a
    have hs : 0 < len → spot = none := by
      intro h0
      obtain ⟨h1, _⟩ := hx 0 (by omega)
      simpa [Addr.add] using World.cell?_spot h1
    have each : ∀ i, i < len → ∃ q : Int, spot = none ∧ b < W.heap.size ∧ W.cell? ⟨b, off + i, none⟩ = some (.int .i64 q) := by
      intro i hi
      obtain ⟨h1, h2⟩ := hx i (by omega)
      obtain ⟨q, e, _, _⟩ := DataW.trod_int Try.underlying3 h2
      simp at e
      rw [e] at h1
      have hs := hs (by omega)
      subst hs
      rw [Go.WideShapes.add_plain] at h1
      exact ⟨q, rfl, World.block_lt_of_cell? W _ h1, h1⟩
    obtain ⟨q, hq⟩ := choose_lt each
    exact ⟨some ⟨b, off, spot⟩, len, cap, q, rfl, ⟨hl, hm, fun h => (by cases h), fun a ha h0 => (by cases ha; exact hs h0)⟩, fun i hi => by
      obtain ⟨rfl, r⟩ := hq i hi
      exact ⟨b, off, rfl, r⟩⟩
end
set_option maxHeartbeats 2000000 in
set_option maxRecDepth 100000 in
/-- two lists of the same numbers -/
theorem same_any {w : World} {pa pb : Option Addr} {n : Nat} {x : Nat → Int} (ca cb : Nat) (hn : n ≤ 9223372036854775807) (ha : IntsAt w pa n x) (hb : IntsAt w pb n x) :
    Calls Try.prog 21 #[.slice pa n ca, .slice pb n cb] w fun e w' => e = .returned (.bool true) ∧ Same w w' := by
  have HA := Lib.hid ha
  have HB := Lib.hid hb
  clear ha hb
  go_enter Try.func21, Try.ntmps21
  go_wp2
  go_loopw [5] (fun vi wr => ∃ (i k : Nat), vi = .int .i64 i ∧ wr = w.drewN k ∧ i ≤ n) (fun vi _ => n - (intOf vi).toNat)
  case atStart => exact ⟨0, 0, rfl, by rw [World.drewN_zero], Nat.zero_le _⟩
  case round =>
    obtain ⟨i, k, rfl, rfl, hi⟩ := hrel
    by_cases hlt : i < n
    · have hlt' : (i : Int) < (n : Int) := by omega
      obtain ⟨ga, oa, hpa, ga1, hca⟩ := HA.out i hlt
      obtain ⟨gb, ob, hpb, gb1, hcb⟩ := HB.out i hlt
      subst hpa hpb
      generalize x i = y at hca hcb
      go_wp2
      go_quiet (fail)
      go_wp2
      exact ⟨⟨i + 1, _, by first | rfl | (congr 1), rfl, by omega⟩, by simp [intOf]; omega⟩
    · have hlt' : ¬ (i : Int) < (n : Int) := by omega
      go_wp2
      go_ret
      exact ⟨rfl, Same.drewN _ _⟩
/-- the first of a row of numbers -/
def upto (x : Nat → Int) (n : Nat) : List Int := (List.range n).map x
theorem upto_len (x : Nat → Int) (n : Nat) : (upto x n).length = n := by simp [upto]
theorem upto_snoc (x : Nat → Int) (n : Nat) : upto x (n + 1) = upto x n ++ [x n] := by simp [upto, List.range_succ]
theorem upto_at (x : Nat → Int) (n i : Nat) (h : i < n) : (upto x n)[i]? = some (x i) := by simp [upto, h]
theorem RowAt.upto {w : World} {p : Option Addr} {c n : Nat} {x : Nat → Int} (h : RowAt 3 w p c (i64s (upto x n))) : IntsAt w p n x := by
  have q := h.ints
  rw [upto_len] at q
  exact q.cong (fun i hi => by simp [List.getD, upto_at x n i hi])
theorem turn_chain {W w w' : World} {F F' : List Nat} (h : Below W.heap.size W w) (k : Turn F F' w w') (a : Abv W.heap.size F) : Below W.heap.size W w' := h.trans (k.below a h.size)
theorem abv_one {B b : Nat} (h : B ≤ b) : Abv B [b] := fun k hk => by simp at hk; omega
set_option maxRecDepth 100000 in
set_option maxHeartbeats 1000000 in
theorem live_any (w : World) : Calls Try.prog 12 #[] w fun e w' => e = .returned (.bool true) ∧ Below w.heap.size w w' := by
  have t1 : True := trivial
  have t2 : True := trivial
  go_enter Try.func12, Try.ntmps12
  go_wp2_with (first
    | (go_at_call 9; refine (iNew_any 1 _).mono ?_; rintro e w1 ⟨b, rfl, hb0, hm, hb⟩; have HS1 : Hid (Stk 57 3 w1 b [b] (i64s []) 1) := hm; have HB1 := Lib.hid hb; have HA1 := Lib.hid (abv_one (Nat.le_of_eq hb0.symm)); clear hm hb hb0)
    | (go_at_call 30; have _t := t1; refine (iPush_any HS1.out 4).mono ?_; rintro e w2 ⟨F2, rfl, hm, hc⟩; have HS2 : Hid (Stk 57 3 w2 b F2 (i64s [4]) 1) := hm; have HB2 := Lib.hid (turn_chain HB1.out hc HA1.out); have HA2 := Lib.hid (HA1.out.turn HB1.out.size hc); clear hm hc t1)
    | (go_at_call 30; refine (iPush_any HS2.out 5).mono ?_; rintro e w3 ⟨F3, rfl, hm, hc⟩; have HS3 : Hid (Stk 57 3 w3 b F3 (i64s [4]) 1) := hm; have HB3 := Lib.hid (turn_chain HB2.out hc HA2.out); have HA3 := Lib.hid (HA2.out.turn HB2.out.size hc); clear hm hc)
    | (go_at_call 32; have _t := t2; refine (iPop_any HS3.out).mono ?_; rintro e w4 ⟨F4, rfl, hm, hc⟩; have HS4 : Hid (Stk 57 3 w4 b F4 (i64s []) 1) := hm; have HB4 := Lib.hid (turn_chain HB3.out hc HA3.out); have HA4 := Lib.hid (HA3.out.turn HB3.out.size hc); clear hm hc t2)
    | (go_at_call 32; refine (iPop_any HS4.out).mono ?_; rintro e w5 ⟨F5, rfl, hm, hc⟩; have HS5 := Lib.hid hm; have HB5 := Lib.hid (turn_chain HB4.out hc HA4.out); clear hm hc)
    | (go_at_call 11; refine (iRoom_any HS5.out).mono ?_; rintro e w6 ⟨rfl, hw⟩; subst w6))
  go_ret
  exact ⟨by simp [pickV, inB], HB5.out⟩
set_option maxRecDepth 100000 in
theorem numbers_any (w : World) : Calls Try.prog 3 #[] w fun e w' => e = .returned (.bool true) ∧ Below w.heap.size w w' := by
  have e1 : roomV 1099511627776 = 65536 := by decide
  have e2 : roomV (-3) = 0 := by decide
  have HN1 := Lib.hid (fun w => sNew_any 1099511627776 w)
  have HN2 := Lib.hid (fun w => iNew_any (-3) w)
  rw [e1] at HN1
  rw [e2] at HN2
  clear e1 e2
  go_enter Try.func3, Try.ntmps3
  go_wp2_with (first
    | (go_at_call 8; refine (HN1.out _).mono ?_; rintro e w1 ⟨b, rfl, hb0, hm, hb⟩; have HS1 := Lib.hid hm; have HB1 := Lib.hid hb; clear hm hb hb0)
    | (go_at_call 9; refine (HN2.out _).mono ?_; rintro e w2 ⟨b2, rfl, hb0, hm, hb⟩; have HT2 := Lib.hid hm; have HS2 := Lib.hid (HS1.out.on hb); have HB2 := Lib.hid (below_chain HB1.out hb); clear hm hb hb0)
    | (go_at_call 10; refine (sRoom_any (l := []) HS2.out).mono ?_; rintro e w6 ⟨rfl, hw⟩; subst w6)
    | (go_at_call 11; refine (iRoom_any (l := []) HT2.out).mono ?_; rintro e w6 ⟨rfl, hw⟩; subst w6))
  go_ret
  exact ⟨rfl, HB2.out⟩
end Go.Proofs.Yteeemjidjckimaa
