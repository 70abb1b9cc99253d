import Derived.Test.YtmmijcmlnhmooaaE6
namespace Go.Proofs.Ytmmijcmlnhmooaa
open Go.ChangeShapes Go.WideShapes Go.ChangeAt Go.RowKit Num
attribute [local go_sem] run_store_float run_store_func run_store_nilFunc

/-- numbers, wherever they lie, but not in the blocks of L -/
def FlAt (w : World) (L : List Nat) (p : Option Addr) (l : List Nat) : Prop :=
  ∀ i, i < l.length → ∃ g o, p = some ⟨g, o, none⟩ ∧ g < w.heap.size ∧ g ∉ L ∧ w.cell? ⟨g, o + i, none⟩ = some (.float .f64 (l.getD i 0))
theorem FlAt.ch {w w' : World} {L : List Nat} {p : Option Addr} {l : List Nat} (h : FlAt w L p l) (k : Ch L w w') : FlAt w' L p l := fun i hi => by
  obtain ⟨g, o, h1, h2, h3, h4⟩ := h i hi
  exact ⟨g, o, h1, Nat.lt_of_lt_of_le h2 k.size, h3, (World.cell?_of_block (a := ⟨g, o + i, none⟩) (k.block g h2 h3)).trans h4⟩
def planC (a b c d p f : Int) : Array Value := #[.int .i64 a, .int .i64 b, .int .i64 c, .int .i64 d, .int .i64 p, .int .i64 f]
/-- in the midst of a Start: the memory, the plan's own block -/
structure Sa (w wr : World) (b g : Nat) (P : Array Value) (ws : List Int) (o : Bool) (n : Int) : Prop where
  mem : MemAt 90 wr b g ws o n
  chg : Chg b g w wr
  plan : wr.heap[w.heap.size]? = some (.cells P 31 (0, 0))
  lb : b < w.heap.size
  lg : g < w.heap.size
section
variable {w wr u : World} {b g : Nat} {P : Array Value} {ws ws' : List Int} {o o' : Bool} {n n' : Int}
theorem Sa.on (h : Sa w wr b g P ws o n) (k : Below wr.heap.size wr u) : Sa w u b g P ws o n :=
  ⟨h.mem.on k, h.chg.trans ⟨k.os, k.tape, k.output, k.size, fun i hi _ _ => k.block i hi⟩, (k.block _ (lt_of_block h.plan)).trans h.plan, h.lb, h.lg⟩
theorem Sa.next (h : Sa w wr b g P ws o n) (m : MemAt 90 u b g ws' o' n') (k : Chg b g wr u) : Sa w u b g P ws' o' n' :=
  ⟨m, h.chg.trans k, (k.block _ (lt_of_block h.plan) (by have := h.lb; omega) (by have := h.lg; omega)).trans h.plan, h.lb, h.lg⟩
end
/-- the same with a spot's own block -/
structure Sb (w wr u : World) (b g : Nat) (P : Array Value) (p c : Int) (ws : List Int) (o : Bool) (n : Int) : Prop where
  sa : Sa w u b g P ws o n
  spot : u.heap[wr.heap.size]? = some (.cells #[.int .i64 p, .int .i64 c] 81 (0, 0))
  big : w.heap.size ≤ wr.heap.size
section
variable {w wr u u' : World} {b g : Nat} {P : Array Value} {p c : Int} {ws ws' : List Int} {o o' : Bool} {n n' : Int}
theorem Sb.on (h : Sb w wr u b g P p c ws o n) (k : Below u.heap.size u u') : Sb w wr u' b g P p c ws o n := ⟨h.sa.on k, (k.block _ (lt_of_block h.spot)).trans h.spot, h.big⟩
theorem Sb.next (h : Sb w wr u b g P p c ws o n) (m : MemAt 90 u' b g ws' o' n') (k : Chg b g u u') : Sb w wr u' b g P p c ws' o' n' :=
  ⟨h.sa.next m k, (k.block _ (lt_of_block h.spot) (by have := h.big; have := h.sa.lb; omega) (by have := h.big; have := h.sa.lg; omega)).trans h.spot, h.big⟩
end
theorem box6 {w : World} {x : Nat} {a1 a2 a3 a4 p a6 : Int} {T : TypeId} (h : w.heap[x]? = some (.cells (planC a1 a2 a3 a4 p a6) T (0, 0))) : (w.cell? ⟨x, 0, none⟩ = some (.int .i64 a1) ∧ w.cell? ⟨x, 1, none⟩ = some (.int .i64 a2) ∧ w.cell? ⟨x, 2, none⟩ = some (.int .i64 a3) ∧ w.cell? ⟨x, 3, none⟩ = some (.int .i64 a4) ∧ w.cell? ⟨x, 4, none⟩ = some (.int .i64 p) ∧ w.cell? ⟨x, 5, none⟩ = some (.int .i64 a6) ∧ x < w.heap.size) :=
  ⟨by rw [cell_of_row w x 0 _ _ _ h]; rfl, by rw [cell_of_row w x 1 _ _ _ h]; rfl, by rw [cell_of_row w x 2 _ _ _ h]; rfl, by rw [cell_of_row w x 3 _ _ _ h]; rfl, by rw [cell_of_row w x 4 _ _ _ h]; rfl, by rw [cell_of_row w x 5 _ _ _ h]; rfl, lt_of_block h⟩
/-- the words behind a cell that was laid; behind the first k -/
def laidC (ws : List Int) (p : Int) (i : Nat) (x : Nat) : List Int := poked (poked (poked ws (placeI p i 0) 0) (placeI p i 1) (fixB x)) (placeI p i 2) 0
def startL (ws : List Int) (p : Int) (l : List Nat) : Nat → List Int
  | 0 => ws
  | k + 1 => laidC (startL ws p l k) p k (l.getD k 0)
def startE (ws : List Int) (p : Int) (l : List Nat) : Int := if 256 < l.length then 2 else if (List.range l.length).all (fun i => okP ws p i) then 0 else 30
theorem mayC_nat {k : Nat} (h : k < 256) : mayC k = true := decide_eq_true ⟨by omega, by omega⟩
section
variable {w : World} {b g : Nat} {ws : List Int} {o : Bool} {n : Int} {ao : Option Addr} {cap : Nat} {l : List Nat}
set_option maxRecDepth 100000 in
theorem start_long (a1 a2 a3 a4 p a6 : Int) {m : Nat} (hl : 256 < m) (w : World) : Calls Try.prog 23 #[.pointer (some ⟨b, 0, none⟩), planV a1 a2 a3 a4 p a6, .slice ao m cap] w fun e w' => e = .returned (.int .i64 2) ∧ Below w.heap.size w w' := by
  have hl' : (256 : Int) < (m : Int) := by omega
  unfold planV
  go_enter Try.func23, Try.ntmps23
  go_wp2
  go_ret
  exact ⟨rfl, bl_alloc (Below.refl _ _) _⟩
set_option maxRecDepth 100000 in
set_option maxHeartbeats 4000000 in
theorem start_in (h : MemAt 90 w b g ws o n) (hf : FlAt w [b, g] ao l) (a1 a2 a3 a4 p a6 : Int) {m : Nat} (hm : l.length = m) (hl : m ≤ 256) : Calls Try.prog 23 #[.pointer (some ⟨b, 0, none⟩), planV a1 a2 a3 a4 p a6, .slice ao m cap] w fun e w' => ((e = .returned (.int .i64 0) ∧ (∀ j : Nat, j < m → okP ws p j = true) ∧ MemAt 90 w' b g (startL ws p l m) o n) ∨ (e = .returned (.int .i64 30) ∧ (∃ j : Nat, j < m ∧ okP ws p j = false) ∧ MemAt 90 w' b g ws o n)) ∧ Chg b g w w' := by
  have hl' : ¬ (256 : Int) < (m : Int) := by omega
  have HSA : Hid (Sa w (w.alloc (.cells (planC a1 a2 a3 a4 p a6) 31)) b g (planC a1 a2 a3 a4 p a6) ws o n) := ⟨h.alloc _, (Chg.refl _ _ _).alloc _, alloc_at rfl, h.ltB, h.ltG⟩
  have HPK : Hid (∀ u ws', Sa w u b g (planC a1 a2 a3 a4 p a6) ws' o n → ∀ c : Int, Calls Try.prog 9 #[.pointer (some ⟨b, 0, none⟩), planV a1 a2 a3 a4 p a6, .int .i64 c] u fun e w' => e = .returned (.tuple #[tripV (peekW ws' p c 0) (peekW ws' p c 1) (peekW ws' p c 2), .int .i64 (peekE ws' p c)]) ∧ Below u.heap.size u w') := fun u ws' k c => cpeek_any k.mem a1 a2 a3 a4 p a6 c
  have HFL : Hid (∀ u ws' , Sa w u b g (planC a1 a2 a3 a4 p a6) ws' o n → ∀ k, k < m → ∃ g o, ao = some ⟨g, o, none⟩ ∧ g < u.heap.size ∧ u.cell? ⟨g, o + k, none⟩ = some (.float .f64 (l.getD k 0))) := fun u ws' q k hk => by
    obtain ⟨g', o', h1, h2, h3, h4⟩ := (hf.ch (q.chg.ch (by simp) (by simp))) k (by omega)
    exact ⟨g', o', h1, h2, h4⟩
  have HML := Lib.hid (And.intro hm hl)
  unfold planV at HPK ⊢
  clear h hf hm hl
  go_enter Try.func23, Try.ntmps23
  go_wp2
  go_loopw [18] (fun vi wr => ∃ k : Nat, vi = .int .i64 k ∧ k ≤ m ∧ Hid (Sa w wr b g (planC a1 a2 a3 a4 p a6) ws o n) ∧ Hid (∀ j : Nat, j < k → okP ws p j = true)) (fun vi _ => m - (intOf vi).toNat)
  case atStart => exact ⟨0, rfl, Nat.zero_le _, HSA, fun j hj => absurd hj (Nat.not_lt_zero j)⟩
  case round =>
    clear HSA
    obtain ⟨k, rfl, hk, HS, HK⟩ := hrel
    obtain ⟨p0, p1, p2, p3, p4, p5, p6⟩ := box6 HS.out.plan
    by_cases hlt : k < m
    · have hlt' : (k : Int) < (m : Int) := by omega
      have hmc : mayC k = true := mayC_nat (by have := HML.out.2; omega)
      have HPKK := Lib.hid (HPK.out wr ws HS.out k)
      cases hh : okP ws p k
      · have HEX : Hid (∃ j : Nat, j < m ∧ okP ws p j = false) := ⟨k, hlt, hh⟩
        have e1 : peekE ws p k = 30 := by simp [peekE, hmc, hh]
        simp only [peekW, e1] at HPKK
        simp at HPKK
        unfold tripV at HPKK
        clear hh hmc e1 hk hlt HPK HFL HML HK
        go_wp2_with (go_at_call 9; refine HPKK.out.mono ?_; rintro e w2 ⟨rfl, hw⟩; have HS2 := Lib.hid (HS.out.on hw); clear hw HS)
        go_ret
        exact ⟨.inr ⟨rfl, HEX.out, (HS2.out.on (by repeat (first | exact Below.refl _ _ | refine bl_drew ?_ | refine bl_drewN _ ?_ | refine bl_alloc ?_ _ | refine bl_setCell ?_ (by simp) _ _ | refine bl_setRow ?_ (by simp) _))).mem⟩, (HS2.out.on (by repeat (first | exact Below.refl _ _ | refine bl_drew ?_ | refine bl_drewN _ ?_ | refine bl_alloc ?_ _ | refine bl_setCell ?_ (by simp) _ _ | refine bl_setRow ?_ (by simp) _))).chg⟩
      · have HALL : Hid (∀ j : Nat, j < k + 1 → okP ws p j = true) := fun j hj => by
          by_cases e : j = k
          · subst e; exact hh
          · exact HK.out j (by omega)
        have e1 : peekE ws p k = 0 := by simp [peekE, hmc, hh]
        simp only [peekW, e1] at HPKK
        simp at HPKK
        unfold tripV at HPKK
        generalize wordC ws p k 0 = x0 at HPKK
        generalize wordC ws p k 1 = x1 at HPKK
        generalize wordC ws p k 2 = x2 at HPKK
        clear hh hmc e1 hk HPK HFL HML HK
        go_wp2_with (go_at_call 9; refine HPKK.out.mono ?_; rintro e w2 ⟨rfl, hw⟩; have HS2 := Lib.hid (HS.out.on hw); clear hw HS)
        exact ⟨⟨k + 1, by first | rfl | (congr 1), by omega, HS2.out.on (by repeat (first | exact Below.refl _ _ | refine bl_drew ?_ | refine bl_drewN _ ?_ | refine bl_alloc ?_ _ | refine bl_setCell ?_ (by simp) _ _ | refine bl_setRow ?_ (by simp) _)), HALL⟩, by simp [intOf]; omega⟩
    · have hlt' : ¬ (k : Int) < (m : Int) := by omega
      obtain rfl : k = m := by omega
      clear hlt hk HPK
      go_wp2
      go_loopw [34] (fun vi w2 => ∃ j : Nat, vi = .int .i64 j ∧ j ≤ k ∧ Hid (Sa w w2 b g (planC a1 a2 a3 a4 p a6) (startL ws p l j) o n)) (fun vi _ => k - (intOf vi).toNat)
      case atStart => exact ⟨0, rfl, Nat.zero_le _, HS⟩
      case round =>
        clear HS p0 p1 p2 p3 p4 p5 p6 hlt'
        obtain ⟨j, rfl, hj, HS⟩ := hrel
        obtain ⟨p0, p1, p2, p3, p4, p5, p6⟩ := box6 HS.out.plan
        by_cases hlt : j < k
        · have hlt' : (j : Int) < (k : Int) := by omega
          have hmc : mayC j = true := mayC_nat (by have := HML.out.2; omega)
          have HPL := Lib.hid (fun (i : Int) (hi : 0 ≤ i ∧ i < 3) => splace_any p j i hmc hi)
          obtain ⟨g2, o2, hao, hg2, hx⟩ := HFL.out wr _ HS.out j hlt
          subst hao
          have HNX : Hid (startL ws p l (j + 1) = laidC (startL ws p l j) p j (l.getD j 0)) := rfl
          generalize startL ws p l j = z0 at HS HNX
          generalize l.getD j 0 = x at hx HNX
          clear hmc HFL HML hj
          have HX : Hid (Sb w wr (wr.alloc (.cells #[.int .i64 p, .int .i64 j] 81)) b g (planC a1 a2 a3 a4 p a6) p j z0 o n) := ⟨HS.out.on (bl_alloc (Below.refl _ _) _), alloc_at rfl, by omega⟩
          go_wp2_with (first
            | (go_at_call 54; refine (bits_any _ _).mono ?_; rintro e w2 ⟨rfl, hw⟩; subst w2)
            | (go_at_call 38; refine (HPL.out _ (by omega) _).mono ?_; rintro e w2 ⟨rfl, hw⟩; replace HX := Lib.hid (HX.out.on hw); obtain ⟨q0, q1, q2⟩ := box2 HX.out.spot; clear hw)
            | (go_at_call 25; refine (poke_any HX.out.sa.mem _ _).mono ?_; rintro e w2 ⟨rfl, hm, hc⟩; replace HX := Lib.hid (HX.out.next hm hc); obtain ⟨q0, q1, q2⟩ := box2 HX.out.spot; clear hm hc))
          refine ⟨⟨j + 1, by first | rfl | (congr 1), by omega, ?_⟩, by simp [intOf]; omega⟩
          have e0 : fixB 0 = 0 := by decide
          have hz := HX.out.sa
          rw [e0] at hz
          show Sa _ _ _ _ _ _ _ _
          rw [HNX.out]
          exact hz
        · have hlt' : ¬ (j : Int) < (k : Int) := by omega
          obtain rfl : j = k := by omega
          clear hlt hj
          go_wp2
          go_ret
          exact ⟨.inl ⟨rfl, HK.out, HS.out.mem⟩, HS.out.chg⟩
def startW (ws : List Int) (p : Int) (l : List Nat) : List Int := if startE ws p l = 0 then startL ws p l l.length else ws
theorem start_any (h : MemAt 90 w b g ws o n) (hf : FlAt w [b, g] ao l) (a1 a2 a3 a4 p a6 : Int) : Calls Try.prog 23 #[.pointer (some ⟨b, 0, none⟩), planV a1 a2 a3 a4 p a6, .slice ao l.length cap] w fun e w' => e = .returned (.int .i64 (startE ws p l)) ∧ MemAt 90 w' b g (startW ws p l) o n ∧ Chg b g w w' := by
  by_cases hl : 256 < l.length
  · have e1 : startE ws p l = 2 := by simp [startE, hl]
    have e2 : startW ws p l = ws := by simp [startW, e1]
    rw [e1, e2]
    exact (start_long a1 a2 a3 a4 p a6 hl w).mono fun e w' ⟨he, hb⟩ => ⟨he, h.on hb, ⟨hb.os, hb.tape, hb.output, hb.size, fun i hi _ _ => hb.block i hi⟩⟩
  · refine (start_in h hf a1 a2 a3 a4 p a6 rfl (by omega)).mono fun e w' ⟨he, hc⟩ => ?_
    rcases he with ⟨he, ha, hm⟩ | ⟨he, ⟨j, hj, hn⟩, hm⟩
    · have e1 : startE ws p l = 0 := by
        have : (List.range l.length).all (fun i => okP ws p i) = true := by
          rw [List.all_eq_true]
          exact fun j hj => ha j (List.mem_range.1 hj)
        simp only [startE, hl, this, if_false, if_true]
      rw [startW, e1, if_pos rfl]
      exact ⟨he, hm, hc⟩
    · have e1 : startE ws p l = 30 := by
        have : ¬ (List.range l.length).all (fun i => okP ws p i) = true := by
          rw [List.all_eq_true]
          intro q
          have := q j (List.mem_range.2 hj)
          rw [hn] at this
          cases this
        simp only [startE, hl, this, if_false]
        rfl
      rw [startW, e1, if_neg (by decide)]
      exact ⟨he, hm, hc⟩
end
end Go.Proofs.Ytmmijcmlnhmooaa
