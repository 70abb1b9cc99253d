import Derived.Test.YtmkikapoflaghaaU6
import Derived.Test.YtmkikapoflaghaaSq
namespace Go.Proofs.Ytmkikapoflaghaa
open Go.ChangeShapes Go.WideShapes Go.ChangeAt Go.RowKit

section
variable {W w w' : World} {b g l q : Nat} {p k : Nat → Int} {ws ws' : List Int} {o o' : Bool} {c c' : Int}
theorem Ob.held (h : Ob W w b g l q p k ws o c) {t : Nat} (ht : t < 8) {x : Int} (hx : k t = x) : w.cell? ⟨l, t * 2 + 1, none⟩ = some (.int .u64 x) ∧ w.cell? ⟨q, 0, none⟩ = some (.int .i64 0) ∧ w.cell? ⟨q, 1, none⟩ = some (.int .i64 1) ∧ w.cell? ⟨q, 2, none⟩ = some (.int .i64 0) ∧ w.cell? ⟨q, 3, none⟩ = some (.int .i64 0) ∧ w.cell? ⟨q, 4, none⟩ = some (.int .i64 0) ∧ w.cell? ⟨q, 5, none⟩ = some (.int .i64 0) := by
  obtain ⟨⟨_, a1, _, _⟩, _, p0, p1, p2, p3, p4, p5, _⟩ := h.cells ht
  exact ⟨by rw [a1, hx], p0, p1, p2, p3, p4, p5⟩
set_option maxHeartbeats 8000000 in
set_option maxRecDepth 100000 in
theorem one_wait {n s x : Int} {m : Nat} (hm : MemAt 59 W b g [n, s] o c) (hl : TuAt W l p k) (h1 : l ≠ b) (h2 : l ≠ g) {t : Nat} (ht : t < 8) (hp : p t = 1) (hx : k t = x) (hcnt : cu (ahP p k x) 8 = m) (hbt : betw s x = m) (hm0 : m ≠ 0) (hsx : s ≠ x) :
    Calls Try.prog 21 #[.pointer (some ⟨b, 0, none⟩), plnV 0 1 0 0 0 0, .slice (some ⟨l, 0, none⟩) 8 8, .int .i64 t] W fun e w' => e = .returned (.tuple #[.int .i64 (-1), .bool true]) ∧ ∃ c' q, Ob W w' b g l q p k [n, s] false c' := by
  have H0 := Lib.hid (ob_new hm hl h1 h2)
  have HT := Lib.hid ht
  have HP := Lib.hid hp
  have HX := Lib.hid hx
  have HC := Lib.hid hcnt
  have HBT := Lib.hid hbt
  have HLK : Hid (decide (s = x) = false) := decide_eq_false hsx
  have hm0 : ¬ (m : Int) = 0 := by omega
  clear hsx
  have ht8 : (t : Int) < 8 := by omega
  unfold plnV
  clear hm hl h1 h2 hp hx hcnt hbt
  go_enter Try.func21, Try.ntmps21
  go_wp2_with (go_at_call 7; refine (open_any H0.out.m).mono ?_; rintro e w1 ⟨rfl, hm, hc⟩; have H1 := Lib.hid (H0.out.chg hm hc); obtain ⟨⟨a0, a1, a2, a3⟩, a4, p0, p1, p2, p3, p4, p5, p6⟩ := H1.out.cells HT.out; rw [HP.out] at a0; rw [HX.out] at a1; clear hm hc H0)
  go_loopw [12, 13] (fun vk vi wr => ∃ (i j : Nat), vk = .int .i64 (cu (ahP p k x) i : Nat) ∧ vi = .int .i64 i ∧ wr = w1.drewN j ∧ i ≤ 8) (fun _ vi _ => 8 - (intOf vi).toNat)
  case atStart => exact ⟨0, 0, rfl, rfl, by rw [World.drewN_zero], by omega⟩
  case round =>
    obtain ⟨i, j, rfl, rfl, rfl, hi⟩ := hrel
    by_cases hlt : i < 8
    · have hlt' : (i : Int) < 8 := by omega
      obtain ⟨c0, c1, _, _⟩ := H1.out.t.at' hlt
      have hcu : (cu (ahP p k x) (i + 1) : Nat) = cu (ahP p k x) i + (if ahP p k x i then 1 else 0) := rfl
      have hle := cu_le (ahP p k x) i
      unfold ahP at hcu
      by_cases q1 : 0 < p i
      · by_cases q2 : k i < x
        · rw [decide_eq_true q1, decide_eq_true q2] at hcu
          have HCU : Hid ((cu (ahP p k x) (i + 1) : Nat) = cu (ahP p k x) i + 1) := hcu
          clear hcu
          generalize p i = pi at *
          generalize k i = ki at *
          obtain ⟨z, hz⟩ : ∃ z, z = cu (ahP p k x) i := ⟨_, rfl⟩
          rw [← hz] at HCU hle ⊢
          clear hz
          go_wp2
          go_quiet (fail)
          go_wp2
          exact ⟨⟨i + 1, _, by rw [HCU.out]; first | rfl | (congr 1), by first | rfl | (congr 1), rfl, by omega⟩, by simp [intOf]; omega⟩
        · rw [decide_eq_true q1, decide_eq_false q2] at hcu
          have HCU : Hid ((cu (ahP p k x) (i + 1) : Nat) = cu (ahP p k x) i) := hcu
          clear hcu
          generalize p i = pi at *
          generalize k i = ki at *
          obtain ⟨z, hz⟩ : ∃ z, z = cu (ahP p k x) i := ⟨_, rfl⟩
          rw [← hz] at HCU hle ⊢
          clear hz
          go_wp2
          go_quiet (fail)
          go_wp2
          exact ⟨⟨i + 1, _, by rw [HCU.out], by first | rfl | (congr 1), rfl, by omega⟩, by simp [intOf]; omega⟩
      · have q1' : decide (0 < p i) = false := decide_eq_false q1
        rw [decide_eq_false q1] at hcu
        have HCU : Hid ((cu (ahP p k x) (i + 1) : Nat) = cu (ahP p k x) i) := hcu
        clear hcu
        generalize p i = pi at *
        generalize k i = ki at *
        obtain ⟨z, hz⟩ : ∃ z, z = cu (ahP p k x) i := ⟨_, rfl⟩
        rw [← hz] at HCU hle ⊢
        clear hz
        go_wp2
        go_quiet (fail)
        go_wp2
        exact ⟨⟨i + 1, _, by rw [HCU.out], by first | rfl | (congr 1), rfl, by omega⟩, by simp [intOf]; omega⟩
    · have hlt' : ¬ (i : Int) < 8 := by omega
      have e : i = 8 := by omega
      subst e
      rw [HC.out]
      have HR := Lib.hid ((H1.out.on (drewN_below w1 j)).on (tb_drew (Below.refl _ _)))
      clear H1 hlt hi
      go_wp2
      refine wp_region_seq (fun w' => w'.cell? ⟨l, t * 2 + 1, none⟩ = some (.int .u64 x) ∧ w'.cell? ⟨W.heap.size, 0, none⟩ = some (.int .i64 0) ∧ w'.cell? ⟨W.heap.size, 1, none⟩ = some (.int .i64 1) ∧ w'.cell? ⟨W.heap.size, 2, none⟩ = some (.int .i64 0) ∧ w'.cell? ⟨W.heap.size, 3, none⟩ = some (.int .i64 0) ∧ w'.cell? ⟨W.heap.size, 4, none⟩ = some (.int .i64 0) ∧ w'.cell? ⟨W.heap.size, 5, none⟩ = some (.int .i64 0)) ((0, true) :: (1, true) :: (2, true) :: (3, true) :: (4, true) :: (5, true) :: (6, true) :: (7, false) :: (8, true) :: (9, true) :: (10, true) :: (11, true) :: (12, true) :: []) follows12 (by kernel_rfl) (fun _ _ _ _ _ h => h) (HR.out.held HT.out HX.out) ?_
      repeat (refine wpSeq_take (v := ?_) rfl (by rfl) (fun wq hSq => ?_) ?_; rotate_left; (focus ((try dsimp only at hSq); go_simp; try with_reducible rfl)); simp only [Act.put, List.setIfInBounds_toArray, List.set_cons_zero, List.set_cons_succ])
      refine wpSeq_do rfl (by rfl) (fun KK hK => ?_)
      go_simp
      refine (ahead_any HR.out.m 0 1 0 0 0 0 x).mono ?_
      rw [(tw2 n s x).1, (tw2 n s x).2, HBT.out]
      rintro e w2 ⟨rfl, hm, hb⟩
      have H2 := Lib.hid (HR.out.on hb); clear hm hb HR
      refine hK.out _ _ (H2.out.held HT.out HX.out) ?_
      clear hK KK
      try simp only [Act.put, List.setIfInBounds_toArray, List.set_cons_zero, List.set_cons_succ]
      repeat (refine wpSeq_take (v := ?_) rfl (by rfl) (fun wq hSq => ?_) ?_; rotate_left; (focus ((try dsimp only at hSq); go_simp; try with_reducible rfl)); simp only [Act.put, List.setIfInBounds_toArray, List.set_cons_zero, List.set_cons_succ])
      refine wpSeq_nil ?_
      have HR := Lib.hid (H2.out.on (tb_drew (Below.refl _ _)))
      clear H2
      go_wp2
      refine wp_region_seq (fun w' => w'.cell? ⟨l, t * 2 + 1, none⟩ = some (.int .u64 x) ∧ w'.cell? ⟨W.heap.size, 0, none⟩ = some (.int .i64 0) ∧ w'.cell? ⟨W.heap.size, 1, none⟩ = some (.int .i64 1) ∧ w'.cell? ⟨W.heap.size, 2, none⟩ = some (.int .i64 0) ∧ w'.cell? ⟨W.heap.size, 3, none⟩ = some (.int .i64 0) ∧ w'.cell? ⟨W.heap.size, 4, none⟩ = some (.int .i64 0) ∧ w'.cell? ⟨W.heap.size, 5, none⟩ = some (.int .i64 0)) ((0, true) :: (1, true) :: (2, true) :: (3, true) :: (4, true) :: (5, true) :: (6, true) :: (7, false) :: (8, true) :: (9, true) :: (10, true) :: (11, true) :: (12, true) :: []) follows12 (by kernel_rfl) (fun _ _ _ _ _ h => h) (HR.out.held HT.out HX.out) ?_
      repeat (refine wpSeq_take (v := ?_) rfl (by rfl) (fun wq hSq => ?_) ?_; rotate_left; (focus ((try dsimp only at hSq); go_simp; try with_reducible rfl)); simp only [Act.put, List.setIfInBounds_toArray, List.set_cons_zero, List.set_cons_succ])
      refine wpSeq_do rfl (by rfl) (fun KK hK => ?_)
      go_simp
      refine (look_any HR.out.m 0 1 0 0 0 0 x).mono ?_
      rw [(tw3 n s x).1, (tw3 n s x).2.1, (tw3 n s x).2.2, HLK.out]
      rintro e w3 ⟨rfl, hm, hc⟩
      have H3 := Lib.hid (HR.out.chg hm hc); clear hm hc HR
      refine hK.out _ _ (H3.out.held HT.out HX.out) ?_
      clear hK KK
      try simp only [Act.put, List.setIfInBounds_toArray, List.set_cons_zero, List.set_cons_succ]
      repeat (refine wpSeq_take (v := ?_) rfl (by rfl) (fun wq hSq => ?_) ?_; rotate_left; (focus ((try dsimp only at hSq); go_simp; try with_reducible rfl)); simp only [Act.put, List.setIfInBounds_toArray, List.set_cons_zero, List.set_cons_succ])
      refine wpSeq_nil ?_
      obtain ⟨⟨d0, d1, d2, d3⟩, d4, _⟩ := H3.out.cells HT.out
      go_wp2
      go_ret2
      exact ⟨rfl, _, _, H3.out⟩
set_option maxHeartbeats 8000000 in
set_option maxRecDepth 100000 in
theorem one_told {n s x : Int} {m : Nat} (hm : MemAt 59 W b g [n, s] o c) (hl : TuAt W l p k) (h1 : l ≠ b) (h2 : l ≠ g) {t : Nat} (ht : t < 8) (hp : p t = 1) (hx : k t = x) (hcnt : cu (ahP p k x) 8 = m) (hbt : betw s x = m) (hm0 : m = 0) (hsx : s = x) :
    Calls Try.prog 21 #[.pointer (some ⟨b, 0, none⟩), plnV 0 1 0 0 0 0, .slice (some ⟨l, 0, none⟩) 8 8, .int .i64 t] W fun e w' => e = .returned (.tuple #[.int .i64 t, .bool true]) ∧ ∃ c' q, Ob W w' b g l q (upd p t 2) k [n, s] false c' := by
  have H0 := Lib.hid (ob_new hm hl h1 h2)
  have HT := Lib.hid ht
  have HP := Lib.hid hp
  have HX := Lib.hid hx
  have HC := Lib.hid hcnt
  have HBT := Lib.hid hbt
  have HLK : Hid (decide (s = x) = true) := decide_eq_true hsx
  subst hm0
  clear hsx
  have ht8 : (t : Int) < 8 := by omega
  unfold plnV
  clear hm hl h1 h2 hp hx hcnt hbt
  go_enter Try.func21, Try.ntmps21
  go_wp2_with (go_at_call 7; refine (open_any H0.out.m).mono ?_; rintro e w1 ⟨rfl, hm, hc⟩; have H1 := Lib.hid (H0.out.chg hm hc); obtain ⟨⟨a0, a1, a2, a3⟩, a4, p0, p1, p2, p3, p4, p5, p6⟩ := H1.out.cells HT.out; rw [HP.out] at a0; rw [HX.out] at a1; clear hm hc H0)
  go_loopw [12, 13] (fun vk vi wr => ∃ (i j : Nat), vk = .int .i64 (cu (ahP p k x) i : Nat) ∧ vi = .int .i64 i ∧ wr = w1.drewN j ∧ i ≤ 8) (fun _ vi _ => 8 - (intOf vi).toNat)
  case atStart => exact ⟨0, 0, rfl, rfl, by rw [World.drewN_zero], by omega⟩
  case round =>
    obtain ⟨i, j, rfl, rfl, rfl, hi⟩ := hrel
    by_cases hlt : i < 8
    · have hlt' : (i : Int) < 8 := by omega
      obtain ⟨c0, c1, _, _⟩ := H1.out.t.at' hlt
      have hcu : (cu (ahP p k x) (i + 1) : Nat) = cu (ahP p k x) i + (if ahP p k x i then 1 else 0) := rfl
      have hle := cu_le (ahP p k x) i
      unfold ahP at hcu
      by_cases q1 : 0 < p i
      · by_cases q2 : k i < x
        · rw [decide_eq_true q1, decide_eq_true q2] at hcu
          have HCU : Hid ((cu (ahP p k x) (i + 1) : Nat) = cu (ahP p k x) i + 1) := hcu
          clear hcu
          generalize p i = pi at *
          generalize k i = ki at *
          obtain ⟨z, hz⟩ : ∃ z, z = cu (ahP p k x) i := ⟨_, rfl⟩
          rw [← hz] at HCU hle ⊢
          clear hz
          go_wp2
          go_quiet (fail)
          go_wp2
          exact ⟨⟨i + 1, _, by rw [HCU.out]; first | rfl | (congr 1), by first | rfl | (congr 1), rfl, by omega⟩, by simp [intOf]; omega⟩
        · rw [decide_eq_true q1, decide_eq_false q2] at hcu
          have HCU : Hid ((cu (ahP p k x) (i + 1) : Nat) = cu (ahP p k x) i) := hcu
          clear hcu
          generalize p i = pi at *
          generalize k i = ki at *
          obtain ⟨z, hz⟩ : ∃ z, z = cu (ahP p k x) i := ⟨_, rfl⟩
          rw [← hz] at HCU hle ⊢
          clear hz
          go_wp2
          go_quiet (fail)
          go_wp2
          exact ⟨⟨i + 1, _, by rw [HCU.out], by first | rfl | (congr 1), rfl, by omega⟩, by simp [intOf]; omega⟩
      · have q1' : decide (0 < p i) = false := decide_eq_false q1
        rw [decide_eq_false q1] at hcu
        have HCU : Hid ((cu (ahP p k x) (i + 1) : Nat) = cu (ahP p k x) i) := hcu
        clear hcu
        generalize p i = pi at *
        generalize k i = ki at *
        obtain ⟨z, hz⟩ : ∃ z, z = cu (ahP p k x) i := ⟨_, rfl⟩
        rw [← hz] at HCU hle ⊢
        clear hz
        go_wp2
        go_quiet (fail)
        go_wp2
        exact ⟨⟨i + 1, _, by rw [HCU.out], by first | rfl | (congr 1), rfl, by omega⟩, by simp [intOf]; omega⟩
    · have hlt' : ¬ (i : Int) < 8 := by omega
      have e : i = 8 := by omega
      subst e
      rw [HC.out]
      have HR := Lib.hid ((H1.out.on (drewN_below w1 j)).on (tb_drew (Below.refl _ _)))
      clear H1 hlt hi
      go_wp2
      refine wp_region_seq (fun w' => w'.cell? ⟨l, t * 2 + 1, none⟩ = some (.int .u64 x) ∧ w'.cell? ⟨W.heap.size, 0, none⟩ = some (.int .i64 0) ∧ w'.cell? ⟨W.heap.size, 1, none⟩ = some (.int .i64 1) ∧ w'.cell? ⟨W.heap.size, 2, none⟩ = some (.int .i64 0) ∧ w'.cell? ⟨W.heap.size, 3, none⟩ = some (.int .i64 0) ∧ w'.cell? ⟨W.heap.size, 4, none⟩ = some (.int .i64 0) ∧ w'.cell? ⟨W.heap.size, 5, none⟩ = some (.int .i64 0)) ((0, true) :: (1, true) :: (2, true) :: (3, true) :: (4, true) :: (5, true) :: (6, true) :: (7, false) :: (8, true) :: (9, true) :: (10, true) :: (11, true) :: (12, true) :: []) follows12 (by kernel_rfl) (fun _ _ _ _ _ h => h) (HR.out.held HT.out HX.out) ?_
      repeat (refine wpSeq_take (v := ?_) rfl (by rfl) (fun wq hSq => ?_) ?_; rotate_left; (focus ((try dsimp only at hSq); go_simp; try with_reducible rfl)); simp only [Act.put, List.setIfInBounds_toArray, List.set_cons_zero, List.set_cons_succ])
      refine wpSeq_do rfl (by rfl) (fun KK hK => ?_)
      go_simp
      refine (ahead_any HR.out.m 0 1 0 0 0 0 x).mono ?_
      rw [(tw2 n s x).1, (tw2 n s x).2, HBT.out]
      rintro e w2 ⟨rfl, hm, hb⟩
      have H2 := Lib.hid (HR.out.on hb); clear hm hb HR
      refine hK.out _ _ (H2.out.held HT.out HX.out) ?_
      clear hK KK
      try simp only [Act.put, List.setIfInBounds_toArray, List.set_cons_zero, List.set_cons_succ]
      repeat (refine wpSeq_take (v := ?_) rfl (by rfl) (fun wq hSq => ?_) ?_; rotate_left; (focus ((try dsimp only at hSq); go_simp; try with_reducible rfl)); simp only [Act.put, List.setIfInBounds_toArray, List.set_cons_zero, List.set_cons_succ])
      refine wpSeq_nil ?_
      have HR := Lib.hid (H2.out.on (tb_drew (Below.refl _ _)))
      clear H2
      go_wp2
      refine wp_region_seq (fun w' => w'.cell? ⟨l, t * 2 + 1, none⟩ = some (.int .u64 x) ∧ w'.cell? ⟨W.heap.size, 0, none⟩ = some (.int .i64 0) ∧ w'.cell? ⟨W.heap.size, 1, none⟩ = some (.int .i64 1) ∧ w'.cell? ⟨W.heap.size, 2, none⟩ = some (.int .i64 0) ∧ w'.cell? ⟨W.heap.size, 3, none⟩ = some (.int .i64 0) ∧ w'.cell? ⟨W.heap.size, 4, none⟩ = some (.int .i64 0) ∧ w'.cell? ⟨W.heap.size, 5, none⟩ = some (.int .i64 0)) ((0, true) :: (1, true) :: (2, true) :: (3, true) :: (4, true) :: (5, true) :: (6, true) :: (7, false) :: (8, true) :: (9, true) :: (10, true) :: (11, true) :: (12, true) :: []) follows12 (by kernel_rfl) (fun _ _ _ _ _ h => h) (HR.out.held HT.out HX.out) ?_
      repeat (refine wpSeq_take (v := ?_) rfl (by rfl) (fun wq hSq => ?_) ?_; rotate_left; (focus ((try dsimp only at hSq); go_simp; try with_reducible rfl)); simp only [Act.put, List.setIfInBounds_toArray, List.set_cons_zero, List.set_cons_succ])
      refine wpSeq_do rfl (by rfl) (fun KK hK => ?_)
      go_simp
      refine (look_any HR.out.m 0 1 0 0 0 0 x).mono ?_
      rw [(tw3 n s x).1, (tw3 n s x).2.1, (tw3 n s x).2.2, HLK.out]
      rintro e w3 ⟨rfl, hm, hc⟩
      have H3 := Lib.hid (HR.out.chg hm hc); clear hm hc HR
      refine hK.out _ _ (H3.out.held HT.out HX.out) ?_
      clear hK KK
      try simp only [Act.put, List.setIfInBounds_toArray, List.set_cons_zero, List.set_cons_succ]
      repeat (refine wpSeq_take (v := ?_) rfl (by rfl) (fun wq hSq => ?_) ?_; rotate_left; (focus ((try dsimp only at hSq); go_simp; try with_reducible rfl)); simp only [Act.put, List.setIfInBounds_toArray, List.set_cons_zero, List.set_cons_succ])
      refine wpSeq_nil ?_
      obtain ⟨⟨d0, d1, d2, d3⟩, d4, _⟩ := H3.out.cells HT.out
      go_wp2
      go_ret2
      exact ⟨rfl, _, _, H3.out.setP t HT.out 2⟩
end
end Go.Proofs.Ytmkikapoflaghaa
