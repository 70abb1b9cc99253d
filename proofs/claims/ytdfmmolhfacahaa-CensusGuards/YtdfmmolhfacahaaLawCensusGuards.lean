/- For every script of seven readers' and an updater's steps the statement CensusGuards answers true: no call is refused, a claim is at most the stamp, and from a scan's end on until the next stamp is published whoever is in has the stamp. No condition. -/
import Derived.Test.YtdfmmolhfacahaaM8
import Derived.Test.YtdfmmolhfacahaaVO
import Derived.Test.YtdfmmolhfacahaaVG5
namespace Go.Proofs.Ytdfmmolhfacahaa.censusGuards
open Go.ChangeShapes Go.WideShapes Go.ChangeAt Go.RowKit

set_option maxHeartbeats 32000000 in
set_option maxRecDepth 100000 in
theorem walk (ao : Option Addr) (len cap : Nat) (x : Nat → Nat) (hmax : len ≤ maxLen) (W : World) (hby : BytesAt W ao len x) : Calls Try.prog 6 #[.slice ao len cap] W fun r W2 => r = .returned (.bool true) ∧ Below W.heap.size W W2 := by
  obtain ⟨cur0, hs0, hc0, hmk⟩ := pMake
  have HC0 := Lib.hid (And.intro hs0 hc0)
  have HF := Lib.hid (fresh_any 9 (by decide) (by decide))
  have HBY := Lib.hid hby
  have hmm : len ≤ 9223372036854775807 := hmax
  clear hs0 hc0 hby hmax
  go_enter Try.func6, Try.ntmps6
  go_wp2_with (go_at_call 16; refine (live13_any _).mono ?_; rintro r w1 ⟨rfl, hb⟩; have HB1 := Lib.hid hb; clear hb)
  refine wp_region_two (fun _ => True) [1] 0 [(2, false), (3, true), (4, false), (5, true)] 2 [(0, false), (3, true), (4, false), (5, true)] follows13 (by kernel_rfl) (fun _ _ _ _ _ h => h) trivial ?_
  refine wpTwo_take (v := ?_) rfl (by rfl) (fun wq hSq => ?_) ?_
  rotate_left
  focus
    go_simp
    try with_reducible rfl
  simp only [Act.put, List.setIfInBounds_toArray, List.set_cons_zero, List.set_cons_succ]
  refine wpTwo_nil ?_ ?_
  · refine wpSeq_do rfl (by rfl) (fun KK hK => ?_)
    go_simp
    refine (HF.out _).mono ?_
    rintro r w2 ⟨rfl, hm, hb⟩
    have HM2 := Lib.hid hm
    have HB2 := Lib.hid hb
    clear hm hb
    refine hK.out _ _ trivial ?_
    clear hK KK
    try simp only [Act.put, List.setIfInBounds_toArray, List.set_cons_zero, List.set_cons_succ]
    refine wpSeq_do rfl (by rfl) (fun KK hK => ?_)
    go_simp
    refine hK.out _ _ trivial ?_
    clear hK KK
    try simp only [Act.put, List.setIfInBounds_toArray, List.set_cons_zero, List.set_cons_succ]
    repeat (first | (refine wpSeq_take (v := ?_) rfl (by rfl) (fun wq hSq => ?_) ?_; rotate_left; (focus ((try dsimp only at hSq); go_simp; try with_reducible rfl)); simp only [Act.put, List.setIfInBounds_toArray, List.set_cons_zero, List.set_cons_succ]) | (refine wpSeq_skip rfl (by rfl) ?_; simp only [Act.put, List.setIfInBounds_toArray, List.set_cons_zero, List.set_cons_succ]))
    refine wpSeq_do rfl (by rfl) (fun KK hK => ?_)
    go_simp
    refine hK.out _ _ trivial ?_
    clear hK KK
    try simp only [Act.put, List.setIfInBounds_toArray, List.set_cons_zero, List.set_cons_succ]
    repeat (first | (refine wpSeq_take (v := ?_) rfl (by rfl) (fun wq hSq => ?_) ?_; rotate_left; (focus ((try dsimp only at hSq); go_simp; try with_reducible rfl)); simp only [Act.put, List.setIfInBounds_toArray, List.set_cons_zero, List.set_cons_succ]) | (refine wpSeq_skip rfl (by rfl) ?_; simp only [Act.put, List.setIfInBounds_toArray, List.set_cons_zero, List.set_cons_succ]))
    refine wpSeq_nil ?_
    have hz1 := HB1.out.size
    have hz2 := HB2.out.size
    have HG := Lib.hid (rg_new (W := W) (HM2.out.alloc (.cells cur0 70)) (heap_alloc_new _ _) HC0.out.1 HC0.out.2 (tb_alloc (below_step (below_step HB1.out (tb_drew (Below.refl _ _))) HB2.out) _) (Nat.le_succ_of_le hz1) hz1 (Nat.le_trans hz1 hz2))
    obtain ⟨gx, hgx⟩ : ∃ gx, gx = w2.heap.size + 1 := ⟨_, rfl⟩
    have HG0 : Hid (Rg W ((w2.alloc (.cells cur0 70)).alloc (.cells #[.pointer (some ⟨w1.heap.size + 1, 0, none⟩), .int .i64 0, .int .i64 0, .int .i64 0, .int .i64 1, .int .i64 0, .int .i64 0, .slice (some ⟨w2.heap.size, 0, none⟩) 7 7, .int .i64 0, .int .u64 0, .pointer none] 67)) gx (w1.heap.size + 1) w1.heap.size w2.heap.size 0) := Lib.hid (by
      rw [hgx]
      simpa using HG.out)
    clear HG HM2 HB2 HB1 HC0 hmk HF hz1 hz2
    rw [← hgx]
    clear hgx
    obtain ⟨b, hb⟩ : ∃ b, b = w1.heap.size + 1 := ⟨_, rfl⟩
    obtain ⟨g, hg⟩ : ∃ g, g = w1.heap.size := ⟨_, rfl⟩
    obtain ⟨l, hl⟩ : ∃ l, l = w2.heap.size := ⟨_, rfl⟩
    rw [← hb, ← hl] at HG0
    rw [← hg] at HG0
    rw [← hb, ← hl]
    clear hb hg hl
    obtain ⟨p00, K00, S00, xb00, ws00, o00, n00, m00, d00, s00, a00, q00, zp00, z00, hR00⟩ := HG0.out
    obtain ⟨⟨c0, _⟩, _, _, _, _, c11, _⟩ := hR00.y.cells
    clear hR00
    go_wp2
    go_loopw [22] (fun vi wr => ∃ i : Nat, vi = .int .i64 i ∧ i ≤ len ∧ Hid (Rg W wr gx b g l i)) (fun vi _ => len - (intOf vi).toNat)
    case atStart => exact ⟨0, rfl, Nat.zero_le _, HG0⟩
    case round =>
      clear HG0 c0 c11
      obtain ⟨i, rfl, hil, HG⟩ := hrel
      obtain ⟨p, K, S, xb, ws, o, n, m, d, s, a, q, zp, z, hR⟩ := HG.out
      by_cases hlt : i < len
      · have hlt' : (i : Int) < (len : Int) := by omega
        obtain ⟨bx, off, hao, hbW, kx, hx256⟩ := HBY.out i hlt
        subst hao
        rw [← hR.y.below.cell (p := ⟨bx, off + i, none⟩) hbW] at kx
        have hbw := Nat.lt_of_lt_of_le hbW hR.y.below.size
        obtain ⟨y, hy⟩ : ∃ y, y = x i := ⟨_, rfl⟩
        rw [← hy] at kx hx256
        obtain ⟨t, ht⟩ : ∃ t, t = y % 8 := ⟨_, rfl⟩
        have ht8 : t < 8 := by omega
        have hrem : (y : Int).tmod 8 = (t : Int) := by rw [Int.tmod_eq_emod_of_nonneg (by omega)]; omega
        have hi63 : i < 9223372036854775807 := by omega
        have HK := Lib.hid hi63
        clear hy ht HG HBY hbW hi63
        by_cases ht7 : t = 7
        · subst ht7
          rw [show ((7 : Nat) : Int) = 7 from rfl] at hrem
          have HW := Lib.hid (writes_any hR HK.out)
          clear hR
          go_wp2_with (go_at_call 32; refine HW.out.mono ?_; rintro r w4 ⟨rfl, ws', o', n', m', d', s', a', q', zp', z', hg⟩; obtain ⟨⟨e0, _⟩, e7, _, _, _, e11, _⟩ := hg.y.cells; have HG2 : Hid (Rg W w4 gx b g l (i + 1)) := ⟨_, _, _, _, _, _, _, _, _, _, _, _, _, _, hg⟩; clear hg HW)
          go_loopw [8] (fun vj wr => ∃ j : Nat, vj = .int .i64 j ∧ j ≤ 7 ∧ Hid (Rg W wr gx b g l (i + 1))) (fun vj _ => 7 - (intOf vj).toNat)
          case atStart => exact ⟨0, rfl, Nat.zero_le _, HG2⟩
          case round =>
            clear HG2
            obtain ⟨j, rfl, hj, HGj⟩ := hrel
            obtain ⟨p, K, S, xb, ws, o, n, m, d, s, a, q, zp, z, hR⟩ := HGj.out
            obtain ⟨⟨c0, _⟩, c7, c8, c9, _, c11, c12, _⟩ := hR.y.cells
            by_cases hj7 : j < 7
            · have hj7' : (j : Int) < 7 := by omega
              obtain ⟨ea, _, _, ev, ed, ee⟩ := hR.y.pe.at' hj7
              have hd2 := hR.i.d2
              rcases (show d = 0 ∨ d = 1 ∨ d = 2 by omega) with rfl | rfl | rfl
              · rw [show ((0 : Nat) : Int) = 0 from rfl] at c8
                clear hR hd2 ea ed ee
                go_wp2
                refine wp_region_seq (fun w' => w'.cell? ⟨gx, 8, none⟩ = some (.int .i64 0)) ((0, true) :: (1, true) :: (2, true) :: (3, true) :: (4, true) :: (5, true) :: (6, true) :: (7, true) :: (8, true) :: (9, true) :: (10, true) :: (11, true) :: (12, true) :: (13, true) :: (14, true) :: (15, true) :: (16, true) :: (17, true) :: (18, true) :: (19, true) :: (20, true) :: (21, true) :: (22, true) :: (23, true) :: (24, true) :: (26, true) :: (27, true) :: (28, true) :: (29, true) :: (25, false) :: (30, true) :: (31, true) :: []) follows13 (by kernel_rfl) (fun _ _ _ _ _ h => h) c8 ?_
                repeat (first | (refine wpSeq_take (v := ?_) rfl (by rfl) (fun wq hSq => ?_) ?_; rotate_left; (focus ((try dsimp only at hSq); go_simp; try with_reducible rfl)); simp only [Act.put, List.setIfInBounds_toArray, List.set_cons_zero, List.set_cons_succ]) | (refine wpSeq_skip rfl (by rfl) ?_; simp only [Act.put, List.setIfInBounds_toArray, List.set_cons_zero, List.set_cons_succ]))
                refine wpSeq_skip' rfl (by rfl) c8 ?_
                simp only [Act.put, List.setIfInBounds_toArray, List.set_cons_zero, List.set_cons_succ]
                repeat (first | (refine wpSeq_take (v := ?_) rfl (by rfl) (fun wq hSq => ?_) ?_; rotate_left; (focus ((try dsimp only at hSq); go_simp; try with_reducible rfl)); simp only [Act.put, List.setIfInBounds_toArray, List.set_cons_zero, List.set_cons_succ]) | (refine wpSeq_skip rfl (by rfl) ?_; simp only [Act.put, List.setIfInBounds_toArray, List.set_cons_zero, List.set_cons_succ]))
                refine wpSeq_nil ?_
                go_wp2
                exact ⟨⟨j + 1, by first | rfl | (congr 1), by omega, HGj.out.hop (tb_drew (Below.refl _ _))⟩, by simp [intOf]; omega⟩
              · rw [show ((1 : Nat) : Int) = 1 from rfl] at c8
                clear hR hd2 ea ed ee
                go_wp2
                refine wp_region_seq (fun w' => w'.cell? ⟨gx, 8, none⟩ = some (.int .i64 1)) ((0, true) :: (1, true) :: (2, true) :: (3, true) :: (4, true) :: (5, true) :: (6, true) :: (7, true) :: (8, true) :: (9, true) :: (10, true) :: (11, true) :: (12, true) :: (13, true) :: (14, true) :: (15, true) :: (16, true) :: (17, true) :: (18, true) :: (19, true) :: (20, true) :: (21, true) :: (22, true) :: (23, true) :: (24, true) :: (26, true) :: (27, true) :: (28, true) :: (29, true) :: (25, false) :: (30, true) :: (31, true) :: []) follows13 (by kernel_rfl) (fun _ _ _ _ _ h => h) c8 ?_
                repeat (first | (refine wpSeq_take (v := ?_) rfl (by rfl) (fun wq hSq => ?_) ?_; rotate_left; (focus ((try dsimp only at hSq); go_simp; try with_reducible rfl)); simp only [Act.put, List.setIfInBounds_toArray, List.set_cons_zero, List.set_cons_succ]) | (refine wpSeq_skip rfl (by rfl) ?_; simp only [Act.put, List.setIfInBounds_toArray, List.set_cons_zero, List.set_cons_succ]))
                refine wpSeq_skip' rfl (by rfl) c8 ?_
                simp only [Act.put, List.setIfInBounds_toArray, List.set_cons_zero, List.set_cons_succ]
                repeat (first | (refine wpSeq_take (v := ?_) rfl (by rfl) (fun wq hSq => ?_) ?_; rotate_left; (focus ((try dsimp only at hSq); go_simp; try with_reducible rfl)); simp only [Act.put, List.setIfInBounds_toArray, List.set_cons_zero, List.set_cons_succ]) | (refine wpSeq_skip rfl (by rfl) ?_; simp only [Act.put, List.setIfInBounds_toArray, List.set_cons_zero, List.set_cons_succ]))
                refine wpSeq_nil ?_
                go_wp2
                exact ⟨⟨j + 1, by first | rfl | (congr 1), by omega, HGj.out.hop (tb_drew (Below.refl _ _))⟩, by simp [intOf]; omega⟩
              · rw [show ((2 : Nat) : Int) = 2 from rfl] at c8
                have hp3 := hR.i.p3 j hj7
                rcases (show p j = 0 ∨ p j = 1 ∨ p j = 2 ∨ p j = 3 by omega) with hp | hp | hp | hp
                · rw [hp, show ((0 : Nat) : Int) = 0 from rfl] at ea
                  clear hR hd2 ed ee hp hp3
                  go_wp2
                  refine wp_region_seq (fun w' => w'.cell? ⟨gx, 8, none⟩ = some (.int .i64 2) ∧ w'.cell? ⟨gx, 7, none⟩ = some (.slice (some ⟨l, 0, none⟩) 7 7) ∧ w'.cell? ⟨l, j * 2, none⟩ = some (.int .i64 0)) ((0, true) :: (1, true) :: (2, true) :: (3, true) :: (4, true) :: (5, true) :: (6, true) :: (7, true) :: (8, true) :: (9, true) :: (10, true) :: (11, true) :: (12, true) :: (13, true) :: (14, true) :: (15, true) :: (16, true) :: (17, true) :: (18, true) :: (19, true) :: (20, true) :: (21, true) :: (22, true) :: (23, true) :: (24, true) :: (26, true) :: (27, true) :: (28, true) :: (29, true) :: (25, false) :: (30, true) :: (31, true) :: []) follows13 (by kernel_rfl) (fun _ _ _ _ _ h => h) ⟨c8, c7, ea⟩ ?_
                  repeat (first | (refine wpSeq_take (v := ?_) rfl (by rfl) (fun wq hSq => ?_) ?_; rotate_left; (focus ((try dsimp only at hSq); go_simp; try with_reducible rfl)); simp only [Act.put, List.setIfInBounds_toArray, List.set_cons_zero, List.set_cons_succ]) | (refine wpSeq_skip rfl (by rfl) ?_; simp only [Act.put, List.setIfInBounds_toArray, List.set_cons_zero, List.set_cons_succ]))
                  refine wpSeq_skip' rfl (by rfl) ⟨c8, c7, ea⟩ ?_
                  simp only [Act.put, List.setIfInBounds_toArray, List.set_cons_zero, List.set_cons_succ]
                  repeat (first | (refine wpSeq_take (v := ?_) rfl (by rfl) (fun wq hSq => ?_) ?_; rotate_left; (focus ((try dsimp only at hSq); go_simp; try with_reducible rfl)); simp only [Act.put, List.setIfInBounds_toArray, List.set_cons_zero, List.set_cons_succ]) | (refine wpSeq_skip rfl (by rfl) ?_; simp only [Act.put, List.setIfInBounds_toArray, List.set_cons_zero, List.set_cons_succ]))
                  refine wpSeq_nil ?_
                  go_wp2
                  exact ⟨⟨j + 1, by first | rfl | (congr 1), by omega, HGj.out.hop (tb_drew (Below.refl _ _))⟩, by simp [intOf]; omega⟩
                · rw [hp, show ((1 : Nat) : Int) = 1 from rfl] at ea
                  clear hR hd2 ed ee hp hp3
                  go_wp2
                  refine wp_region_seq (fun w' => w'.cell? ⟨gx, 8, none⟩ = some (.int .i64 2) ∧ w'.cell? ⟨gx, 7, none⟩ = some (.slice (some ⟨l, 0, none⟩) 7 7) ∧ w'.cell? ⟨l, j * 2, none⟩ = some (.int .i64 1)) ((0, true) :: (1, true) :: (2, true) :: (3, true) :: (4, true) :: (5, true) :: (6, true) :: (7, true) :: (8, true) :: (9, true) :: (10, true) :: (11, true) :: (12, true) :: (13, true) :: (14, true) :: (15, true) :: (16, true) :: (17, true) :: (18, true) :: (19, true) :: (20, true) :: (21, true) :: (22, true) :: (23, true) :: (24, true) :: (26, true) :: (27, true) :: (28, true) :: (29, true) :: (25, false) :: (30, true) :: (31, true) :: []) follows13 (by kernel_rfl) (fun _ _ _ _ _ h => h) ⟨c8, c7, ea⟩ ?_
                  repeat (first | (refine wpSeq_take (v := ?_) rfl (by rfl) (fun wq hSq => ?_) ?_; rotate_left; (focus ((try dsimp only at hSq); go_simp; try with_reducible rfl)); simp only [Act.put, List.setIfInBounds_toArray, List.set_cons_zero, List.set_cons_succ]) | (refine wpSeq_skip rfl (by rfl) ?_; simp only [Act.put, List.setIfInBounds_toArray, List.set_cons_zero, List.set_cons_succ]))
                  refine wpSeq_skip' rfl (by rfl) ⟨c8, c7, ea⟩ ?_
                  simp only [Act.put, List.setIfInBounds_toArray, List.set_cons_zero, List.set_cons_succ]
                  repeat (first | (refine wpSeq_take (v := ?_) rfl (by rfl) (fun wq hSq => ?_) ?_; rotate_left; (focus ((try dsimp only at hSq); go_simp; try with_reducible rfl)); simp only [Act.put, List.setIfInBounds_toArray, List.set_cons_zero, List.set_cons_succ]) | (refine wpSeq_skip rfl (by rfl) ?_; simp only [Act.put, List.setIfInBounds_toArray, List.set_cons_zero, List.set_cons_succ]))
                  refine wpSeq_nil ?_
                  go_wp2
                  exact ⟨⟨j + 1, by first | rfl | (congr 1), by omega, HGj.out.hop (tb_drew (Below.refl _ _))⟩, by simp [intOf]; omega⟩
                · rw [hp, show ((2 : Nat) : Int) = 2 from rfl] at ea
                  clear hR hd2 ed ee hp hp3
                  go_wp2
                  refine wp_region_seq (fun w' => w'.cell? ⟨gx, 8, none⟩ = some (.int .i64 2) ∧ w'.cell? ⟨gx, 7, none⟩ = some (.slice (some ⟨l, 0, none⟩) 7 7) ∧ w'.cell? ⟨l, j * 2, none⟩ = some (.int .i64 2)) ((0, true) :: (1, true) :: (2, true) :: (3, true) :: (4, true) :: (5, true) :: (6, true) :: (7, true) :: (8, true) :: (9, true) :: (10, true) :: (11, true) :: (12, true) :: (13, true) :: (14, true) :: (15, true) :: (16, true) :: (17, true) :: (18, true) :: (19, true) :: (20, true) :: (21, true) :: (22, true) :: (23, true) :: (24, true) :: (26, true) :: (27, true) :: (28, true) :: (29, true) :: (25, false) :: (30, true) :: (31, true) :: []) follows13 (by kernel_rfl) (fun _ _ _ _ _ h => h) ⟨c8, c7, ea⟩ ?_
                  repeat (first | (refine wpSeq_take (v := ?_) rfl (by rfl) (fun wq hSq => ?_) ?_; rotate_left; (focus ((try dsimp only at hSq); go_simp; try with_reducible rfl)); simp only [Act.put, List.setIfInBounds_toArray, List.set_cons_zero, List.set_cons_succ]) | (refine wpSeq_skip rfl (by rfl) ?_; simp only [Act.put, List.setIfInBounds_toArray, List.set_cons_zero, List.set_cons_succ]))
                  refine wpSeq_skip' rfl (by rfl) ⟨c8, c7, ea⟩ ?_
                  simp only [Act.put, List.setIfInBounds_toArray, List.set_cons_zero, List.set_cons_succ]
                  repeat (first | (refine wpSeq_take (v := ?_) rfl (by rfl) (fun wq hSq => ?_) ?_; rotate_left; (focus ((try dsimp only at hSq); go_simp; try with_reducible rfl)); simp only [Act.put, List.setIfInBounds_toArray, List.set_cons_zero, List.set_cons_succ]) | (refine wpSeq_skip rfl (by rfl) ?_; simp only [Act.put, List.setIfInBounds_toArray, List.set_cons_zero, List.set_cons_succ]))
                  refine wpSeq_nil ?_
                  go_wp2
                  exact ⟨⟨j + 1, by first | rfl | (congr 1), by omega, HGj.out.hop (tb_drew (Below.refl _ _))⟩, by simp [intOf]; omega⟩
                · have hon : onP p j = true := by simp [onP, hp]
                  rw [ee hon] at ed
                  rw [hp, show ((3 : Nat) : Int) = 3 from rfl] at ea
                  have HX := Lib.hid (hR.y.cm j hj7 hon).1
                  have hS : S j = s := by rw [hR.i.dn rfl j hj7 hp, hR.i.us (by omega)]
                  rw [hS] at HX
                  clear hR hd2 ee hp hp3 hon hS
                  go_wp2
                  refine wp_region_seq (fun w' => w'.cell? ⟨gx, 8, none⟩ = some (.int .i64 2) ∧ w'.cell? ⟨gx, 7, none⟩ = some (.slice (some ⟨l, 0, none⟩) 7 7) ∧ w'.cell? ⟨gx, 9, none⟩ = some (.int .u64 ((s : Nat) : Int)) ∧ w'.cell? ⟨l, j * 2, none⟩ = some (.int .i64 3) ∧ w'.cell? ⟨l, j * 2 + 1, none⟩ = some (.pointer (some ⟨xb j, 0, none⟩))) ((0, true) :: (1, true) :: (2, true) :: (3, true) :: (4, true) :: (5, true) :: (6, true) :: (7, true) :: (8, true) :: (9, true) :: (10, true) :: (11, true) :: (12, true) :: (13, true) :: (14, true) :: (15, true) :: (16, true) :: (17, true) :: (18, true) :: (19, true) :: (20, true) :: (21, true) :: (22, true) :: (23, true) :: (24, true) :: (26, true) :: (27, true) :: (28, true) :: (29, true) :: (25, false) :: (30, true) :: (31, true) :: []) follows13 (by kernel_rfl) (fun _ _ _ _ _ h => h) ⟨c8, c7, c9, ea, ed⟩ ?_
                  repeat (first | (refine wpSeq_take (v := ?_) rfl (by rfl) (fun wq hSq => ?_) ?_; rotate_left; (focus ((try dsimp only at hSq); go_simp; try with_reducible rfl)); simp only [Act.put, List.setIfInBounds_toArray, List.set_cons_zero, List.set_cons_succ]) | (refine wpSeq_skip rfl (by rfl) ?_; simp only [Act.put, List.setIfInBounds_toArray, List.set_cons_zero, List.set_cons_succ]))
                  refine wpSeq_do rfl (by rfl) (fun KK hK => ?_)
                  go_simp
                  refine (stampC_any (HX.out.on (tb_drew (Below.refl _ _)))).mono ?_
                  rintro r wt ⟨rfl, hw⟩
                  subst wt
                  refine hK.out _ _ ⟨c8, c7, c9, ea, ed⟩ ?_
                  clear hK KK
                  repeat (first | (refine wpSeq_take (v := ?_) rfl (by rfl) (fun wq hSq => ?_) ?_; rotate_left; (focus ((try dsimp only at hSq); go_simp; try with_reducible rfl)); simp only [Act.put, List.setIfInBounds_toArray, List.set_cons_zero, List.set_cons_succ]) | (refine wpSeq_skip rfl (by rfl) ?_; simp only [Act.put, List.setIfInBounds_toArray, List.set_cons_zero, List.set_cons_succ]))
                  refine wpSeq_nil ?_
                  go_wp2
                  exact ⟨⟨j + 1, by first | rfl | (congr 1), by omega, HGj.out.hop (tb_drew (Below.refl _ _))⟩, by simp [intOf]; omega⟩
            · have hj7' : ¬ (j : Int) < 7 := by omega
              clear hR
              go_wp2
              exact ⟨⟨i + 1, by first | rfl | (congr 1), by omega, HGj⟩, by simp [intOf]; omega⟩
        · have ht7' : ¬ (t : Int) = 7 := by omega
          have HW := Lib.hid (reads_any (t := t) hR HK.out (by omega))
          clear hR
          go_wp2_with (go_at_call 33; refine HW.out.mono ?_; rintro r w4 ⟨rfl, p', K', S', xb', ws', o', n', hg, _⟩; obtain ⟨⟨e0, _⟩, e7, _, _, _, e11, _⟩ := hg.y.cells; have HG2 : Hid (Rg W w4 gx b g l (i + 1)) := ⟨_, _, _, _, _, _, _, _, _, _, _, _, _, _, hg⟩; clear hg HW)
          go_loopw [8] (fun vj wr => ∃ j : Nat, vj = .int .i64 j ∧ j ≤ 7 ∧ Hid (Rg W wr gx b g l (i + 1))) (fun vj _ => 7 - (intOf vj).toNat)
          case atStart => exact ⟨0, rfl, Nat.zero_le _, HG2⟩
          case round =>
            clear HG2
            obtain ⟨j, rfl, hj, HGj⟩ := hrel
            obtain ⟨p, K, S, xb, ws, o, n, m, d, s, a, q, zp, z, hR⟩ := HGj.out
            obtain ⟨⟨c0, _⟩, c7, c8, c9, _, c11, c12, _⟩ := hR.y.cells
            by_cases hj7 : j < 7
            · have hj7' : (j : Int) < 7 := by omega
              obtain ⟨ea, _, _, ev, ed, ee⟩ := hR.y.pe.at' hj7
              have hd2 := hR.i.d2
              rcases (show d = 0 ∨ d = 1 ∨ d = 2 by omega) with rfl | rfl | rfl
              · rw [show ((0 : Nat) : Int) = 0 from rfl] at c8
                clear hR hd2 ea ed ee
                go_wp2
                refine wp_region_seq (fun w' => w'.cell? ⟨gx, 8, none⟩ = some (.int .i64 0)) ((0, true) :: (1, true) :: (2, true) :: (3, true) :: (4, true) :: (5, true) :: (6, true) :: (7, true) :: (8, true) :: (9, true) :: (10, true) :: (11, true) :: (12, true) :: (13, true) :: (14, true) :: (15, true) :: (16, true) :: (17, true) :: (18, true) :: (19, true) :: (20, true) :: (21, true) :: (22, true) :: (23, true) :: (24, true) :: (26, true) :: (27, true) :: (28, true) :: (29, true) :: (25, false) :: (30, true) :: (31, true) :: []) follows13 (by kernel_rfl) (fun _ _ _ _ _ h => h) c8 ?_
                repeat (first | (refine wpSeq_take (v := ?_) rfl (by rfl) (fun wq hSq => ?_) ?_; rotate_left; (focus ((try dsimp only at hSq); go_simp; try with_reducible rfl)); simp only [Act.put, List.setIfInBounds_toArray, List.set_cons_zero, List.set_cons_succ]) | (refine wpSeq_skip rfl (by rfl) ?_; simp only [Act.put, List.setIfInBounds_toArray, List.set_cons_zero, List.set_cons_succ]))
                refine wpSeq_skip' rfl (by rfl) c8 ?_
                simp only [Act.put, List.setIfInBounds_toArray, List.set_cons_zero, List.set_cons_succ]
                repeat (first | (refine wpSeq_take (v := ?_) rfl (by rfl) (fun wq hSq => ?_) ?_; rotate_left; (focus ((try dsimp only at hSq); go_simp; try with_reducible rfl)); simp only [Act.put, List.setIfInBounds_toArray, List.set_cons_zero, List.set_cons_succ]) | (refine wpSeq_skip rfl (by rfl) ?_; simp only [Act.put, List.setIfInBounds_toArray, List.set_cons_zero, List.set_cons_succ]))
                refine wpSeq_nil ?_
                go_wp2
                exact ⟨⟨j + 1, by first | rfl | (congr 1), by omega, HGj.out.hop (tb_drew (Below.refl _ _))⟩, by simp [intOf]; omega⟩
              · rw [show ((1 : Nat) : Int) = 1 from rfl] at c8
                clear hR hd2 ea ed ee
                go_wp2
                refine wp_region_seq (fun w' => w'.cell? ⟨gx, 8, none⟩ = some (.int .i64 1)) ((0, true) :: (1, true) :: (2, true) :: (3, true) :: (4, true) :: (5, true) :: (6, true) :: (7, true) :: (8, true) :: (9, true) :: (10, true) :: (11, true) :: (12, true) :: (13, true) :: (14, true) :: (15, true) :: (16, true) :: (17, true) :: (18, true) :: (19, true) :: (20, true) :: (21, true) :: (22, true) :: (23, true) :: (24, true) :: (26, true) :: (27, true) :: (28, true) :: (29, true) :: (25, false) :: (30, true) :: (31, true) :: []) follows13 (by kernel_rfl) (fun _ _ _ _ _ h => h) c8 ?_
                repeat (first | (refine wpSeq_take (v := ?_) rfl (by rfl) (fun wq hSq => ?_) ?_; rotate_left; (focus ((try dsimp only at hSq); go_simp; try with_reducible rfl)); simp only [Act.put, List.setIfInBounds_toArray, List.set_cons_zero, List.set_cons_succ]) | (refine wpSeq_skip rfl (by rfl) ?_; simp only [Act.put, List.setIfInBounds_toArray, List.set_cons_zero, List.set_cons_succ]))
                refine wpSeq_skip' rfl (by rfl) c8 ?_
                simp only [Act.put, List.setIfInBounds_toArray, List.set_cons_zero, List.set_cons_succ]
                repeat (first | (refine wpSeq_take (v := ?_) rfl (by rfl) (fun wq hSq => ?_) ?_; rotate_left; (focus ((try dsimp only at hSq); go_simp; try with_reducible rfl)); simp only [Act.put, List.setIfInBounds_toArray, List.set_cons_zero, List.set_cons_succ]) | (refine wpSeq_skip rfl (by rfl) ?_; simp only [Act.put, List.setIfInBounds_toArray, List.set_cons_zero, List.set_cons_succ]))
                refine wpSeq_nil ?_
                go_wp2
                exact ⟨⟨j + 1, by first | rfl | (congr 1), by omega, HGj.out.hop (tb_drew (Below.refl _ _))⟩, by simp [intOf]; omega⟩
              · rw [show ((2 : Nat) : Int) = 2 from rfl] at c8
                have hp3 := hR.i.p3 j hj7
                rcases (show p j = 0 ∨ p j = 1 ∨ p j = 2 ∨ p j = 3 by omega) with hp | hp | hp | hp
                · rw [hp, show ((0 : Nat) : Int) = 0 from rfl] at ea
                  clear hR hd2 ed ee hp hp3
                  go_wp2
                  refine wp_region_seq (fun w' => w'.cell? ⟨gx, 8, none⟩ = some (.int .i64 2) ∧ w'.cell? ⟨gx, 7, none⟩ = some (.slice (some ⟨l, 0, none⟩) 7 7) ∧ w'.cell? ⟨l, j * 2, none⟩ = some (.int .i64 0)) ((0, true) :: (1, true) :: (2, true) :: (3, true) :: (4, true) :: (5, true) :: (6, true) :: (7, true) :: (8, true) :: (9, true) :: (10, true) :: (11, true) :: (12, true) :: (13, true) :: (14, true) :: (15, true) :: (16, true) :: (17, true) :: (18, true) :: (19, true) :: (20, true) :: (21, true) :: (22, true) :: (23, true) :: (24, true) :: (26, true) :: (27, true) :: (28, true) :: (29, true) :: (25, false) :: (30, true) :: (31, true) :: []) follows13 (by kernel_rfl) (fun _ _ _ _ _ h => h) ⟨c8, c7, ea⟩ ?_
                  repeat (first | (refine wpSeq_take (v := ?_) rfl (by rfl) (fun wq hSq => ?_) ?_; rotate_left; (focus ((try dsimp only at hSq); go_simp; try with_reducible rfl)); simp only [Act.put, List.setIfInBounds_toArray, List.set_cons_zero, List.set_cons_succ]) | (refine wpSeq_skip rfl (by rfl) ?_; simp only [Act.put, List.setIfInBounds_toArray, List.set_cons_zero, List.set_cons_succ]))
                  refine wpSeq_skip' rfl (by rfl) ⟨c8, c7, ea⟩ ?_
                  simp only [Act.put, List.setIfInBounds_toArray, List.set_cons_zero, List.set_cons_succ]
                  repeat (first | (refine wpSeq_take (v := ?_) rfl (by rfl) (fun wq hSq => ?_) ?_; rotate_left; (focus ((try dsimp only at hSq); go_simp; try with_reducible rfl)); simp only [Act.put, List.setIfInBounds_toArray, List.set_cons_zero, List.set_cons_succ]) | (refine wpSeq_skip rfl (by rfl) ?_; simp only [Act.put, List.setIfInBounds_toArray, List.set_cons_zero, List.set_cons_succ]))
                  refine wpSeq_nil ?_
                  go_wp2
                  exact ⟨⟨j + 1, by first | rfl | (congr 1), by omega, HGj.out.hop (tb_drew (Below.refl _ _))⟩, by simp [intOf]; omega⟩
                · rw [hp, show ((1 : Nat) : Int) = 1 from rfl] at ea
                  clear hR hd2 ed ee hp hp3
                  go_wp2
                  refine wp_region_seq (fun w' => w'.cell? ⟨gx, 8, none⟩ = some (.int .i64 2) ∧ w'.cell? ⟨gx, 7, none⟩ = some (.slice (some ⟨l, 0, none⟩) 7 7) ∧ w'.cell? ⟨l, j * 2, none⟩ = some (.int .i64 1)) ((0, true) :: (1, true) :: (2, true) :: (3, true) :: (4, true) :: (5, true) :: (6, true) :: (7, true) :: (8, true) :: (9, true) :: (10, true) :: (11, true) :: (12, true) :: (13, true) :: (14, true) :: (15, true) :: (16, true) :: (17, true) :: (18, true) :: (19, true) :: (20, true) :: (21, true) :: (22, true) :: (23, true) :: (24, true) :: (26, true) :: (27, true) :: (28, true) :: (29, true) :: (25, false) :: (30, true) :: (31, true) :: []) follows13 (by kernel_rfl) (fun _ _ _ _ _ h => h) ⟨c8, c7, ea⟩ ?_
                  repeat (first | (refine wpSeq_take (v := ?_) rfl (by rfl) (fun wq hSq => ?_) ?_; rotate_left; (focus ((try dsimp only at hSq); go_simp; try with_reducible rfl)); simp only [Act.put, List.setIfInBounds_toArray, List.set_cons_zero, List.set_cons_succ]) | (refine wpSeq_skip rfl (by rfl) ?_; simp only [Act.put, List.setIfInBounds_toArray, List.set_cons_zero, List.set_cons_succ]))
                  refine wpSeq_skip' rfl (by rfl) ⟨c8, c7, ea⟩ ?_
                  simp only [Act.put, List.setIfInBounds_toArray, List.set_cons_zero, List.set_cons_succ]
                  repeat (first | (refine wpSeq_take (v := ?_) rfl (by rfl) (fun wq hSq => ?_) ?_; rotate_left; (focus ((try dsimp only at hSq); go_simp; try with_reducible rfl)); simp only [Act.put, List.setIfInBounds_toArray, List.set_cons_zero, List.set_cons_succ]) | (refine wpSeq_skip rfl (by rfl) ?_; simp only [Act.put, List.setIfInBounds_toArray, List.set_cons_zero, List.set_cons_succ]))
                  refine wpSeq_nil ?_
                  go_wp2
                  exact ⟨⟨j + 1, by first | rfl | (congr 1), by omega, HGj.out.hop (tb_drew (Below.refl _ _))⟩, by simp [intOf]; omega⟩
                · rw [hp, show ((2 : Nat) : Int) = 2 from rfl] at ea
                  clear hR hd2 ed ee hp hp3
                  go_wp2
                  refine wp_region_seq (fun w' => w'.cell? ⟨gx, 8, none⟩ = some (.int .i64 2) ∧ w'.cell? ⟨gx, 7, none⟩ = some (.slice (some ⟨l, 0, none⟩) 7 7) ∧ w'.cell? ⟨l, j * 2, none⟩ = some (.int .i64 2)) ((0, true) :: (1, true) :: (2, true) :: (3, true) :: (4, true) :: (5, true) :: (6, true) :: (7, true) :: (8, true) :: (9, true) :: (10, true) :: (11, true) :: (12, true) :: (13, true) :: (14, true) :: (15, true) :: (16, true) :: (17, true) :: (18, true) :: (19, true) :: (20, true) :: (21, true) :: (22, true) :: (23, true) :: (24, true) :: (26, true) :: (27, true) :: (28, true) :: (29, true) :: (25, false) :: (30, true) :: (31, true) :: []) follows13 (by kernel_rfl) (fun _ _ _ _ _ h => h) ⟨c8, c7, ea⟩ ?_
                  repeat (first | (refine wpSeq_take (v := ?_) rfl (by rfl) (fun wq hSq => ?_) ?_; rotate_left; (focus ((try dsimp only at hSq); go_simp; try with_reducible rfl)); simp only [Act.put, List.setIfInBounds_toArray, List.set_cons_zero, List.set_cons_succ]) | (refine wpSeq_skip rfl (by rfl) ?_; simp only [Act.put, List.setIfInBounds_toArray, List.set_cons_zero, List.set_cons_succ]))
                  refine wpSeq_skip' rfl (by rfl) ⟨c8, c7, ea⟩ ?_
                  simp only [Act.put, List.setIfInBounds_toArray, List.set_cons_zero, List.set_cons_succ]
                  repeat (first | (refine wpSeq_take (v := ?_) rfl (by rfl) (fun wq hSq => ?_) ?_; rotate_left; (focus ((try dsimp only at hSq); go_simp; try with_reducible rfl)); simp only [Act.put, List.setIfInBounds_toArray, List.set_cons_zero, List.set_cons_succ]) | (refine wpSeq_skip rfl (by rfl) ?_; simp only [Act.put, List.setIfInBounds_toArray, List.set_cons_zero, List.set_cons_succ]))
                  refine wpSeq_nil ?_
                  go_wp2
                  exact ⟨⟨j + 1, by first | rfl | (congr 1), by omega, HGj.out.hop (tb_drew (Below.refl _ _))⟩, by simp [intOf]; omega⟩
                · have hon : onP p j = true := by simp [onP, hp]
                  rw [ee hon] at ed
                  rw [hp, show ((3 : Nat) : Int) = 3 from rfl] at ea
                  have HX := Lib.hid (hR.y.cm j hj7 hon).1
                  have hS : S j = s := by rw [hR.i.dn rfl j hj7 hp, hR.i.us (by omega)]
                  rw [hS] at HX
                  clear hR hd2 ee hp hp3 hon hS
                  go_wp2
                  refine wp_region_seq (fun w' => w'.cell? ⟨gx, 8, none⟩ = some (.int .i64 2) ∧ w'.cell? ⟨gx, 7, none⟩ = some (.slice (some ⟨l, 0, none⟩) 7 7) ∧ w'.cell? ⟨gx, 9, none⟩ = some (.int .u64 ((s : Nat) : Int)) ∧ w'.cell? ⟨l, j * 2, none⟩ = some (.int .i64 3) ∧ w'.cell? ⟨l, j * 2 + 1, none⟩ = some (.pointer (some ⟨xb j, 0, none⟩))) ((0, true) :: (1, true) :: (2, true) :: (3, true) :: (4, true) :: (5, true) :: (6, true) :: (7, true) :: (8, true) :: (9, true) :: (10, true) :: (11, true) :: (12, true) :: (13, true) :: (14, true) :: (15, true) :: (16, true) :: (17, true) :: (18, true) :: (19, true) :: (20, true) :: (21, true) :: (22, true) :: (23, true) :: (24, true) :: (26, true) :: (27, true) :: (28, true) :: (29, true) :: (25, false) :: (30, true) :: (31, true) :: []) follows13 (by kernel_rfl) (fun _ _ _ _ _ h => h) ⟨c8, c7, c9, ea, ed⟩ ?_
                  repeat (first | (refine wpSeq_take (v := ?_) rfl (by rfl) (fun wq hSq => ?_) ?_; rotate_left; (focus ((try dsimp only at hSq); go_simp; try with_reducible rfl)); simp only [Act.put, List.setIfInBounds_toArray, List.set_cons_zero, List.set_cons_succ]) | (refine wpSeq_skip rfl (by rfl) ?_; simp only [Act.put, List.setIfInBounds_toArray, List.set_cons_zero, List.set_cons_succ]))
                  refine wpSeq_do rfl (by rfl) (fun KK hK => ?_)
                  go_simp
                  refine (stampC_any (HX.out.on (tb_drew (Below.refl _ _)))).mono ?_
                  rintro r wt ⟨rfl, hw⟩
                  subst wt
                  refine hK.out _ _ ⟨c8, c7, c9, ea, ed⟩ ?_
                  clear hK KK
                  repeat (first | (refine wpSeq_take (v := ?_) rfl (by rfl) (fun wq hSq => ?_) ?_; rotate_left; (focus ((try dsimp only at hSq); go_simp; try with_reducible rfl)); simp only [Act.put, List.setIfInBounds_toArray, List.set_cons_zero, List.set_cons_succ]) | (refine wpSeq_skip rfl (by rfl) ?_; simp only [Act.put, List.setIfInBounds_toArray, List.set_cons_zero, List.set_cons_succ]))
                  refine wpSeq_nil ?_
                  go_wp2
                  exact ⟨⟨j + 1, by first | rfl | (congr 1), by omega, HGj.out.hop (tb_drew (Below.refl _ _))⟩, by simp [intOf]; omega⟩
            · have hj7' : ¬ (j : Int) < 7 := by omega
              clear hR
              go_wp2
              exact ⟨⟨i + 1, by first | rfl | (congr 1), by omega, HGj⟩, by simp [intOf]; omega⟩
      · have hlt' : ¬ (i : Int) < (len : Int) := by omega
        have HBL := Lib.hid hR.y.below
        clear hR HG hlt hil HBY
        go_wp2
        go_ret
        exact ⟨rfl, HBL.out⟩
  · refine wpSeq_do rfl (by rfl) (fun KK hK => ?_)
    go_simp
    refine hK.out _ _ trivial ?_
    clear hK KK
    try simp only [Act.put, List.setIfInBounds_toArray, List.set_cons_zero, List.set_cons_succ]
    refine wpSeq_do rfl (by rfl) (fun KK hK => ?_)
    go_simp
    refine (HF.out _).mono ?_
    rintro r w2 ⟨rfl, hm, hb⟩
    have HM2 := Lib.hid hm
    have HB2 := Lib.hid hb
    clear hm hb
    refine hK.out _ _ trivial ?_
    clear hK KK
    try simp only [Act.put, List.setIfInBounds_toArray, List.set_cons_zero, List.set_cons_succ]
    repeat (first | (refine wpSeq_take (v := ?_) rfl (by rfl) (fun wq hSq => ?_) ?_; rotate_left; (focus ((try dsimp only at hSq); go_simp; try with_reducible rfl)); simp only [Act.put, List.setIfInBounds_toArray, List.set_cons_zero, List.set_cons_succ]) | (refine wpSeq_skip rfl (by rfl) ?_; simp only [Act.put, List.setIfInBounds_toArray, List.set_cons_zero, List.set_cons_succ]))
    refine wpSeq_do rfl (by rfl) (fun KK hK => ?_)
    go_simp
    refine hK.out _ _ trivial ?_
    clear hK KK
    try simp only [Act.put, List.setIfInBounds_toArray, List.set_cons_zero, List.set_cons_succ]
    repeat (first | (refine wpSeq_take (v := ?_) rfl (by rfl) (fun wq hSq => ?_) ?_; rotate_left; (focus ((try dsimp only at hSq); go_simp; try with_reducible rfl)); simp only [Act.put, List.setIfInBounds_toArray, List.set_cons_zero, List.set_cons_succ]) | (refine wpSeq_skip rfl (by rfl) ?_; simp only [Act.put, List.setIfInBounds_toArray, List.set_cons_zero, List.set_cons_succ]))
    refine wpSeq_nil ?_
    have hz1 := HB1.out.size
    have hz2 := HB2.out.size
    have HG0 : Hid (Rg W (w2.alloc (.cells #[.pointer (some ⟨w1.heap.size + 1 + 1, 0, none⟩), .int .i64 0, .int .i64 0, .int .i64 0, .int .i64 1, .int .i64 0, .int .i64 0, .slice (some ⟨w1.heap.size, 0, none⟩) 7 7, .int .i64 0, .int .u64 0, .pointer none] 67)) w2.heap.size (w1.heap.size + 1 + 1) (w1.heap.size + 1) w1.heap.size 0) := by
      refine rg_new (W := W) (cur := cur0) (by simpa using HM2.out) ?_ HC0.out.1 HC0.out.2 (below_step (tb_alloc (below_step HB1.out (tb_drew (Below.refl _ _))) _) HB2.out) (by omega) (by omega) hz1
      rw [HB2.out.block _ (by simp)]
      exact heap_alloc_new w1.drew _
    clear HM2 HB2 HB1 HC0 hmk HF hz1 hz2
    obtain ⟨gx, hgx⟩ : ∃ gx, gx = w2.heap.size := ⟨_, rfl⟩
    rw [← hgx] at HG0 ⊢
    clear hgx
    obtain ⟨b, hb⟩ : ∃ b, b = w1.heap.size + 1 + 1 := ⟨_, rfl⟩
    obtain ⟨g, hg⟩ : ∃ g, g = w1.heap.size + 1 := ⟨_, rfl⟩
    obtain ⟨l, hl⟩ : ∃ l, l = w1.heap.size := ⟨_, rfl⟩
    rw [← hb] at HG0 ⊢
    rw [← hg, ← hl] at HG0
    rw [← hl]
    clear hb hg hl
    obtain ⟨p00, K00, S00, xb00, ws00, o00, n00, m00, d00, s00, a00, q00, zp00, z00, hR00⟩ := HG0.out
    obtain ⟨⟨c0, _⟩, _, _, _, _, c11, _⟩ := hR00.y.cells
    clear hR00
    go_wp2
    go_loopw [22] (fun vi wr => ∃ i : Nat, vi = .int .i64 i ∧ i ≤ len ∧ Hid (Rg W wr gx b g l i)) (fun vi _ => len - (intOf vi).toNat)
    case atStart => exact ⟨0, rfl, Nat.zero_le _, HG0⟩
    case round =>
      clear HG0 c0 c11
      obtain ⟨i, rfl, hil, HG⟩ := hrel
      obtain ⟨p, K, S, xb, ws, o, n, m, d, s, a, q, zp, z, hR⟩ := HG.out
      by_cases hlt : i < len
      · have hlt' : (i : Int) < (len : Int) := by omega
        obtain ⟨bx, off, hao, hbW, kx, hx256⟩ := HBY.out i hlt
        subst hao
        rw [← hR.y.below.cell (p := ⟨bx, off + i, none⟩) hbW] at kx
        have hbw := Nat.lt_of_lt_of_le hbW hR.y.below.size
        obtain ⟨y, hy⟩ : ∃ y, y = x i := ⟨_, rfl⟩
        rw [← hy] at kx hx256
        obtain ⟨t, ht⟩ : ∃ t, t = y % 8 := ⟨_, rfl⟩
        have ht8 : t < 8 := by omega
        have hrem : (y : Int).tmod 8 = (t : Int) := by rw [Int.tmod_eq_emod_of_nonneg (by omega)]; omega
        have hi63 : i < 9223372036854775807 := by omega
        have HK := Lib.hid hi63
        clear hy ht HG HBY hbW hi63
        by_cases ht7 : t = 7
        · subst ht7
          rw [show ((7 : Nat) : Int) = 7 from rfl] at hrem
          have HW := Lib.hid (writes_any hR HK.out)
          clear hR
          go_wp2_with (go_at_call 32; refine HW.out.mono ?_; rintro r w4 ⟨rfl, ws', o', n', m', d', s', a', q', zp', z', hg⟩; obtain ⟨⟨e0, _⟩, e7, _, _, _, e11, _⟩ := hg.y.cells; have HG2 : Hid (Rg W w4 gx b g l (i + 1)) := ⟨_, _, _, _, _, _, _, _, _, _, _, _, _, _, hg⟩; clear hg HW)
          go_loopw [8] (fun vj wr => ∃ j : Nat, vj = .int .i64 j ∧ j ≤ 7 ∧ Hid (Rg W wr gx b g l (i + 1))) (fun vj _ => 7 - (intOf vj).toNat)
          case atStart => exact ⟨0, rfl, Nat.zero_le _, HG2⟩
          case round =>
            clear HG2
            obtain ⟨j, rfl, hj, HGj⟩ := hrel
            obtain ⟨p, K, S, xb, ws, o, n, m, d, s, a, q, zp, z, hR⟩ := HGj.out
            obtain ⟨⟨c0, _⟩, c7, c8, c9, _, c11, c12, _⟩ := hR.y.cells
            by_cases hj7 : j < 7
            · have hj7' : (j : Int) < 7 := by omega
              obtain ⟨ea, _, _, ev, ed, ee⟩ := hR.y.pe.at' hj7
              have hd2 := hR.i.d2
              rcases (show d = 0 ∨ d = 1 ∨ d = 2 by omega) with rfl | rfl | rfl
              · rw [show ((0 : Nat) : Int) = 0 from rfl] at c8
                clear hR hd2 ea ed ee
                go_wp2
                refine wp_region_seq (fun w' => w'.cell? ⟨gx, 8, none⟩ = some (.int .i64 0)) ((0, true) :: (1, true) :: (2, true) :: (3, true) :: (4, true) :: (5, true) :: (6, true) :: (7, true) :: (8, true) :: (9, true) :: (10, true) :: (11, true) :: (12, true) :: (13, true) :: (14, true) :: (15, true) :: (16, true) :: (17, true) :: (18, true) :: (19, true) :: (20, true) :: (21, true) :: (22, true) :: (23, true) :: (24, true) :: (26, true) :: (27, true) :: (28, true) :: (29, true) :: (25, false) :: (30, true) :: (31, true) :: []) follows13 (by kernel_rfl) (fun _ _ _ _ _ h => h) c8 ?_
                repeat (first | (refine wpSeq_take (v := ?_) rfl (by rfl) (fun wq hSq => ?_) ?_; rotate_left; (focus ((try dsimp only at hSq); go_simp; try with_reducible rfl)); simp only [Act.put, List.setIfInBounds_toArray, List.set_cons_zero, List.set_cons_succ]) | (refine wpSeq_skip rfl (by rfl) ?_; simp only [Act.put, List.setIfInBounds_toArray, List.set_cons_zero, List.set_cons_succ]))
                refine wpSeq_skip' rfl (by rfl) c8 ?_
                simp only [Act.put, List.setIfInBounds_toArray, List.set_cons_zero, List.set_cons_succ]
                repeat (first | (refine wpSeq_take (v := ?_) rfl (by rfl) (fun wq hSq => ?_) ?_; rotate_left; (focus ((try dsimp only at hSq); go_simp; try with_reducible rfl)); simp only [Act.put, List.setIfInBounds_toArray, List.set_cons_zero, List.set_cons_succ]) | (refine wpSeq_skip rfl (by rfl) ?_; simp only [Act.put, List.setIfInBounds_toArray, List.set_cons_zero, List.set_cons_succ]))
                refine wpSeq_nil ?_
                go_wp2
                exact ⟨⟨j + 1, by first | rfl | (congr 1), by omega, HGj.out.hop (tb_drew (Below.refl _ _))⟩, by simp [intOf]; omega⟩
              · rw [show ((1 : Nat) : Int) = 1 from rfl] at c8
                clear hR hd2 ea ed ee
                go_wp2
                refine wp_region_seq (fun w' => w'.cell? ⟨gx, 8, none⟩ = some (.int .i64 1)) ((0, true) :: (1, true) :: (2, true) :: (3, true) :: (4, true) :: (5, true) :: (6, true) :: (7, true) :: (8, true) :: (9, true) :: (10, true) :: (11, true) :: (12, true) :: (13, true) :: (14, true) :: (15, true) :: (16, true) :: (17, true) :: (18, true) :: (19, true) :: (20, true) :: (21, true) :: (22, true) :: (23, true) :: (24, true) :: (26, true) :: (27, true) :: (28, true) :: (29, true) :: (25, false) :: (30, true) :: (31, true) :: []) follows13 (by kernel_rfl) (fun _ _ _ _ _ h => h) c8 ?_
                repeat (first | (refine wpSeq_take (v := ?_) rfl (by rfl) (fun wq hSq => ?_) ?_; rotate_left; (focus ((try dsimp only at hSq); go_simp; try with_reducible rfl)); simp only [Act.put, List.setIfInBounds_toArray, List.set_cons_zero, List.set_cons_succ]) | (refine wpSeq_skip rfl (by rfl) ?_; simp only [Act.put, List.setIfInBounds_toArray, List.set_cons_zero, List.set_cons_succ]))
                refine wpSeq_skip' rfl (by rfl) c8 ?_
                simp only [Act.put, List.setIfInBounds_toArray, List.set_cons_zero, List.set_cons_succ]
                repeat (first | (refine wpSeq_take (v := ?_) rfl (by rfl) (fun wq hSq => ?_) ?_; rotate_left; (focus ((try dsimp only at hSq); go_simp; try with_reducible rfl)); simp only [Act.put, List.setIfInBounds_toArray, List.set_cons_zero, List.set_cons_succ]) | (refine wpSeq_skip rfl (by rfl) ?_; simp only [Act.put, List.setIfInBounds_toArray, List.set_cons_zero, List.set_cons_succ]))
                refine wpSeq_nil ?_
                go_wp2
                exact ⟨⟨j + 1, by first | rfl | (congr 1), by omega, HGj.out.hop (tb_drew (Below.refl _ _))⟩, by simp [intOf]; omega⟩
              · rw [show ((2 : Nat) : Int) = 2 from rfl] at c8
                have hp3 := hR.i.p3 j hj7
                rcases (show p j = 0 ∨ p j = 1 ∨ p j = 2 ∨ p j = 3 by omega) with hp | hp | hp | hp
                · rw [hp, show ((0 : Nat) : Int) = 0 from rfl] at ea
                  clear hR hd2 ed ee hp hp3
                  go_wp2
                  refine wp_region_seq (fun w' => w'.cell? ⟨gx, 8, none⟩ = some (.int .i64 2) ∧ w'.cell? ⟨gx, 7, none⟩ = some (.slice (some ⟨l, 0, none⟩) 7 7) ∧ w'.cell? ⟨l, j * 2, none⟩ = some (.int .i64 0)) ((0, true) :: (1, true) :: (2, true) :: (3, true) :: (4, true) :: (5, true) :: (6, true) :: (7, true) :: (8, true) :: (9, true) :: (10, true) :: (11, true) :: (12, true) :: (13, true) :: (14, true) :: (15, true) :: (16, true) :: (17, true) :: (18, true) :: (19, true) :: (20, true) :: (21, true) :: (22, true) :: (23, true) :: (24, true) :: (26, true) :: (27, true) :: (28, true) :: (29, true) :: (25, false) :: (30, true) :: (31, true) :: []) follows13 (by kernel_rfl) (fun _ _ _ _ _ h => h) ⟨c8, c7, ea⟩ ?_
                  repeat (first | (refine wpSeq_take (v := ?_) rfl (by rfl) (fun wq hSq => ?_) ?_; rotate_left; (focus ((try dsimp only at hSq); go_simp; try with_reducible rfl)); simp only [Act.put, List.setIfInBounds_toArray, List.set_cons_zero, List.set_cons_succ]) | (refine wpSeq_skip rfl (by rfl) ?_; simp only [Act.put, List.setIfInBounds_toArray, List.set_cons_zero, List.set_cons_succ]))
                  refine wpSeq_skip' rfl (by rfl) ⟨c8, c7, ea⟩ ?_
                  simp only [Act.put, List.setIfInBounds_toArray, List.set_cons_zero, List.set_cons_succ]
                  repeat (first | (refine wpSeq_take (v := ?_) rfl (by rfl) (fun wq hSq => ?_) ?_; rotate_left; (focus ((try dsimp only at hSq); go_simp; try with_reducible rfl)); simp only [Act.put, List.setIfInBounds_toArray, List.set_cons_zero, List.set_cons_succ]) | (refine wpSeq_skip rfl (by rfl) ?_; simp only [Act.put, List.setIfInBounds_toArray, List.set_cons_zero, List.set_cons_succ]))
                  refine wpSeq_nil ?_
                  go_wp2
                  exact ⟨⟨j + 1, by first | rfl | (congr 1), by omega, HGj.out.hop (tb_drew (Below.refl _ _))⟩, by simp [intOf]; omega⟩
                · rw [hp, show ((1 : Nat) : Int) = 1 from rfl] at ea
                  clear hR hd2 ed ee hp hp3
                  go_wp2
                  refine wp_region_seq (fun w' => w'.cell? ⟨gx, 8, none⟩ = some (.int .i64 2) ∧ w'.cell? ⟨gx, 7, none⟩ = some (.slice (some ⟨l, 0, none⟩) 7 7) ∧ w'.cell? ⟨l, j * 2, none⟩ = some (.int .i64 1)) ((0, true) :: (1, true) :: (2, true) :: (3, true) :: (4, true) :: (5, true) :: (6, true) :: (7, true) :: (8, true) :: (9, true) :: (10, true) :: (11, true) :: (12, true) :: (13, true) :: (14, true) :: (15, true) :: (16, true) :: (17, true) :: (18, true) :: (19, true) :: (20, true) :: (21, true) :: (22, true) :: (23, true) :: (24, true) :: (26, true) :: (27, true) :: (28, true) :: (29, true) :: (25, false) :: (30, true) :: (31, true) :: []) follows13 (by kernel_rfl) (fun _ _ _ _ _ h => h) ⟨c8, c7, ea⟩ ?_
                  repeat (first | (refine wpSeq_take (v := ?_) rfl (by rfl) (fun wq hSq => ?_) ?_; rotate_left; (focus ((try dsimp only at hSq); go_simp; try with_reducible rfl)); simp only [Act.put, List.setIfInBounds_toArray, List.set_cons_zero, List.set_cons_succ]) | (refine wpSeq_skip rfl (by rfl) ?_; simp only [Act.put, List.setIfInBounds_toArray, List.set_cons_zero, List.set_cons_succ]))
                  refine wpSeq_skip' rfl (by rfl) ⟨c8, c7, ea⟩ ?_
                  simp only [Act.put, List.setIfInBounds_toArray, List.set_cons_zero, List.set_cons_succ]
                  repeat (first | (refine wpSeq_take (v := ?_) rfl (by rfl) (fun wq hSq => ?_) ?_; rotate_left; (focus ((try dsimp only at hSq); go_simp; try with_reducible rfl)); simp only [Act.put, List.setIfInBounds_toArray, List.set_cons_zero, List.set_cons_succ]) | (refine wpSeq_skip rfl (by rfl) ?_; simp only [Act.put, List.setIfInBounds_toArray, List.set_cons_zero, List.set_cons_succ]))
                  refine wpSeq_nil ?_
                  go_wp2
                  exact ⟨⟨j + 1, by first | rfl | (congr 1), by omega, HGj.out.hop (tb_drew (Below.refl _ _))⟩, by simp [intOf]; omega⟩
                · rw [hp, show ((2 : Nat) : Int) = 2 from rfl] at ea
                  clear hR hd2 ed ee hp hp3
                  go_wp2
                  refine wp_region_seq (fun w' => w'.cell? ⟨gx, 8, none⟩ = some (.int .i64 2) ∧ w'.cell? ⟨gx, 7, none⟩ = some (.slice (some ⟨l, 0, none⟩) 7 7) ∧ w'.cell? ⟨l, j * 2, none⟩ = some (.int .i64 2)) ((0, true) :: (1, true) :: (2, true) :: (3, true) :: (4, true) :: (5, true) :: (6, true) :: (7, true) :: (8, true) :: (9, true) :: (10, true) :: (11, true) :: (12, true) :: (13, true) :: (14, true) :: (15, true) :: (16, true) :: (17, true) :: (18, true) :: (19, true) :: (20, true) :: (21, true) :: (22, true) :: (23, true) :: (24, true) :: (26, true) :: (27, true) :: (28, true) :: (29, true) :: (25, false) :: (30, true) :: (31, true) :: []) follows13 (by kernel_rfl) (fun _ _ _ _ _ h => h) ⟨c8, c7, ea⟩ ?_
                  repeat (first | (refine wpSeq_take (v := ?_) rfl (by rfl) (fun wq hSq => ?_) ?_; rotate_left; (focus ((try dsimp only at hSq); go_simp; try with_reducible rfl)); simp only [Act.put, List.setIfInBounds_toArray, List.set_cons_zero, List.set_cons_succ]) | (refine wpSeq_skip rfl (by rfl) ?_; simp only [Act.put, List.setIfInBounds_toArray, List.set_cons_zero, List.set_cons_succ]))
                  refine wpSeq_skip' rfl (by rfl) ⟨c8, c7, ea⟩ ?_
                  simp only [Act.put, List.setIfInBounds_toArray, List.set_cons_zero, List.set_cons_succ]
                  repeat (first | (refine wpSeq_take (v := ?_) rfl (by rfl) (fun wq hSq => ?_) ?_; rotate_left; (focus ((try dsimp only at hSq); go_simp; try with_reducible rfl)); simp only [Act.put, List.setIfInBounds_toArray, List.set_cons_zero, List.set_cons_succ]) | (refine wpSeq_skip rfl (by rfl) ?_; simp only [Act.put, List.setIfInBounds_toArray, List.set_cons_zero, List.set_cons_succ]))
                  refine wpSeq_nil ?_
                  go_wp2
                  exact ⟨⟨j + 1, by first | rfl | (congr 1), by omega, HGj.out.hop (tb_drew (Below.refl _ _))⟩, by simp [intOf]; omega⟩
                · have hon : onP p j = true := by simp [onP, hp]
                  rw [ee hon] at ed
                  rw [hp, show ((3 : Nat) : Int) = 3 from rfl] at ea
                  have HX := Lib.hid (hR.y.cm j hj7 hon).1
                  have hS : S j = s := by rw [hR.i.dn rfl j hj7 hp, hR.i.us (by omega)]
                  rw [hS] at HX
                  clear hR hd2 ee hp hp3 hon hS
                  go_wp2
                  refine wp_region_seq (fun w' => w'.cell? ⟨gx, 8, none⟩ = some (.int .i64 2) ∧ w'.cell? ⟨gx, 7, none⟩ = some (.slice (some ⟨l, 0, none⟩) 7 7) ∧ w'.cell? ⟨gx, 9, none⟩ = some (.int .u64 ((s : Nat) : Int)) ∧ w'.cell? ⟨l, j * 2, none⟩ = some (.int .i64 3) ∧ w'.cell? ⟨l, j * 2 + 1, none⟩ = some (.pointer (some ⟨xb j, 0, none⟩))) ((0, true) :: (1, true) :: (2, true) :: (3, true) :: (4, true) :: (5, true) :: (6, true) :: (7, true) :: (8, true) :: (9, true) :: (10, true) :: (11, true) :: (12, true) :: (13, true) :: (14, true) :: (15, true) :: (16, true) :: (17, true) :: (18, true) :: (19, true) :: (20, true) :: (21, true) :: (22, true) :: (23, true) :: (24, true) :: (26, true) :: (27, true) :: (28, true) :: (29, true) :: (25, false) :: (30, true) :: (31, true) :: []) follows13 (by kernel_rfl) (fun _ _ _ _ _ h => h) ⟨c8, c7, c9, ea, ed⟩ ?_
                  repeat (first | (refine wpSeq_take (v := ?_) rfl (by rfl) (fun wq hSq => ?_) ?_; rotate_left; (focus ((try dsimp only at hSq); go_simp; try with_reducible rfl)); simp only [Act.put, List.setIfInBounds_toArray, List.set_cons_zero, List.set_cons_succ]) | (refine wpSeq_skip rfl (by rfl) ?_; simp only [Act.put, List.setIfInBounds_toArray, List.set_cons_zero, List.set_cons_succ]))
                  refine wpSeq_do rfl (by rfl) (fun KK hK => ?_)
                  go_simp
                  refine (stampC_any (HX.out.on (tb_drew (Below.refl _ _)))).mono ?_
                  rintro r wt ⟨rfl, hw⟩
                  subst wt
                  refine hK.out _ _ ⟨c8, c7, c9, ea, ed⟩ ?_
                  clear hK KK
                  repeat (first | (refine wpSeq_take (v := ?_) rfl (by rfl) (fun wq hSq => ?_) ?_; rotate_left; (focus ((try dsimp only at hSq); go_simp; try with_reducible rfl)); simp only [Act.put, List.setIfInBounds_toArray, List.set_cons_zero, List.set_cons_succ]) | (refine wpSeq_skip rfl (by rfl) ?_; simp only [Act.put, List.setIfInBounds_toArray, List.set_cons_zero, List.set_cons_succ]))
                  refine wpSeq_nil ?_
                  go_wp2
                  exact ⟨⟨j + 1, by first | rfl | (congr 1), by omega, HGj.out.hop (tb_drew (Below.refl _ _))⟩, by simp [intOf]; omega⟩
            · have hj7' : ¬ (j : Int) < 7 := by omega
              clear hR
              go_wp2
              exact ⟨⟨i + 1, by first | rfl | (congr 1), by omega, HGj⟩, by simp [intOf]; omega⟩
        · have ht7' : ¬ (t : Int) = 7 := by omega
          have HW := Lib.hid (reads_any (t := t) hR HK.out (by omega))
          clear hR
          go_wp2_with (go_at_call 33; refine HW.out.mono ?_; rintro r w4 ⟨rfl, p', K', S', xb', ws', o', n', hg, _⟩; obtain ⟨⟨e0, _⟩, e7, _, _, _, e11, _⟩ := hg.y.cells; have HG2 : Hid (Rg W w4 gx b g l (i + 1)) := ⟨_, _, _, _, _, _, _, _, _, _, _, _, _, _, hg⟩; clear hg HW)
          go_loopw [8] (fun vj wr => ∃ j : Nat, vj = .int .i64 j ∧ j ≤ 7 ∧ Hid (Rg W wr gx b g l (i + 1))) (fun vj _ => 7 - (intOf vj).toNat)
          case atStart => exact ⟨0, rfl, Nat.zero_le _, HG2⟩
          case round =>
            clear HG2
            obtain ⟨j, rfl, hj, HGj⟩ := hrel
            obtain ⟨p, K, S, xb, ws, o, n, m, d, s, a, q, zp, z, hR⟩ := HGj.out
            obtain ⟨⟨c0, _⟩, c7, c8, c9, _, c11, c12, _⟩ := hR.y.cells
            by_cases hj7 : j < 7
            · have hj7' : (j : Int) < 7 := by omega
              obtain ⟨ea, _, _, ev, ed, ee⟩ := hR.y.pe.at' hj7
              have hd2 := hR.i.d2
              rcases (show d = 0 ∨ d = 1 ∨ d = 2 by omega) with rfl | rfl | rfl
              · rw [show ((0 : Nat) : Int) = 0 from rfl] at c8
                clear hR hd2 ea ed ee
                go_wp2
                refine wp_region_seq (fun w' => w'.cell? ⟨gx, 8, none⟩ = some (.int .i64 0)) ((0, true) :: (1, true) :: (2, true) :: (3, true) :: (4, true) :: (5, true) :: (6, true) :: (7, true) :: (8, true) :: (9, true) :: (10, true) :: (11, true) :: (12, true) :: (13, true) :: (14, true) :: (15, true) :: (16, true) :: (17, true) :: (18, true) :: (19, true) :: (20, true) :: (21, true) :: (22, true) :: (23, true) :: (24, true) :: (26, true) :: (27, true) :: (28, true) :: (29, true) :: (25, false) :: (30, true) :: (31, true) :: []) follows13 (by kernel_rfl) (fun _ _ _ _ _ h => h) c8 ?_
                repeat (first | (refine wpSeq_take (v := ?_) rfl (by rfl) (fun wq hSq => ?_) ?_; rotate_left; (focus ((try dsimp only at hSq); go_simp; try with_reducible rfl)); simp only [Act.put, List.setIfInBounds_toArray, List.set_cons_zero, List.set_cons_succ]) | (refine wpSeq_skip rfl (by rfl) ?_; simp only [Act.put, List.setIfInBounds_toArray, List.set_cons_zero, List.set_cons_succ]))
                refine wpSeq_skip' rfl (by rfl) c8 ?_
                simp only [Act.put, List.setIfInBounds_toArray, List.set_cons_zero, List.set_cons_succ]
                repeat (first | (refine wpSeq_take (v := ?_) rfl (by rfl) (fun wq hSq => ?_) ?_; rotate_left; (focus ((try dsimp only at hSq); go_simp; try with_reducible rfl)); simp only [Act.put, List.setIfInBounds_toArray, List.set_cons_zero, List.set_cons_succ]) | (refine wpSeq_skip rfl (by rfl) ?_; simp only [Act.put, List.setIfInBounds_toArray, List.set_cons_zero, List.set_cons_succ]))
                refine wpSeq_nil ?_
                go_wp2
                exact ⟨⟨j + 1, by first | rfl | (congr 1), by omega, HGj.out.hop (tb_drew (Below.refl _ _))⟩, by simp [intOf]; omega⟩
              · rw [show ((1 : Nat) : Int) = 1 from rfl] at c8
                clear hR hd2 ea ed ee
                go_wp2
                refine wp_region_seq (fun w' => w'.cell? ⟨gx, 8, none⟩ = some (.int .i64 1)) ((0, true) :: (1, true) :: (2, true) :: (3, true) :: (4, true) :: (5, true) :: (6, true) :: (7, true) :: (8, true) :: (9, true) :: (10, true) :: (11, true) :: (12, true) :: (13, true) :: (14, true) :: (15, true) :: (16, true) :: (17, true) :: (18, true) :: (19, true) :: (20, true) :: (21, true) :: (22, true) :: (23, true) :: (24, true) :: (26, true) :: (27, true) :: (28, true) :: (29, true) :: (25, false) :: (30, true) :: (31, true) :: []) follows13 (by kernel_rfl) (fun _ _ _ _ _ h => h) c8 ?_
                repeat (first | (refine wpSeq_take (v := ?_) rfl (by rfl) (fun wq hSq => ?_) ?_; rotate_left; (focus ((try dsimp only at hSq); go_simp; try with_reducible rfl)); simp only [Act.put, List.setIfInBounds_toArray, List.set_cons_zero, List.set_cons_succ]) | (refine wpSeq_skip rfl (by rfl) ?_; simp only [Act.put, List.setIfInBounds_toArray, List.set_cons_zero, List.set_cons_succ]))
                refine wpSeq_skip' rfl (by rfl) c8 ?_
                simp only [Act.put, List.setIfInBounds_toArray, List.set_cons_zero, List.set_cons_succ]
                repeat (first | (refine wpSeq_take (v := ?_) rfl (by rfl) (fun wq hSq => ?_) ?_; rotate_left; (focus ((try dsimp only at hSq); go_simp; try with_reducible rfl)); simp only [Act.put, List.setIfInBounds_toArray, List.set_cons_zero, List.set_cons_succ]) | (refine wpSeq_skip rfl (by rfl) ?_; simp only [Act.put, List.setIfInBounds_toArray, List.set_cons_zero, List.set_cons_succ]))
                refine wpSeq_nil ?_
                go_wp2
                exact ⟨⟨j + 1, by first | rfl | (congr 1), by omega, HGj.out.hop (tb_drew (Below.refl _ _))⟩, by simp [intOf]; omega⟩
              · rw [show ((2 : Nat) : Int) = 2 from rfl] at c8
                have hp3 := hR.i.p3 j hj7
                rcases (show p j = 0 ∨ p j = 1 ∨ p j = 2 ∨ p j = 3 by omega) with hp | hp | hp | hp
                · rw [hp, show ((0 : Nat) : Int) = 0 from rfl] at ea
                  clear hR hd2 ed ee hp hp3
                  go_wp2
                  refine wp_region_seq (fun w' => w'.cell? ⟨gx, 8, none⟩ = some (.int .i64 2) ∧ w'.cell? ⟨gx, 7, none⟩ = some (.slice (some ⟨l, 0, none⟩) 7 7) ∧ w'.cell? ⟨l, j * 2, none⟩ = some (.int .i64 0)) ((0, true) :: (1, true) :: (2, true) :: (3, true) :: (4, true) :: (5, true) :: (6, true) :: (7, true) :: (8, true) :: (9, true) :: (10, true) :: (11, true) :: (12, true) :: (13, true) :: (14, true) :: (15, true) :: (16, true) :: (17, true) :: (18, true) :: (19, true) :: (20, true) :: (21, true) :: (22, true) :: (23, true) :: (24, true) :: (26, true) :: (27, true) :: (28, true) :: (29, true) :: (25, false) :: (30, true) :: (31, true) :: []) follows13 (by kernel_rfl) (fun _ _ _ _ _ h => h) ⟨c8, c7, ea⟩ ?_
                  repeat (first | (refine wpSeq_take (v := ?_) rfl (by rfl) (fun wq hSq => ?_) ?_; rotate_left; (focus ((try dsimp only at hSq); go_simp; try with_reducible rfl)); simp only [Act.put, List.setIfInBounds_toArray, List.set_cons_zero, List.set_cons_succ]) | (refine wpSeq_skip rfl (by rfl) ?_; simp only [Act.put, List.setIfInBounds_toArray, List.set_cons_zero, List.set_cons_succ]))
                  refine wpSeq_skip' rfl (by rfl) ⟨c8, c7, ea⟩ ?_
                  simp only [Act.put, List.setIfInBounds_toArray, List.set_cons_zero, List.set_cons_succ]
                  repeat (first | (refine wpSeq_take (v := ?_) rfl (by rfl) (fun wq hSq => ?_) ?_; rotate_left; (focus ((try dsimp only at hSq); go_simp; try with_reducible rfl)); simp only [Act.put, List.setIfInBounds_toArray, List.set_cons_zero, List.set_cons_succ]) | (refine wpSeq_skip rfl (by rfl) ?_; simp only [Act.put, List.setIfInBounds_toArray, List.set_cons_zero, List.set_cons_succ]))
                  refine wpSeq_nil ?_
                  go_wp2
                  exact ⟨⟨j + 1, by first | rfl | (congr 1), by omega, HGj.out.hop (tb_drew (Below.refl _ _))⟩, by simp [intOf]; omega⟩
                · rw [hp, show ((1 : Nat) : Int) = 1 from rfl] at ea
                  clear hR hd2 ed ee hp hp3
                  go_wp2
                  refine wp_region_seq (fun w' => w'.cell? ⟨gx, 8, none⟩ = some (.int .i64 2) ∧ w'.cell? ⟨gx, 7, none⟩ = some (.slice (some ⟨l, 0, none⟩) 7 7) ∧ w'.cell? ⟨l, j * 2, none⟩ = some (.int .i64 1)) ((0, true) :: (1, true) :: (2, true) :: (3, true) :: (4, true) :: (5, true) :: (6, true) :: (7, true) :: (8, true) :: (9, true) :: (10, true) :: (11, true) :: (12, true) :: (13, true) :: (14, true) :: (15, true) :: (16, true) :: (17, true) :: (18, true) :: (19, true) :: (20, true) :: (21, true) :: (22, true) :: (23, true) :: (24, true) :: (26, true) :: (27, true) :: (28, true) :: (29, true) :: (25, false) :: (30, true) :: (31, true) :: []) follows13 (by kernel_rfl) (fun _ _ _ _ _ h => h) ⟨c8, c7, ea⟩ ?_
                  repeat (first | (refine wpSeq_take (v := ?_) rfl (by rfl) (fun wq hSq => ?_) ?_; rotate_left; (focus ((try dsimp only at hSq); go_simp; try with_reducible rfl)); simp only [Act.put, List.setIfInBounds_toArray, List.set_cons_zero, List.set_cons_succ]) | (refine wpSeq_skip rfl (by rfl) ?_; simp only [Act.put, List.setIfInBounds_toArray, List.set_cons_zero, List.set_cons_succ]))
                  refine wpSeq_skip' rfl (by rfl) ⟨c8, c7, ea⟩ ?_
                  simp only [Act.put, List.setIfInBounds_toArray, List.set_cons_zero, List.set_cons_succ]
                  repeat (first | (refine wpSeq_take (v := ?_) rfl (by rfl) (fun wq hSq => ?_) ?_; rotate_left; (focus ((try dsimp only at hSq); go_simp; try with_reducible rfl)); simp only [Act.put, List.setIfInBounds_toArray, List.set_cons_zero, List.set_cons_succ]) | (refine wpSeq_skip rfl (by rfl) ?_; simp only [Act.put, List.setIfInBounds_toArray, List.set_cons_zero, List.set_cons_succ]))
                  refine wpSeq_nil ?_
                  go_wp2
                  exact ⟨⟨j + 1, by first | rfl | (congr 1), by omega, HGj.out.hop (tb_drew (Below.refl _ _))⟩, by simp [intOf]; omega⟩
                · rw [hp, show ((2 : Nat) : Int) = 2 from rfl] at ea
                  clear hR hd2 ed ee hp hp3
                  go_wp2
                  refine wp_region_seq (fun w' => w'.cell? ⟨gx, 8, none⟩ = some (.int .i64 2) ∧ w'.cell? ⟨gx, 7, none⟩ = some (.slice (some ⟨l, 0, none⟩) 7 7) ∧ w'.cell? ⟨l, j * 2, none⟩ = some (.int .i64 2)) ((0, true) :: (1, true) :: (2, true) :: (3, true) :: (4, true) :: (5, true) :: (6, true) :: (7, true) :: (8, true) :: (9, true) :: (10, true) :: (11, true) :: (12, true) :: (13, true) :: (14, true) :: (15, true) :: (16, true) :: (17, true) :: (18, true) :: (19, true) :: (20, true) :: (21, true) :: (22, true) :: (23, true) :: (24, true) :: (26, true) :: (27, true) :: (28, true) :: (29, true) :: (25, false) :: (30, true) :: (31, true) :: []) follows13 (by kernel_rfl) (fun _ _ _ _ _ h => h) ⟨c8, c7, ea⟩ ?_
                  repeat (first | (refine wpSeq_take (v := ?_) rfl (by rfl) (fun wq hSq => ?_) ?_; rotate_left; (focus ((try dsimp only at hSq); go_simp; try with_reducible rfl)); simp only [Act.put, List.setIfInBounds_toArray, List.set_cons_zero, List.set_cons_succ]) | (refine wpSeq_skip rfl (by rfl) ?_; simp only [Act.put, List.setIfInBounds_toArray, List.set_cons_zero, List.set_cons_succ]))
                  refine wpSeq_skip' rfl (by rfl) ⟨c8, c7, ea⟩ ?_
                  simp only [Act.put, List.setIfInBounds_toArray, List.set_cons_zero, List.set_cons_succ]
                  repeat (first | (refine wpSeq_take (v := ?_) rfl (by rfl) (fun wq hSq => ?_) ?_; rotate_left; (focus ((try dsimp only at hSq); go_simp; try with_reducible rfl)); simp only [Act.put, List.setIfInBounds_toArray, List.set_cons_zero, List.set_cons_succ]) | (refine wpSeq_skip rfl (by rfl) ?_; simp only [Act.put, List.setIfInBounds_toArray, List.set_cons_zero, List.set_cons_succ]))
                  refine wpSeq_nil ?_
                  go_wp2
                  exact ⟨⟨j + 1, by first | rfl | (congr 1), by omega, HGj.out.hop (tb_drew (Below.refl _ _))⟩, by simp [intOf]; omega⟩
                · have hon : onP p j = true := by simp [onP, hp]
                  rw [ee hon] at ed
                  rw [hp, show ((3 : Nat) : Int) = 3 from rfl] at ea
                  have HX := Lib.hid (hR.y.cm j hj7 hon).1
                  have hS : S j = s := by rw [hR.i.dn rfl j hj7 hp, hR.i.us (by omega)]
                  rw [hS] at HX
                  clear hR hd2 ee hp hp3 hon hS
                  go_wp2
                  refine wp_region_seq (fun w' => w'.cell? ⟨gx, 8, none⟩ = some (.int .i64 2) ∧ w'.cell? ⟨gx, 7, none⟩ = some (.slice (some ⟨l, 0, none⟩) 7 7) ∧ w'.cell? ⟨gx, 9, none⟩ = some (.int .u64 ((s : Nat) : Int)) ∧ w'.cell? ⟨l, j * 2, none⟩ = some (.int .i64 3) ∧ w'.cell? ⟨l, j * 2 + 1, none⟩ = some (.pointer (some ⟨xb j, 0, none⟩))) ((0, true) :: (1, true) :: (2, true) :: (3, true) :: (4, true) :: (5, true) :: (6, true) :: (7, true) :: (8, true) :: (9, true) :: (10, true) :: (11, true) :: (12, true) :: (13, true) :: (14, true) :: (15, true) :: (16, true) :: (17, true) :: (18, true) :: (19, true) :: (20, true) :: (21, true) :: (22, true) :: (23, true) :: (24, true) :: (26, true) :: (27, true) :: (28, true) :: (29, true) :: (25, false) :: (30, true) :: (31, true) :: []) follows13 (by kernel_rfl) (fun _ _ _ _ _ h => h) ⟨c8, c7, c9, ea, ed⟩ ?_
                  repeat (first | (refine wpSeq_take (v := ?_) rfl (by rfl) (fun wq hSq => ?_) ?_; rotate_left; (focus ((try dsimp only at hSq); go_simp; try with_reducible rfl)); simp only [Act.put, List.setIfInBounds_toArray, List.set_cons_zero, List.set_cons_succ]) | (refine wpSeq_skip rfl (by rfl) ?_; simp only [Act.put, List.setIfInBounds_toArray, List.set_cons_zero, List.set_cons_succ]))
                  refine wpSeq_do rfl (by rfl) (fun KK hK => ?_)
                  go_simp
                  refine (stampC_any (HX.out.on (tb_drew (Below.refl _ _)))).mono ?_
                  rintro r wt ⟨rfl, hw⟩
                  subst wt
                  refine hK.out _ _ ⟨c8, c7, c9, ea, ed⟩ ?_
                  clear hK KK
                  repeat (first | (refine wpSeq_take (v := ?_) rfl (by rfl) (fun wq hSq => ?_) ?_; rotate_left; (focus ((try dsimp only at hSq); go_simp; try with_reducible rfl)); simp only [Act.put, List.setIfInBounds_toArray, List.set_cons_zero, List.set_cons_succ]) | (refine wpSeq_skip rfl (by rfl) ?_; simp only [Act.put, List.setIfInBounds_toArray, List.set_cons_zero, List.set_cons_succ]))
                  refine wpSeq_nil ?_
                  go_wp2
                  exact ⟨⟨j + 1, by first | rfl | (congr 1), by omega, HGj.out.hop (tb_drew (Below.refl _ _))⟩, by simp [intOf]; omega⟩
            · have hj7' : ¬ (j : Int) < 7 := by omega
              clear hR
              go_wp2
              exact ⟨⟨i + 1, by first | rfl | (congr 1), by omega, HGj⟩, by simp [intOf]; omega⟩
      · have hlt' : ¬ (i : Int) < (len : Int) := by omega
        have HBL := Lib.hid hR.y.below
        clear hR HG hlt hil HBY
        go_wp2
        go_ret
        exact ⟨rfl, HBL.out⟩

set_option maxRecDepth 100000 in
theorem lifted (os : Os) (started : os.Started) (H : Type) (enc : TypeId × Value → H) :
    ReturnsInHanded {} Try.checked os 6 .any (Rows.censusGuardsSpec.pre6 enc Try.prog Try.f6 Rows.censusGuardsRow.domain false) (Rows.censusGuardsSpec.post enc Try.prog Try.f6 false true false false) := by
  refine returnsInHanded_of_change (C := Try.checked) ownK started (by kernel_rfl) Try.func6
    (ChangeSpec.witness6 (enc := enc) (C := Try.checked) false ⟨#[], #[.slice none 0 0], []⟩ 8 (by kernel_rfl) (by kernel_rfl) (by kernel_rfl) (by kernel_rfl)) ?_
  intro W base args ds gs before hval0 hW _ _
  have hval : ∀ (j : Nat) t v, Try.f6.params[j]? = some t → args[j]? = some v → Value.okWide Try.prog W .any base t v := hval0
  have hW2 := hW
  obtain ⟨p, q, hA0, hV, rfl, _, _⟩ := hW
  have hA : DataW.TrodAll enc Try.prog W 0 (fun _ => true) true Try.f6.params.toList args.toList ds p := hA0
  rw [Try.params6] at hA hval
  obtain ⟨v0, vs0, d0, ds0, p0, q0, hargs, rfl, rfl, h0, r0⟩ := trodAll_cons hA
  obtain ⟨rfl, rfl, rfl⟩ := trodAll_nil r0
  obtain rfl : args = #[v0] := by cases args; simp_all
  obtain ⟨rfl, rfl⟩ := trodVars_none hV
  obtain ⟨o0, l0, c0, x0, rfl, fm0, fW0⟩ := open_octets (hval 0 63 v0 rfl rfl) h0
  clear hA0 hval0
  simp only [List.append_nil] at hW2
  have hlt : ∀ x ∈ p0, x.block < W.heap.size := fun x hx => by simpa using hW2.lt x (by simpa using hx)
  refine (walk o0 l0 c0 x0 fm0 W fW0).mono fun e W2 ⟨he, hnx⟩ => ?_
  subst he
  exact ⟨_, rfl, _, _, _, [], _, [], hW2, trodAll_mk1 (shut_bool Try.underlying4 _), (trodAll_cons_mk (Below.trod laidOut (by kernel_rfl) (of_decide_eq_true (by kernel_rfl)) h0 hnx (fun x hx => hlt x (by first | simpa using hx | (simp at hx ⊢; simp [hx])))) trodAll_mk0), rfl, hnx.frame _, fun h => by cases h⟩

/-- the statement -/
theorem proved : Rows.CensusGuardsSaid :=
  OpenClaim.holds_of_wide 6 Try.f6 rfl rfl rfl rfl rfl rfl rfl ⟨rfl, rfl, rfl, rfl, rfl⟩ rfl rfl rfl rfl rfl (by kernel_rfl) Try.func6 (by kernel_rfl)
    (of_decide_eq_true (by kernel_rfl)) (by unfold Func.isWrapper; first | (rw [if_pos (by decide +kernel)]; kernel_rfl) | (rw [if_neg (by decide +kernel)]; exact ⟨rfl, rfl⟩))
    (fun os started H enc _ => lifted os started H enc)
end Go.Proofs.Ytdfmmolhfacahaa.censusGuards
