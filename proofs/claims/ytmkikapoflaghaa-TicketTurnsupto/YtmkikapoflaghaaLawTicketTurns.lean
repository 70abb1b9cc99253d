/- For every script of eight threads' steps the statement TicketTurns answers true: threads are told true one at a time and in the order in which they drew, and whoever is told false has just Ahead threads ahead, one at the least. The script is of bulk at most 1048576 (the second form); no other condition. -/
import Derived.Test.YtmkikapoflaghaaM8
import Derived.Test.YtmkikapoflaghaaUB
import Derived.Test.YtmkikapoflaghaaU8
import Derived.JoinedCond
namespace Go.Proofs.Ytmkikapoflaghaa.ticketTurns
open Go.ChangeShapes Go.WideShapes Go.ChangeAt Go.RowKit

set_option maxHeartbeats 16000000 in
set_option maxRecDepth 100000 in
theorem walk (ao : Option Addr) (len cap : Nat) (x : Nat → Nat) (hmax : len ≤ 1048576) (W : World) (hby : BytesAt W ao len x) : Calls Try.prog 5 #[.slice ao len cap] W fun r W2 => r = .returned (.bool true) ∧ Below W.heap.size W W2 := by
  obtain ⟨cur0, hs0, hc0, hmk⟩ := uMake
  have HC0 := Lib.hid (And.intro hs0 hc0)
  obtain ⟨i0, hi, hz0, hz1, hz2⟩ := info_parts intInfo12
  have HZI := Lib.hid (And.intro hi (And.intro hz0 (And.intro hz1 hz2)))
  have HBY := Lib.hid hby
  clear hs0 hc0 hi hz0 hz1 hz2 hby
  go_enter Try.func5, Try.ntmps5
  go_wp2_with (first
    | (go_at_call 12; refine (live12_any _).mono ?_; rintro r w1 ⟨rfl, hb⟩; have HB1 := Lib.hid hb; clear hb)
    | (go_at_call 6; refine (two_any _).mono ?_; rintro r w2 ⟨rfl, hm, hb⟩; have HM2 := Lib.hid hm; have HB2 := Lib.hid hb; clear hm hb))
  have HG := Lib.hid (rnd_new HB1.out HM2.out HB2.out HC0.out.1 HC0.out.2)
  clear HB1 HM2 HB2 HC0 hmk
  obtain ⟨B, hB⟩ : ∃ B, B = w2.heap.size + 1 + 1 := ⟨_, rfl⟩
  obtain ⟨l, hl⟩ : ∃ l, l = w2.heap.size + 1 := ⟨_, rfl⟩
  obtain ⟨q, hq⟩ : ∃ q, q = w2.heap.size := ⟨_, rfl⟩
  obtain ⟨b, hb⟩ : ∃ b, b = w1.heap.size + 1 := ⟨_, rfl⟩
  obtain ⟨g, hg⟩ : ∃ g, g = w1.heap.size := ⟨_, rfl⟩
  rw [← hB, ← hb, ← hl] at HG
  rw [← hg, ← hq] at HG
  rw [← hl, ← hb, ← hq]
  clear hB hl hq hb hg
  go_loopw [7, 8, 24] (fun vd vs vi wr => ∃ (i n cD nD : Nat) (a : Option Addr) (D : List Nat), vd = .slice a nD cD ∧ vs = .int .i64 n ∧ vi = .int .i64 i ∧ i ≤ len ∧ nD = D.length ∧ Hid (Rd W wr B b g l q a cD D n i)) (fun _ _ vi _ => len - (intOf vi).toNat)
  case atStart => exact ⟨0, 0, 0, 0, none, [], rfl, rfl, rfl, Nat.zero_le _, rfl, HG⟩
  case round =>
    clear HG
    obtain ⟨i, n, cD, nD, a, D, rfl, rfl, rfl, hil, hnD, HG⟩ := hrel
    obtain ⟨p, k, sv, o, c, hR⟩ := HG.out
    by_cases hlt : i < len
    · have hlt' : (i : Int) < (len : Int) := by omega
      obtain ⟨bx, off, hao, hbW, kx, hx256⟩ := HBY.out i hlt
      subst hao
      rw [← hR.mid.below.cell (p := ⟨bx, off + i, none⟩) hbW] at kx
      have hbw : bx < wr.heap.size := Nat.lt_of_lt_of_le hbW hR.mid.below.size
      obtain ⟨y, hy⟩ : ∃ y, y = x i := ⟨_, rfl⟩
      rw [← hy] at kx hx256
      obtain ⟨t, ht⟩ : ∃ t, t = y % 8 := ⟨_, rfl⟩
      have ht8 : t < 8 := by omega
      have ht8' : (t : Int) < 8 := by omega
      have hrem : (y : Int).tmod 8 = (t : Int) := by rw [Int.tmod_eq_emod_of_nonneg (by omega)]; omega
      have hi20 : i < 1048576 := by omega
      have hn20 : n ≤ 1048576 := by have h1 := hR.inv.n_le; have h2 := hR.few; omega
      have HR := Lib.hid hR
      have HT := Lib.hid ht8
      obtain ⟨a0, a1, a2, a3⟩ := hR.mid.t.at' ht8
      have a4 := hR.mid.t.lt
      obtain ⟨p0, p1, p2, p3, p4, p5, p6⟩ := hR.mid.pl.cells
      have hrg := hR.inv.rng t ht8
      clear hy ht hR HG HBY hbW
      rcases hrg with hp | hp | hp
      · rw [hp] at a0
        have HP := Lib.hid hp
        have HND := Lib.hid hnD
        have hfew : nD ≤ i := by have := HR.out.few; omega
        clear hp hnD
        go_wp2_with (first
          | (at_builtin; refine wpList_append_own _ rfl _ _ 52 rfl B 3 i0 (.int .i64 0) 1 8 Try.underlying52 HZI.out.1 HZI.out.2.1 HZI.out.2.2.1 HZI.out.2.2.2 rfl (by decide) _ nD (i64n D) rfl (by have h1 := HR.out.mid.own; rw [← HND.out] at h1; exact World.ownsRow.alloc h1 _) ⟨wr.heap.size, 0, none⟩ 1 1 [.int .i64 (t : Nat)] rfl rfl (cell_one_new _ _ _) (fun u hu => by simp at hu; subst hu; rfl) (by unfold maxLen; omega) (by omega) (by have := HR.out.mid.hi; simp; omega) ?_; intro v3 w3 hown3 hgrow3 hnil3; rw [HND.out] at hown3 hgrow3; obtain ⟨a', c', hv3, hmid⟩ := HR.out.mid.app hown3 hgrow3; rw [← HND.out] at hv3; subst hv3; have HM3 := Lib.hid hmid; obtain ⟨p0, p1, p2, p3, p4, p5, p6⟩ := hmid.pl.cells; clear hown3 hgrow3 hnil3 hmid)
          | (go_at_call 21; refine (one_draw HM3.out.m HM3.out.t HM3.out.n1.1 HM3.out.n1.2 HT.out HP.out).mono ?_; rintro e wz ⟨rfl, c2, q2, hob⟩; have HRZ := Lib.hid (rnd_draw HR.out.inv HR.out.few hi20 HT.out HP.out HM3.out hob); clear hob HM3))
        have HNDZ : Hid (nD + 1 = (D ++ [t]).length) := by show _ = _; simp; exact HND.out
        have HRA := HRZ.out.inv.one
        have HTZ := Lib.hid HRZ.out.mid.t
        generalize hpz : (upd p t 1) = pz at HRA HTZ
        have HPZ := Lib.hid hpz
        clear hpz
        go_loopw [14, 15] (fun vk vj wq => ∃ j : Nat, vk = .int .i64 (cu (twoP pz) j : Nat) ∧ vj = .int .i64 j ∧ wq = wz ∧ j ≤ 8) (fun _ vj _ => 8 - (intOf vj).toNat)
        case atStart => exact ⟨0, rfl, rfl, rfl, by omega⟩
        case round =>
          obtain ⟨j, rfl, rfl, rfl, hj⟩ := hrel
          by_cases hj8 : j < 8
          · have hj8' : (j : Int) < 8 := by omega
            obtain ⟨c0, _, _, _⟩ := HTZ.out.at' hj8
            have c4 := HTZ.out.lt
            have hcu : (cu (twoP pz) (j + 1) : Nat) = cu (twoP pz) j + (if twoP pz j then 1 else 0) := rfl
            have hle := cu_le (twoP pz) j
            unfold twoP at hcu
            by_cases q1 : pz j = 2
            · rw [decide_eq_true q1] at hcu
              have HCU : Hid ((cu (twoP pz) (j + 1) : Nat) = cu (twoP pz) j + 1) := hcu
              rw [q1] at c0
              clear hcu q1
              obtain ⟨z, hz⟩ : ∃ z, z = cu (twoP pz) j := ⟨_, rfl⟩
              rw [← hz] at HCU hle ⊢
              clear hz
              go_wp2
              exact ⟨⟨j + 1, by rw [HCU.out]; first | rfl | (congr 1), by first | rfl | (congr 1), by trivial, by omega⟩, by simp [intOf]; omega⟩
            · rw [decide_eq_false q1] at hcu
              have HCU : Hid ((cu (twoP pz) (j + 1) : Nat) = cu (twoP pz) j) := hcu
              clear hcu
              generalize pz j = pj at *
              obtain ⟨z, hz⟩ : ∃ z, z = cu (twoP pz) j := ⟨_, rfl⟩
              rw [← hz] at HCU hle ⊢
              clear hz
              go_wp2
              exact ⟨⟨j + 1, by rw [HCU.out], by first | rfl | (congr 1), by trivial, by omega⟩, by simp [intOf]; omega⟩
          · have hj8' : ¬ (j : Int) < 8 := by omega
            have e : j = 8 := by omega
            subst e
            obtain ⟨z, hz⟩ : ∃ z, z = cu (twoP pz) 8 := ⟨_, rfl⟩
            rw [← hz] at HRA ⊢
            have hz1 : ¬ (1 : Int) < (z : Int) := by omega
            clear hz HRA hj8
            go_wp2
            exact ⟨⟨i + 1, n, c', nD + 1, a', D ++ [t], by first | rfl | (congr 1), rfl, by first | rfl | (congr 1), by omega, HNDZ.out, ⟨_, _, _, _, _, HRZ.out⟩⟩, by simp [intOf]; omega⟩
      · rw [hp] at a0
        have HP := Lib.hid hp
        have HND := Lib.hid hnD
        obtain ⟨m, hk, hsm, hmD, hcnt, hDm⟩ := HR.out.inv.look HT.out hp
        have hm8 : m - sv ≤ 8 := by have := cu_le (ahP p k (k t)) 8; omega
        have hbt : betw (sv : Int) (k t) = ((m - sv : Nat) : Int) := by rw [hk]; exact betw_nat hsm (by omega)
        clear hp
        by_cases hms : m = sv
        · have hks : k t = (sv : Int) := by rw [hk, hms]
          obtain ⟨hn, hDn, hT2⟩ := HR.out.inv.tell HT.out HP.out hks
          obtain ⟨xd, had, hxd, _⟩ := HR.out.mid.at' hDn
          subst had
          have HAT : Hid (∀ wz q2 c2, Ob wr wz b g l q2 (upd p t 2) k [(D.length : Int), (sv : Int)] false c2 → Hid (Rnd W wz B b g l q (some ⟨xd, 0, none⟩) cD D (upd p t 2) k sv (n + 1) (i + 1) false c2) ∧ xd < wz.heap.size ∧ wz.cell? ⟨xd, n, none⟩ = some (.int .i64 (t : Nat))) := fun wz q2 c2 hob => by
            have h1 := rnd_told HR.out hT2 hob
            obtain ⟨x2, e2, h2, h3⟩ := h1.mid.at' hDn
            cases e2
            exact ⟨h1, h2, h3⟩
          have hnlt : ¬ (nD : Int) ≤ (n : Int) := by omega
          have hnlt2 : (n : Int) < (nD : Int) := by omega
          have HONE := Lib.hid (one_told HR.out.mid.m HR.out.mid.t HR.out.mid.n1.1 HR.out.mid.n1.2 HT.out HP.out rfl hcnt hbt (by omega) hks.symm)
          have ht0 : (0 : Int) ≤ (t : Int) := by omega
          clear hk hsm hmD hcnt hDm hm8 hbt hms hks hn hDn hT2 hxd hnD
          go_wp2_with (go_at_call 21; refine HONE.out.mono ?_; rintro e wz ⟨rfl, c2, q2, hob⟩; obtain ⟨HRZ, e1, e2⟩ := HAT.out _ _ _ hob; clear hob HONE HAT)
          have HRA := HRZ.out.inv.one
          have HTZ := Lib.hid HRZ.out.mid.t
          generalize hpz : (upd p t 2) = pz at HRA HTZ
          have HPZ := Lib.hid hpz
          clear hpz
          go_loopw [14, 15] (fun vk vj wq => ∃ j : Nat, vk = .int .i64 (cu (twoP pz) j : Nat) ∧ vj = .int .i64 j ∧ wq = wz ∧ j ≤ 8) (fun _ vj _ => 8 - (intOf vj).toNat)
          case atStart => exact ⟨0, rfl, rfl, rfl, by omega⟩
          case round =>
            obtain ⟨j, rfl, rfl, rfl, hj⟩ := hrel
            by_cases hj8 : j < 8
            · have hj8' : (j : Int) < 8 := by omega
              obtain ⟨c0, _, _, _⟩ := HTZ.out.at' hj8
              have c4 := HTZ.out.lt
              have hcu : (cu (twoP pz) (j + 1) : Nat) = cu (twoP pz) j + (if twoP pz j then 1 else 0) := rfl
              have hle := cu_le (twoP pz) j
              unfold twoP at hcu
              by_cases q1 : pz j = 2
              · rw [decide_eq_true q1] at hcu
                have HCU : Hid ((cu (twoP pz) (j + 1) : Nat) = cu (twoP pz) j + 1) := hcu
                rw [q1] at c0
                clear hcu q1
                obtain ⟨z, hz⟩ : ∃ z, z = cu (twoP pz) j := ⟨_, rfl⟩
                rw [← hz] at HCU hle ⊢
                clear hz
                go_wp2
                exact ⟨⟨j + 1, by rw [HCU.out]; first | rfl | (congr 1), by first | rfl | (congr 1), by trivial, by omega⟩, by simp [intOf]; omega⟩
              · rw [decide_eq_false q1] at hcu
                have HCU : Hid ((cu (twoP pz) (j + 1) : Nat) = cu (twoP pz) j) := hcu
                clear hcu
                generalize pz j = pj at *
                obtain ⟨z, hz⟩ : ∃ z, z = cu (twoP pz) j := ⟨_, rfl⟩
                rw [← hz] at HCU hle ⊢
                clear hz
                go_wp2
                exact ⟨⟨j + 1, by rw [HCU.out], by first | rfl | (congr 1), by trivial, by omega⟩, by simp [intOf]; omega⟩
            · have hj8' : ¬ (j : Int) < 8 := by omega
              have e : j = 8 := by omega
              subst e
              obtain ⟨z, hz⟩ : ∃ z, z = cu (twoP pz) 8 := ⟨_, rfl⟩
              rw [← hz] at HRA ⊢
              have hz1 : ¬ (1 : Int) < (z : Int) := by omega
              clear hz HRA hj8
              go_wp2
              exact ⟨⟨i + 1, n + 1, cD, nD, _, D, rfl, by first | rfl | (congr 1), by first | rfl | (congr 1), by omega, HND.out, ⟨_, _, _, _, _, HRZ.out⟩⟩, by simp [intOf]; omega⟩
        · have hks : (sv : Int) ≠ k t := by rw [hk]; omega
          have HONE := Lib.hid (one_wait HR.out.mid.m HR.out.mid.t HR.out.mid.n1.1 HR.out.mid.n1.2 HT.out HP.out rfl hcnt hbt (by omega) hks)
          clear hk hsm hmD hcnt hDm hm8 hbt hms hks hnD
          go_wp2_with (go_at_call 21; refine HONE.out.mono ?_; rintro e wz ⟨rfl, c2, q2, hob⟩; have HRZ := Lib.hid (rnd_wait HR.out hob); clear hob HONE)
          have HRA := HRZ.out.inv.one
          have HTZ := Lib.hid HRZ.out.mid.t
          generalize hpz : p = pz at HRA HTZ
          have HPZ := Lib.hid hpz
          clear hpz
          go_loopw [14, 15] (fun vk vj wq => ∃ j : Nat, vk = .int .i64 (cu (twoP pz) j : Nat) ∧ vj = .int .i64 j ∧ wq = wz ∧ j ≤ 8) (fun _ vj _ => 8 - (intOf vj).toNat)
          case atStart => exact ⟨0, rfl, rfl, rfl, by omega⟩
          case round =>
            obtain ⟨j, rfl, rfl, rfl, hj⟩ := hrel
            by_cases hj8 : j < 8
            · have hj8' : (j : Int) < 8 := by omega
              obtain ⟨c0, _, _, _⟩ := HTZ.out.at' hj8
              have c4 := HTZ.out.lt
              have hcu : (cu (twoP pz) (j + 1) : Nat) = cu (twoP pz) j + (if twoP pz j then 1 else 0) := rfl
              have hle := cu_le (twoP pz) j
              unfold twoP at hcu
              by_cases q1 : pz j = 2
              · rw [decide_eq_true q1] at hcu
                have HCU : Hid ((cu (twoP pz) (j + 1) : Nat) = cu (twoP pz) j + 1) := hcu
                rw [q1] at c0
                clear hcu q1
                obtain ⟨z, hz⟩ : ∃ z, z = cu (twoP pz) j := ⟨_, rfl⟩
                rw [← hz] at HCU hle ⊢
                clear hz
                go_wp2
                exact ⟨⟨j + 1, by rw [HCU.out]; first | rfl | (congr 1), by first | rfl | (congr 1), by trivial, by omega⟩, by simp [intOf]; omega⟩
              · rw [decide_eq_false q1] at hcu
                have HCU : Hid ((cu (twoP pz) (j + 1) : Nat) = cu (twoP pz) j) := hcu
                clear hcu
                generalize pz j = pj at *
                obtain ⟨z, hz⟩ : ∃ z, z = cu (twoP pz) j := ⟨_, rfl⟩
                rw [← hz] at HCU hle ⊢
                clear hz
                go_wp2
                exact ⟨⟨j + 1, by rw [HCU.out], by first | rfl | (congr 1), by trivial, by omega⟩, by simp [intOf]; omega⟩
            · have hj8' : ¬ (j : Int) < 8 := by omega
              have e : j = 8 := by omega
              subst e
              obtain ⟨z, hz⟩ : ∃ z, z = cu (twoP pz) 8 := ⟨_, rfl⟩
              rw [← hz] at HRA ⊢
              have hz1 : ¬ (1 : Int) < (z : Int) := by omega
              clear hz HRA hj8
              go_wp2
              exact ⟨⟨i + 1, n, cD, nD, a, D, rfl, rfl, by first | rfl | (congr 1), by omega, HND.out, ⟨_, _, _, _, _, HRZ.out⟩⟩, by simp [intOf]; omega⟩
      · rw [hp] at a0
        have HP := Lib.hid hp
        have HND := Lib.hid hnD
        have HONE := Lib.hid (one_pass HR.out.mid.m HR.out.mid.t HR.out.mid.n1.1 HR.out.mid.n1.2 HT.out HP.out)
        clear hp hnD
        go_wp2_with (go_at_call 21; refine HONE.out.mono ?_; rintro e wz ⟨rfl, c2, q2, hob⟩; have HRZ := Lib.hid (rnd_pass HR.out hi20 HT.out HP.out hob); clear hob HONE)
        have HRA := HRZ.out.inv.one
        have HTZ := Lib.hid HRZ.out.mid.t
        generalize hpz : (upd p t 0) = pz at HRA HTZ
        have HPZ := Lib.hid hpz
        clear hpz
        go_loopw [14, 15] (fun vk vj wq => ∃ j : Nat, vk = .int .i64 (cu (twoP pz) j : Nat) ∧ vj = .int .i64 j ∧ wq = wz ∧ j ≤ 8) (fun _ vj _ => 8 - (intOf vj).toNat)
        case atStart => exact ⟨0, rfl, rfl, rfl, by omega⟩
        case round =>
          obtain ⟨j, rfl, rfl, rfl, hj⟩ := hrel
          by_cases hj8 : j < 8
          · have hj8' : (j : Int) < 8 := by omega
            obtain ⟨c0, _, _, _⟩ := HTZ.out.at' hj8
            have c4 := HTZ.out.lt
            have hcu : (cu (twoP pz) (j + 1) : Nat) = cu (twoP pz) j + (if twoP pz j then 1 else 0) := rfl
            have hle := cu_le (twoP pz) j
            unfold twoP at hcu
            by_cases q1 : pz j = 2
            · rw [decide_eq_true q1] at hcu
              have HCU : Hid ((cu (twoP pz) (j + 1) : Nat) = cu (twoP pz) j + 1) := hcu
              rw [q1] at c0
              clear hcu q1
              obtain ⟨z, hz⟩ : ∃ z, z = cu (twoP pz) j := ⟨_, rfl⟩
              rw [← hz] at HCU hle ⊢
              clear hz
              go_wp2
              exact ⟨⟨j + 1, by rw [HCU.out]; first | rfl | (congr 1), by first | rfl | (congr 1), by trivial, by omega⟩, by simp [intOf]; omega⟩
            · rw [decide_eq_false q1] at hcu
              have HCU : Hid ((cu (twoP pz) (j + 1) : Nat) = cu (twoP pz) j) := hcu
              clear hcu
              generalize pz j = pj at *
              obtain ⟨z, hz⟩ : ∃ z, z = cu (twoP pz) j := ⟨_, rfl⟩
              rw [← hz] at HCU hle ⊢
              clear hz
              go_wp2
              exact ⟨⟨j + 1, by rw [HCU.out], by first | rfl | (congr 1), by trivial, by omega⟩, by simp [intOf]; omega⟩
          · have hj8' : ¬ (j : Int) < 8 := by omega
            have e : j = 8 := by omega
            subst e
            obtain ⟨z, hz⟩ : ∃ z, z = cu (twoP pz) 8 := ⟨_, rfl⟩
            rw [← hz] at HRA ⊢
            have hz1 : ¬ (1 : Int) < (z : Int) := by omega
            clear hz HRA hj8
            go_wp2
            exact ⟨⟨i + 1, n, cD, nD, a, D, rfl, rfl, by first | rfl | (congr 1), by omega, HND.out, ⟨_, _, _, _, _, HRZ.out⟩⟩, by simp [intOf]; omega⟩
    · have hlt' : ¬ (i : Int) < (len : Int) := by omega
      have HBL := Lib.hid hR.mid.below
      clear hR HG hlt hil HBY hnD
      go_wp2
      go_ret
      exact ⟨rfl, HBL.out⟩

set_option maxRecDepth 100000 in
theorem lifted (os : Os) (started : os.Started) (H : Type) (enc : TypeId × Value → H) (F : Stop.Interp) :
    ReturnsInHanded {} Try.checked os 5 .any ((Rows.OpenSpec.upto Rows.ticketTurnsSpec).pre6 enc Try.prog Try.f5 Rows.ticketTurnsUptoRow.domain false) (((Rows.OpenSpec.upto Rows.ticketTurnsSpec).at F).post enc Try.prog Try.f5 false true false false) := by
  refine returnsInHanded_of_cond (C := Try.checked) (s := Rows.OpenSpec.upto Rows.ticketTurnsSpec) (k := Rows.uptoSmall) rfl ownK started (by kernel_rfl) Try.func5
    (OpenSpec.witness (enc := enc) (C := Try.checked) (s := Rows.OpenSpec.upto Rows.ticketTurnsSpec) (k := Rows.uptoSmall) rfl false ⟨#[], #[.slice none 0 0], []⟩ 8 (by kernel_rfl) (by kernel_rfl) (by kernel_rfl)
      (x := ([.nil], [], [])) (by kernel_rfl) rfl (by kernel_rfl)) ?_
  intro W base args ds gs before hval0 hW _ hk _
  have hval : ∀ (j : Nat) t v, Try.f5.params[j]? = some t → args[j]? = some v → Value.okWide Try.prog W .any base t v := hval0
  have hW2 := hW
  obtain ⟨p, q, hA0, hV, rfl, _, _⟩ := hW
  have hA : DataW.TrodAll enc Try.prog W 0 (fun _ => true) true Try.f5.params.toList args.toList ds p := hA0
  rw [Try.params5] at hA hval
  obtain ⟨v0, vs0, d0, ds0, p0, q0, hargs, rfl, rfl, h0, r0⟩ := trodAll_cons hA
  obtain ⟨rfl, rfl, rfl⟩ := trodAll_nil r0
  obtain rfl : args = #[v0] := by cases args; simp_all
  obtain ⟨rfl, rfl⟩ := trodVars_none hV
  obtain ⟨o0, l0, c0, x0, rfl, fm0, fW0⟩ := open_bytes (hval 0 50 v0 rfl rfl) h0
  have hbk := of_decide_eq_true hk
  simp only [List.append_nil, Rows.uptoBulkAll] at hbk
  have fm0 := fm0 (by omega)
  clear hA0 hval0
  simp only [List.append_nil] at hW2
  have hlt : ∀ x ∈ p0, x.block < W.heap.size := fun x hx => by simpa using hW2.lt x (by simpa using hx)
  refine (walk o0 l0 c0 x0 fm0 W fW0).mono fun e W2 ⟨he, hnx⟩ => ?_
  subst he
  exact ⟨_, rfl, _, _, _, [], _, [], hW2, trodAll_mk1 (shut_bool Try.underlying4 _), (trodAll_cons_mk (Below.trod laidOut (by kernel_rfl) (of_decide_eq_true (by kernel_rfl)) h0 hnx (fun x hx => hlt x (by first | simpa using hx | (simp at hx ⊢; simp [hx])))) trodAll_mk0), rfl, hnx.frame _, fun h => by cases h⟩

/-- the statement -/
theorem proved : Rows.TicketTurnsUptoSaid :=
  OpenClaim.holds_of_cond 5 Try.f5 rfl rfl rfl rfl rfl rfl rfl ⟨rfl, rfl, rfl, rfl, rfl⟩ rfl rfl rfl rfl rfl (by kernel_rfl) Try.func5 (by kernel_rfl)
    (of_decide_eq_true (by kernel_rfl)) (by unfold Func.isWrapper; first | (rw [if_pos (by decide +kernel)]; kernel_rfl) | (rw [if_neg (by decide +kernel)]; exact ⟨rfl, rfl⟩))
    (fun os started H enc _ F => lifted os started H enc F)
end Go.Proofs.Ytmkikapoflaghaa.ticketTurns
