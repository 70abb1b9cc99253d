/- For every thread, every need and every list of words that are laid between the steps, the statement CensusCost answers true: a coming has three accesses and then its claim and one stands in the census; a scan has as many accesses as threads that it is done with and polls. No condition. -/
import Derived.Test.YtdfmmolhfacahaaM8
import Derived.Test.YtdfmmolhfacahaaVO
import Derived.Test.YtdfmmolhfacahaaVE
namespace Go.Proofs.Ytdfmmolhfacahaa.censusCost
open Go.ChangeShapes Go.WideShapes Go.ChangeAt Go.RowKit

theorem cost_thread (a0 : Int) : ∃ t : Nat, t < 8 ∧ ((a0.tmod 8 < 0 ∧ a0.tmod 8 + 8 = (t : Int)) ∨ (¬ a0.tmod 8 < 0 ∧ a0.tmod 8 = (t : Int))) := by
  have h1 : a0.tmod 8 < 8 := Int.tmod_lt_of_pos _ (by decide)
  have h2 : -8 < a0.tmod 8 := Int.lt_tmod_of_pos _ (by decide)
  by_cases q : a0.tmod 8 < 0
  · exact ⟨(a0.tmod 8 + 8).toNat, by omega, .inl ⟨q, by omega⟩⟩
  · exact ⟨(a0.tmod 8).toNat, by omega, .inr ⟨q, by omega⟩⟩
theorem rep9 : List.replicate 9 (0 : Int) = [0, 0, 0, 0, 0, 0, 0, 0, 0] := rfl
set_option maxHeartbeats 16000000 in
set_option maxRecDepth 100000 in
theorem walk (a0 a1 : Int) (ao : Option Addr) (len cap : Nat) (y0 : Nat → Nat) (_w0 : (Lit.int .i64 a0).wf = true) (_w1 : (Lit.int .u64 a1).wf = true) (hmax : len ≤ maxLen) (W : World) (hno : WordsAt W ao len y0) : Calls Try.prog 5 #[.int .i64 a0, .int .u64 a1, .slice ao len cap] W fun r W2 => r = .returned (.bool true) ∧ Below W.heap.size W W2 := by
  obtain ⟨t, ht8, hcase⟩ := cost_thread a0
  have hmm : len ≤ 9223372036854775807 := hmax
  have HNO := Lib.hid hno
  have HF := Lib.hid (fresh_any 9 (by decide) (by decide))
  have ht8' : (t : Int) < 8 := by omega
  clear _w0 _w1 hmax hno
  rcases hcase with ⟨htm, hte⟩ | ⟨htm, hte⟩
  · go_enter Try.func5, Try.ntmps5
    go_wp2_with (first
      | (go_at_call 16; refine (live13_any _).mono ?_; rintro r w0 ⟨rfl, hb⟩; have HB0 := Lib.hid hb; clear hb)
      | (go_at_call 8; refine (HF.out _).mono ?_; rintro r w1 ⟨rfl, hm, hb⟩; have H1 := Lib.hid (own0_new HB0.out hm hb); clear hm hb HB0)
      | (go_at_call 9; refine (come_any 0 0 0 1 0 0 t _).mono ?_; rintro r w2 ⟨x, rfl, lx, hx, hb⟩; have H2 := Lib.hid (And.intro lx (And.intro hx hb)); obtain ⟨p20, p21, p22, p23, p24, p25, p26⟩ := (H1.out.on hb).p.cells; clear lx hx hb)
      | (go_at_call 10; refine (look_any 0 0 0 1 0 0 ((t : Int) + 1) a1 _).mono ?_; rintro r w3 ⟨z, rfl, lz, hz, hb⟩; have H3 := Lib.hid (H1.out.own H2.out.2.1 H2.out.1 H2.out.2.2 hz lz hb); clear lz hz hb H1 H2))
    obtain ⟨b, hb⟩ : ∃ b, b = w0.heap.size + 1 := ⟨_, rfl⟩
    obtain ⟨g, hg⟩ : ∃ g, g = w0.heap.size := ⟨_, rfl⟩
    obtain ⟨q, hq⟩ : ∃ q, q = w1.heap.size := ⟨_, rfl⟩
    rw [← hb] at H3 ⊢
    rw [← hg, ← hq] at H3
    have HG0 : Hid (∃ ws o n K S, ws.length = 9 ∧ COk ⟨0, 1, t, (0 : Nat), K, S⟩ ∧ (2 ≤ 0 → ws.getD (1 + t) 0 = IntKind.u64.wrap (K + 1)) ∧ Own W w3 b g q x z ws o n ⟨0, 1, t, (0 : Nat), K, S⟩ ⟨1, (t : Int) + 1, a1, 0, 0⟩) := ⟨_, _, _, _, _, rfl, cok_new 0 1 t, fun z => absurd z (by omega), H3.out⟩
    clear H3 hb hg hq htm hte HF
    go_loopw [13] (fun vi wr => ∃ i : Nat, vi = .int .i64 i ∧ i ≤ 3 ∧ Hid (∃ ws o n K S, ws.length = 9 ∧ COk ⟨0, 1, t, i, K, S⟩ ∧ (2 ≤ i → ws.getD (1 + t) 0 = IntKind.u64.wrap (K + 1)) ∧ Own W wr b g q x z ws o n ⟨0, 1, t, i, K, S⟩ ⟨1, (t : Int) + 1, a1, 0, 0⟩)) (fun vi _ => 3 - (intOf vi).toNat)
    case atStart => exact ⟨0, rfl, by omega, HG0⟩
    case round =>
      clear HG0
      obtain ⟨i, rfl, hi, HG⟩ := hrel
      obtain ⟨ws, o, n, K, S, hl, hc, hw, ho⟩ := HG.out
      by_cases hlt : i < 3
      · by_cases hno : i < len
        · by_cases q2 : (i : Int) = 2
          · obtain ⟨bx, off, hao, hbW, kx, _⟩ := HNO.out i hno
            subst hao
            rw [← ho.below.cell (p := ⟨bx, off + i, none⟩) hbW] at kx
            have hbw : bx < wr.heap.size := Nat.lt_of_lt_of_le hbW ho.below.size
            obtain ⟨y, hy⟩ : ∃ y, y = (y0 i : Int) := ⟨_, rfl⟩
            rw [← hy] at kx
            clear hy hbW
            have hl2 : (ws.set 0 y).length = 9 := by rw [List.length_set]; exact hl
            have hw2 : (ws.set 0 y).getD (1 + t) 0 = ws.getD (1 + t) 0 := by rw [getD_set _ _ _ _ (by omega), if_neg (by omega)]
            rw [← hw2] at hw
            have HPK := Lib.hid (nine_poke ws hl 0 (by omega) y)
            have hnn : (i : Int) < (len : Int) := by omega
            obtain ⟨e1, e2, ws2, K2, S2, e3, e4, e5, e6, e7⟩ := nine_any hl2 ht8 hlt hc hw
            rw [decide_eq_true q2] at e2
            have HE := Lib.hid (And.intro e1 (And.intro e2 (And.intro e3 e4)))
            have HR := Lib.hid (And.intro e5 (And.intro e6 e7))
            have HC := Lib.hid hc
            have HO := Lib.hid ho
            have hlt3 : (i : Int) < 3 := by omega
            have HQ := Lib.hid q2
            clear q2 hl hc hw ho HG e1 e2 e3 e4 e5 e6 e7 hlt hno hw2 hl2
            go_wp2_with (first
              | (go_at_call 27; refine (poke_any HO.out.m ((0 : Nat) : Int) y).mono ?_; rw [HPK.out]; rintro r w4 ⟨rfl, hm, hch⟩; have HO1 := Lib.hid (HO.out.onM hm hch); clear hm hch HO)
              | (go_at_call 25; refine (count_any HO1.out.m).mono ?_; rintro r w5 ⟨rfl, hw⟩; subst w5)
              | (go_at_call 28; refine (comes_any HO1.out.m HO1.out.c HC.out).mono ?_; rw [nine_count HE.out.1, HE.out.1, HE.out.2.1, HE.out.2.2.1, HE.out.2.2.2]; rintro r w6 ⟨rfl, hm, hx, hch⟩; have HO3 := Lib.hid (HO1.out.onC hm hx hch); have q3 := HQ.out; clear hm hx hch HO1)
              | (go_at_call 25; refine (count_any HO3.out.m).mono ?_; rintro r w7 ⟨rfl, hw⟩; subst w7))
            exact ⟨⟨i + 1, by first | rfl | (congr 1 <;> omega), by omega, ⟨_, _, _, _, _, HR.out.1, HR.out.2.1, HR.out.2.2, HO3.out⟩⟩, by simp [intOf]; omega⟩
          · obtain ⟨bx, off, hao, hbW, kx, _⟩ := HNO.out i hno
            subst hao
            rw [← ho.below.cell (p := ⟨bx, off + i, none⟩) hbW] at kx
            have hbw : bx < wr.heap.size := Nat.lt_of_lt_of_le hbW ho.below.size
            obtain ⟨y, hy⟩ : ∃ y, y = (y0 i : Int) := ⟨_, rfl⟩
            rw [← hy] at kx
            clear hy hbW
            have hl2 : (ws.set 0 y).length = 9 := by rw [List.length_set]; exact hl
            have hw2 : (ws.set 0 y).getD (1 + t) 0 = ws.getD (1 + t) 0 := by rw [getD_set _ _ _ _ (by omega), if_neg (by omega)]
            rw [← hw2] at hw
            have HPK := Lib.hid (nine_poke ws hl 0 (by omega) y)
            have hnn : (i : Int) < (len : Int) := by omega
            obtain ⟨e1, e2, ws2, K2, S2, e3, e4, e5, e6, e7⟩ := nine_any hl2 ht8 hlt hc hw
            rw [decide_eq_false q2] at e2
            have HE := Lib.hid (And.intro e1 (And.intro e2 (And.intro e3 e4)))
            have HR := Lib.hid (And.intro e5 (And.intro e6 e7))
            have HC := Lib.hid hc
            have HO := Lib.hid ho
            have hlt3 : (i : Int) < 3 := by omega
            have HQ := Lib.hid q2
            clear q2 hl hc hw ho HG e1 e2 e3 e4 e5 e6 e7 hlt hno hw2 hl2
            go_wp2_with (first
              | (go_at_call 27; refine (poke_any HO.out.m ((0 : Nat) : Int) y).mono ?_; rw [HPK.out]; rintro r w4 ⟨rfl, hm, hch⟩; have HO1 := Lib.hid (HO.out.onM hm hch); clear hm hch HO)
              | (go_at_call 25; refine (count_any HO1.out.m).mono ?_; rintro r w5 ⟨rfl, hw⟩; subst w5)
              | (go_at_call 28; refine (comes_any HO1.out.m HO1.out.c HC.out).mono ?_; rw [nine_count HE.out.1, HE.out.1, HE.out.2.1, HE.out.2.2.1, HE.out.2.2.2]; rintro r w6 ⟨rfl, hm, hx, hch⟩; have HO3 := Lib.hid (HO1.out.onC hm hx hch); have q3 := HQ.out; clear hm hx hch HO1)
              | (go_at_call 25; refine (count_any HO3.out.m).mono ?_; rintro r w7 ⟨rfl, hw⟩; subst w7))
            exact ⟨⟨i + 1, by first | rfl | (congr 1 <;> omega), by omega, ⟨_, _, _, _, _, HR.out.1, HR.out.2.1, HR.out.2.2, HO3.out⟩⟩, by simp [intOf]; omega⟩
        · by_cases q2 : (i : Int) = 2
          · have hnn : ¬ (i : Int) < (len : Int) := by omega
            obtain ⟨e1, e2, ws2, K2, S2, e3, e4, e5, e6, e7⟩ := nine_any hl ht8 hlt hc hw
            rw [decide_eq_true q2] at e2
            have HE := Lib.hid (And.intro e1 (And.intro e2 (And.intro e3 e4)))
            have HR := Lib.hid (And.intro e5 (And.intro e6 e7))
            have HC := Lib.hid hc
            have HO := Lib.hid ho
            have hlt3 : (i : Int) < 3 := by omega
            have HQ := Lib.hid q2
            clear q2 hl hc hw ho HG e1 e2 e3 e4 e5 e6 e7 hlt hno
            go_wp2_with (first
              | (go_at_call 25; refine (count_any HO.out.m).mono ?_; rintro r w5 ⟨rfl, hw⟩; subst w5)
              | (go_at_call 28; refine (comes_any HO.out.m HO.out.c HC.out).mono ?_; rw [nine_count HE.out.1, HE.out.1, HE.out.2.1, HE.out.2.2.1, HE.out.2.2.2]; rintro r w6 ⟨rfl, hm, hx, hch⟩; have HO3 := Lib.hid (HO.out.onC hm hx hch); have q3 := HQ.out; clear hm hx hch HO)
              | (go_at_call 25; refine (count_any HO3.out.m).mono ?_; rintro r w7 ⟨rfl, hw⟩; subst w7))
            exact ⟨⟨i + 1, by first | rfl | (congr 1 <;> omega), by omega, ⟨_, _, _, _, _, HR.out.1, HR.out.2.1, HR.out.2.2, HO3.out⟩⟩, by simp [intOf]; omega⟩
          · have hnn : ¬ (i : Int) < (len : Int) := by omega
            obtain ⟨e1, e2, ws2, K2, S2, e3, e4, e5, e6, e7⟩ := nine_any hl ht8 hlt hc hw
            rw [decide_eq_false q2] at e2
            have HE := Lib.hid (And.intro e1 (And.intro e2 (And.intro e3 e4)))
            have HR := Lib.hid (And.intro e5 (And.intro e6 e7))
            have HC := Lib.hid hc
            have HO := Lib.hid ho
            have hlt3 : (i : Int) < 3 := by omega
            have HQ := Lib.hid q2
            clear q2 hl hc hw ho HG e1 e2 e3 e4 e5 e6 e7 hlt hno
            go_wp2_with (first
              | (go_at_call 25; refine (count_any HO.out.m).mono ?_; rintro r w5 ⟨rfl, hw⟩; subst w5)
              | (go_at_call 28; refine (comes_any HO.out.m HO.out.c HC.out).mono ?_; rw [nine_count HE.out.1, HE.out.1, HE.out.2.1, HE.out.2.2.1, HE.out.2.2.2]; rintro r w6 ⟨rfl, hm, hx, hch⟩; have HO3 := Lib.hid (HO.out.onC hm hx hch); have q3 := HQ.out; clear hm hx hch HO)
              | (go_at_call 25; refine (count_any HO3.out.m).mono ?_; rintro r w7 ⟨rfl, hw⟩; subst w7))
            exact ⟨⟨i + 1, by first | rfl | (congr 1 <;> omega), by omega, ⟨_, _, _, _, _, HR.out.1, HR.out.2.1, HR.out.2.2, HO3.out⟩⟩, by simp [intOf]; omega⟩
      · have e : i = 3 := by omega
        have hlt3 : ¬ (i : Int) < 3 := by omega
        have hw3 := hw (by omega)
        have HK := Lib.hid (show (if hasB ws (1 + (t : Int)) then wordAt ws (1 + (t : Int)) else 0) = IntKind.u64.wrap (K + 1) by rw [show (1 : Int) + (t : Int) = ((1 + t : Nat) : Int) by omega, has9 hl (by omega), if_pos rfl, wordAt_nat]; exact hw3)
        have HE := Lib.hid (show errP ws (1 + (t : Int)) = 0 by rw [show (1 : Int) + (t : Int) = ((1 + t : Nat) : Int) by omega]; unfold errP; rw [has9 hl (by omega), if_pos rfl])
        have HL := Lib.hid hl
        have HO := Lib.hid ho
        clear hw hw3 hl hc ho HG hlt
        go_wp2_with (first
          | (go_at_call 29; refine (peek_any HO.out.m (1 + (t : Int))).mono ?_; rw [HK.out, HE.out]; rintro r w4 ⟨rfl, hw⟩; subst w4)
          | (go_at_call 30; refine (claim_any HO.out.c).mono ?_; rintro r w4 ⟨rfl, hw⟩; subst w4))
        clear HK HE e hi
        have HG1 : Hid (∃ ws o n c, ∃ u v : Nat, ws.length = 9 ∧ u + v = 0 ∧ u ≤ t + 1 ∧ Own W wr b g q x z ws o n c ⟨1, (t : Int) + 1, a1, u, v⟩) := ⟨_, _, _, _, 0, 0, HL.out, rfl, by omega, HO.out⟩
        clear HO HL hlt3
        go_loopw [19] (fun vi w2 => ∃ i2 : Nat, vi = .int .i64 i2 ∧ i2 ≤ len ∧ Hid (∃ ws o n c, ∃ u v : Nat, ws.length = 9 ∧ u + v = i2 ∧ u ≤ t + 1 ∧ Own W w2 b g q x z ws o n c ⟨1, (t : Int) + 1, a1, u, v⟩)) (fun vi _ => len - (intOf vi).toNat)
        case atStart => exact ⟨0, rfl, Nat.zero_le _, HG1⟩
        case round =>
          clear HG1
          obtain ⟨i2, rfl, hi2, HG2⟩ := hrel
          obtain ⟨ws2, o2, n2, c2, u, v, hl2, huv, hut, ho2⟩ := HG2.out
          by_cases hlt2 : i2 < len
          · have hnn : (i2 : Int) < (len : Int) := by omega
            obtain ⟨bx, off, hao, hbW, kx, _⟩ := HNO.out i2 hlt2
            subst hao
            rw [← ho2.below.cell (p := ⟨bx, off + i2, none⟩) hbW] at kx
            have hbw := Nat.lt_of_lt_of_le hbW ho2.below.size
            obtain ⟨y, hy⟩ : ∃ y, y = (y0 i2 : Int) := ⟨_, rfl⟩
            rw [← hy] at kx
            clear hy hbW
            obtain ⟨r, hr⟩ : ∃ r, r = i2 % 8 := ⟨_, rfl⟩
            have hr8 : r < 8 := by omega
            have HMOD : Hid ((i2 : Int).tmod 8 = (r : Int)) := by
              show (i2 : Int).tmod 8 = (r : Int)
              rw [Int.tmod_eq_emod_of_nonneg (by omega)]
              omega
            have hr8' : (r : Int) < 8 := by omega
            have HPK := Lib.hid (show poked ws2 (1 + (r : Int)) y = ws2.set (1 + r) y by rw [show (1 : Int) + (r : Int) = ((1 + r : Nat) : Int) by omega]; exact nine_poke ws2 hl2 (1 + r) (by omega) y)
            have hlp : (ws2.set (1 + r) y).length = 9 := by rw [List.length_set]; exact hl2
            have HLP := Lib.hid hlp
            clear hr
            by_cases hu : u ≤ t
            · have hu' : ¬ (t : Int) < (u : Int) := by omega
              have hsok : SOk ⟨1, (t : Int) + 1, a1, u, v⟩ := ⟨by dsimp only; omega, fun _ => by dsimp only; omega⟩
              obtain ⟨f0, u', v', f1, f2, f3, f4, _, _⟩ := nine_scan (d := a1) hlp (show 1 ≤ t + 1 ∧ t + 1 ≤ 8 by omega) (show u < t + 1 by omega) (show v < 9223372036854775807 by omega)
              rw [huv] at f2
              rw [show ((t + 1 : Nat) : Int) = (t : Int) + 1 from rfl] at f0 f1 f4
              have hsum : (u' : Int) + (v' : Int) = (i2 : Int) + 1 := by omega
              have hu3 : (u' : Int) ≤ 8 := by omega
              clear huv hut
              by_cases qq : u' = t + 1
              · rw [decide_eq_true qq] at f4
                have qq' : (u' : Int) = (t : Int) + 1 := by omega
                have HU := Lib.hid (And.intro f4 (And.intro f2 f3))
                have HF4 := Lib.hid (And.intro f0 (And.intro f1 f4))
                have HO2 := Lib.hid ho2
                have HSO := Lib.hid hsok
                clear f0 f1 f2 f4 f3 HG2 hlt2 ho2 hsok hl2 hlp
                have hmod := HMOD.out
                go_wp2_with (first
                  | (go_at_call 27; refine (poke_any HO2.out.m (1 + (r : Int)) y).mono ?_; rw [HPK.out]; rintro e w5 ⟨rfl, hm, hch⟩; have HO5 := Lib.hid (HO2.out.onM hm hch); clear hm hch HO2)
                  | (go_at_call 15; refine (at_any HO5.out.s).mono ?_; rintro e w6 ⟨rfl, hw⟩; subst w6)
                  | (go_at_call 11; refine (open_any HO5.out.m).mono ?_; rintro e w7 ⟨rfl, hm, hch⟩; have HO7 := Lib.hid (HO5.out.onM hm hch); clear hm hch HO5)
                  | (go_at_call 13; refine (sstep_any HO7.out.m HO7.out.s HSO.out).mono ?_; rw [HF4.out.1, HF4.out.2.1, HF4.out.2.2]; rintro e w8 ⟨rfl, hm, hz, hch⟩; have HO8 := Lib.hid (HO7.out.onS hm hz hch); clear hm hz hch HO7)
                  | (go_at_call 15; refine (at_any HO8.out.s).mono ?_; rintro e w9 ⟨rfl, hw⟩; subst w9)
                  | (go_at_call 31; refine (polls_any HO8.out.s).mono ?_; rintro e w9 ⟨rfl, hw⟩; subst w9))
                exact ⟨⟨i2 + 1, by first | rfl | (congr 1 <;> omega), by omega, ⟨_, _, _, _, _, _, HLP.out, HU.out.2.1, HU.out.2.2, HO8.out⟩⟩, by simp [intOf]; omega⟩
              · rw [decide_eq_false qq] at f4
                have qq' : ¬ (u' : Int) = (t : Int) + 1 := by omega
                have HU := Lib.hid (And.intro f4 (And.intro f2 f3))
                have HF4 := Lib.hid (And.intro f0 (And.intro f1 f4))
                have HO2 := Lib.hid ho2
                have HSO := Lib.hid hsok
                clear f0 f1 f2 f4 f3 HG2 hlt2 ho2 hsok hl2 hlp
                have hmod := HMOD.out
                go_wp2_with (first
                  | (go_at_call 27; refine (poke_any HO2.out.m (1 + (r : Int)) y).mono ?_; rw [HPK.out]; rintro e w5 ⟨rfl, hm, hch⟩; have HO5 := Lib.hid (HO2.out.onM hm hch); clear hm hch HO2)
                  | (go_at_call 15; refine (at_any HO5.out.s).mono ?_; rintro e w6 ⟨rfl, hw⟩; subst w6)
                  | (go_at_call 11; refine (open_any HO5.out.m).mono ?_; rintro e w7 ⟨rfl, hm, hch⟩; have HO7 := Lib.hid (HO5.out.onM hm hch); clear hm hch HO5)
                  | (go_at_call 13; refine (sstep_any HO7.out.m HO7.out.s HSO.out).mono ?_; rw [HF4.out.1, HF4.out.2.1, HF4.out.2.2]; rintro e w8 ⟨rfl, hm, hz, hch⟩; have HO8 := Lib.hid (HO7.out.onS hm hz hch); clear hm hz hch HO7)
                  | (go_at_call 15; refine (at_any HO8.out.s).mono ?_; rintro e w9 ⟨rfl, hw⟩; subst w9)
                  | (go_at_call 31; refine (polls_any HO8.out.s).mono ?_; rintro e w9 ⟨rfl, hw⟩; subst w9))
                exact ⟨⟨i2 + 1, by first | rfl | (congr 1 <;> omega), by omega, ⟨_, _, _, _, _, _, HLP.out, HU.out.2.1, HU.out.2.2, HO8.out⟩⟩, by simp [intOf]; omega⟩
            · have hu' : (t : Int) < (u : Int) := by omega
              have HO2 := Lib.hid ho2
              clear ho2 HG2 hl2 huv hlt2 hlp
              have hmod := HMOD.out
              go_wp2_with (first
                | (go_at_call 27; refine (poke_any HO2.out.m (1 + (r : Int)) y).mono ?_; rw [HPK.out]; rintro e w5 ⟨rfl, hm, hch⟩; have HO5 := Lib.hid (HO2.out.onM hm hch); clear hm hch HO2)
                | (go_at_call 15; refine (at_any HO5.out.s).mono ?_; rintro e w6 ⟨rfl, hw⟩; subst w6))
              go_ret
              exact ⟨rfl, HO5.out.below⟩
          · have hnn : ¬ (i2 : Int) < (len : Int) := by omega
            have HO2 := Lib.hid ho2
            clear ho2 HG2 hl2 huv hlt2
            go_wp2
            go_ret
            exact ⟨rfl, HO2.out.below⟩
  · go_enter Try.func5, Try.ntmps5
    go_wp2_with (first
      | (go_at_call 16; refine (live13_any _).mono ?_; rintro r w0 ⟨rfl, hb⟩; have HB0 := Lib.hid hb; clear hb)
      | (go_at_call 8; refine (HF.out _).mono ?_; rintro r w1 ⟨rfl, hm, hb⟩; have H1 := Lib.hid (own0_new HB0.out hm hb); clear hm hb HB0)
      | (go_at_call 9; refine (come_any 0 0 0 1 0 0 t _).mono ?_; rintro r w2 ⟨x, rfl, lx, hx, hb⟩; have H2 := Lib.hid (And.intro lx (And.intro hx hb)); obtain ⟨p20, p21, p22, p23, p24, p25, p26⟩ := (H1.out.on hb).p.cells; clear lx hx hb)
      | (go_at_call 10; refine (look_any 0 0 0 1 0 0 ((t : Int) + 1) a1 _).mono ?_; rintro r w3 ⟨z, rfl, lz, hz, hb⟩; have H3 := Lib.hid (H1.out.own H2.out.2.1 H2.out.1 H2.out.2.2 hz lz hb); clear lz hz hb H1 H2))
    obtain ⟨b, hb⟩ : ∃ b, b = w0.heap.size + 1 := ⟨_, rfl⟩
    obtain ⟨g, hg⟩ : ∃ g, g = w0.heap.size := ⟨_, rfl⟩
    obtain ⟨q, hq⟩ : ∃ q, q = w1.heap.size := ⟨_, rfl⟩
    rw [← hb] at H3 ⊢
    rw [← hg, ← hq] at H3
    have HG0 : Hid (∃ ws o n K S, ws.length = 9 ∧ COk ⟨0, 1, t, (0 : Nat), K, S⟩ ∧ (2 ≤ 0 → ws.getD (1 + t) 0 = IntKind.u64.wrap (K + 1)) ∧ Own W w3 b g q x z ws o n ⟨0, 1, t, (0 : Nat), K, S⟩ ⟨1, (t : Int) + 1, a1, 0, 0⟩) := ⟨_, _, _, _, _, rfl, cok_new 0 1 t, fun z => absurd z (by omega), H3.out⟩
    clear H3 hb hg hq htm hte HF
    go_loopw [13] (fun vi wr => ∃ i : Nat, vi = .int .i64 i ∧ i ≤ 3 ∧ Hid (∃ ws o n K S, ws.length = 9 ∧ COk ⟨0, 1, t, i, K, S⟩ ∧ (2 ≤ i → ws.getD (1 + t) 0 = IntKind.u64.wrap (K + 1)) ∧ Own W wr b g q x z ws o n ⟨0, 1, t, i, K, S⟩ ⟨1, (t : Int) + 1, a1, 0, 0⟩)) (fun vi _ => 3 - (intOf vi).toNat)
    case atStart => exact ⟨0, rfl, by omega, HG0⟩
    case round =>
      clear HG0
      obtain ⟨i, rfl, hi, HG⟩ := hrel
      obtain ⟨ws, o, n, K, S, hl, hc, hw, ho⟩ := HG.out
      by_cases hlt : i < 3
      · by_cases hno : i < len
        · by_cases q2 : (i : Int) = 2
          · obtain ⟨bx, off, hao, hbW, kx, _⟩ := HNO.out i hno
            subst hao
            rw [← ho.below.cell (p := ⟨bx, off + i, none⟩) hbW] at kx
            have hbw : bx < wr.heap.size := Nat.lt_of_lt_of_le hbW ho.below.size
            obtain ⟨y, hy⟩ : ∃ y, y = (y0 i : Int) := ⟨_, rfl⟩
            rw [← hy] at kx
            clear hy hbW
            have hl2 : (ws.set 0 y).length = 9 := by rw [List.length_set]; exact hl
            have hw2 : (ws.set 0 y).getD (1 + t) 0 = ws.getD (1 + t) 0 := by rw [getD_set _ _ _ _ (by omega), if_neg (by omega)]
            rw [← hw2] at hw
            have HPK := Lib.hid (nine_poke ws hl 0 (by omega) y)
            have hnn : (i : Int) < (len : Int) := by omega
            obtain ⟨e1, e2, ws2, K2, S2, e3, e4, e5, e6, e7⟩ := nine_any hl2 ht8 hlt hc hw
            rw [decide_eq_true q2] at e2
            have HE := Lib.hid (And.intro e1 (And.intro e2 (And.intro e3 e4)))
            have HR := Lib.hid (And.intro e5 (And.intro e6 e7))
            have HC := Lib.hid hc
            have HO := Lib.hid ho
            have hlt3 : (i : Int) < 3 := by omega
            have HQ := Lib.hid q2
            clear q2 hl hc hw ho HG e1 e2 e3 e4 e5 e6 e7 hlt hno hw2 hl2
            go_wp2_with (first
              | (go_at_call 27; refine (poke_any HO.out.m ((0 : Nat) : Int) y).mono ?_; rw [HPK.out]; rintro r w4 ⟨rfl, hm, hch⟩; have HO1 := Lib.hid (HO.out.onM hm hch); clear hm hch HO)
              | (go_at_call 25; refine (count_any HO1.out.m).mono ?_; rintro r w5 ⟨rfl, hw⟩; subst w5)
              | (go_at_call 28; refine (comes_any HO1.out.m HO1.out.c HC.out).mono ?_; rw [nine_count HE.out.1, HE.out.1, HE.out.2.1, HE.out.2.2.1, HE.out.2.2.2]; rintro r w6 ⟨rfl, hm, hx, hch⟩; have HO3 := Lib.hid (HO1.out.onC hm hx hch); have q3 := HQ.out; clear hm hx hch HO1)
              | (go_at_call 25; refine (count_any HO3.out.m).mono ?_; rintro r w7 ⟨rfl, hw⟩; subst w7))
            exact ⟨⟨i + 1, by first | rfl | (congr 1 <;> omega), by omega, ⟨_, _, _, _, _, HR.out.1, HR.out.2.1, HR.out.2.2, HO3.out⟩⟩, by simp [intOf]; omega⟩
          · obtain ⟨bx, off, hao, hbW, kx, _⟩ := HNO.out i hno
            subst hao
            rw [← ho.below.cell (p := ⟨bx, off + i, none⟩) hbW] at kx
            have hbw : bx < wr.heap.size := Nat.lt_of_lt_of_le hbW ho.below.size
            obtain ⟨y, hy⟩ : ∃ y, y = (y0 i : Int) := ⟨_, rfl⟩
            rw [← hy] at kx
            clear hy hbW
            have hl2 : (ws.set 0 y).length = 9 := by rw [List.length_set]; exact hl
            have hw2 : (ws.set 0 y).getD (1 + t) 0 = ws.getD (1 + t) 0 := by rw [getD_set _ _ _ _ (by omega), if_neg (by omega)]
            rw [← hw2] at hw
            have HPK := Lib.hid (nine_poke ws hl 0 (by omega) y)
            have hnn : (i : Int) < (len : Int) := by omega
            obtain ⟨e1, e2, ws2, K2, S2, e3, e4, e5, e6, e7⟩ := nine_any hl2 ht8 hlt hc hw
            rw [decide_eq_false q2] at e2
            have HE := Lib.hid (And.intro e1 (And.intro e2 (And.intro e3 e4)))
            have HR := Lib.hid (And.intro e5 (And.intro e6 e7))
            have HC := Lib.hid hc
            have HO := Lib.hid ho
            have hlt3 : (i : Int) < 3 := by omega
            have HQ := Lib.hid q2
            clear q2 hl hc hw ho HG e1 e2 e3 e4 e5 e6 e7 hlt hno hw2 hl2
            go_wp2_with (first
              | (go_at_call 27; refine (poke_any HO.out.m ((0 : Nat) : Int) y).mono ?_; rw [HPK.out]; rintro r w4 ⟨rfl, hm, hch⟩; have HO1 := Lib.hid (HO.out.onM hm hch); clear hm hch HO)
              | (go_at_call 25; refine (count_any HO1.out.m).mono ?_; rintro r w5 ⟨rfl, hw⟩; subst w5)
              | (go_at_call 28; refine (comes_any HO1.out.m HO1.out.c HC.out).mono ?_; rw [nine_count HE.out.1, HE.out.1, HE.out.2.1, HE.out.2.2.1, HE.out.2.2.2]; rintro r w6 ⟨rfl, hm, hx, hch⟩; have HO3 := Lib.hid (HO1.out.onC hm hx hch); have q3 := HQ.out; clear hm hx hch HO1)
              | (go_at_call 25; refine (count_any HO3.out.m).mono ?_; rintro r w7 ⟨rfl, hw⟩; subst w7))
            exact ⟨⟨i + 1, by first | rfl | (congr 1 <;> omega), by omega, ⟨_, _, _, _, _, HR.out.1, HR.out.2.1, HR.out.2.2, HO3.out⟩⟩, by simp [intOf]; omega⟩
        · by_cases q2 : (i : Int) = 2
          · have hnn : ¬ (i : Int) < (len : Int) := by omega
            obtain ⟨e1, e2, ws2, K2, S2, e3, e4, e5, e6, e7⟩ := nine_any hl ht8 hlt hc hw
            rw [decide_eq_true q2] at e2
            have HE := Lib.hid (And.intro e1 (And.intro e2 (And.intro e3 e4)))
            have HR := Lib.hid (And.intro e5 (And.intro e6 e7))
            have HC := Lib.hid hc
            have HO := Lib.hid ho
            have hlt3 : (i : Int) < 3 := by omega
            have HQ := Lib.hid q2
            clear q2 hl hc hw ho HG e1 e2 e3 e4 e5 e6 e7 hlt hno
            go_wp2_with (first
              | (go_at_call 25; refine (count_any HO.out.m).mono ?_; rintro r w5 ⟨rfl, hw⟩; subst w5)
              | (go_at_call 28; refine (comes_any HO.out.m HO.out.c HC.out).mono ?_; rw [nine_count HE.out.1, HE.out.1, HE.out.2.1, HE.out.2.2.1, HE.out.2.2.2]; rintro r w6 ⟨rfl, hm, hx, hch⟩; have HO3 := Lib.hid (HO.out.onC hm hx hch); have q3 := HQ.out; clear hm hx hch HO)
              | (go_at_call 25; refine (count_any HO3.out.m).mono ?_; rintro r w7 ⟨rfl, hw⟩; subst w7))
            exact ⟨⟨i + 1, by first | rfl | (congr 1 <;> omega), by omega, ⟨_, _, _, _, _, HR.out.1, HR.out.2.1, HR.out.2.2, HO3.out⟩⟩, by simp [intOf]; omega⟩
          · have hnn : ¬ (i : Int) < (len : Int) := by omega
            obtain ⟨e1, e2, ws2, K2, S2, e3, e4, e5, e6, e7⟩ := nine_any hl ht8 hlt hc hw
            rw [decide_eq_false q2] at e2
            have HE := Lib.hid (And.intro e1 (And.intro e2 (And.intro e3 e4)))
            have HR := Lib.hid (And.intro e5 (And.intro e6 e7))
            have HC := Lib.hid hc
            have HO := Lib.hid ho
            have hlt3 : (i : Int) < 3 := by omega
            have HQ := Lib.hid q2
            clear q2 hl hc hw ho HG e1 e2 e3 e4 e5 e6 e7 hlt hno
            go_wp2_with (first
              | (go_at_call 25; refine (count_any HO.out.m).mono ?_; rintro r w5 ⟨rfl, hw⟩; subst w5)
              | (go_at_call 28; refine (comes_any HO.out.m HO.out.c HC.out).mono ?_; rw [nine_count HE.out.1, HE.out.1, HE.out.2.1, HE.out.2.2.1, HE.out.2.2.2]; rintro r w6 ⟨rfl, hm, hx, hch⟩; have HO3 := Lib.hid (HO.out.onC hm hx hch); have q3 := HQ.out; clear hm hx hch HO)
              | (go_at_call 25; refine (count_any HO3.out.m).mono ?_; rintro r w7 ⟨rfl, hw⟩; subst w7))
            exact ⟨⟨i + 1, by first | rfl | (congr 1 <;> omega), by omega, ⟨_, _, _, _, _, HR.out.1, HR.out.2.1, HR.out.2.2, HO3.out⟩⟩, by simp [intOf]; omega⟩
      · have e : i = 3 := by omega
        have hlt3 : ¬ (i : Int) < 3 := by omega
        have hw3 := hw (by omega)
        have HK := Lib.hid (show (if hasB ws (1 + (t : Int)) then wordAt ws (1 + (t : Int)) else 0) = IntKind.u64.wrap (K + 1) by rw [show (1 : Int) + (t : Int) = ((1 + t : Nat) : Int) by omega, has9 hl (by omega), if_pos rfl, wordAt_nat]; exact hw3)
        have HE := Lib.hid (show errP ws (1 + (t : Int)) = 0 by rw [show (1 : Int) + (t : Int) = ((1 + t : Nat) : Int) by omega]; unfold errP; rw [has9 hl (by omega), if_pos rfl])
        have HL := Lib.hid hl
        have HO := Lib.hid ho
        clear hw hw3 hl hc ho HG hlt
        go_wp2_with (first
          | (go_at_call 29; refine (peek_any HO.out.m (1 + (t : Int))).mono ?_; rw [HK.out, HE.out]; rintro r w4 ⟨rfl, hw⟩; subst w4)
          | (go_at_call 30; refine (claim_any HO.out.c).mono ?_; rintro r w4 ⟨rfl, hw⟩; subst w4))
        clear HK HE e hi
        have HG1 : Hid (∃ ws o n c, ∃ u v : Nat, ws.length = 9 ∧ u + v = 0 ∧ u ≤ t + 1 ∧ Own W wr b g q x z ws o n c ⟨1, (t : Int) + 1, a1, u, v⟩) := ⟨_, _, _, _, 0, 0, HL.out, rfl, by omega, HO.out⟩
        clear HO HL hlt3
        go_loopw [19] (fun vi w2 => ∃ i2 : Nat, vi = .int .i64 i2 ∧ i2 ≤ len ∧ Hid (∃ ws o n c, ∃ u v : Nat, ws.length = 9 ∧ u + v = i2 ∧ u ≤ t + 1 ∧ Own W w2 b g q x z ws o n c ⟨1, (t : Int) + 1, a1, u, v⟩)) (fun vi _ => len - (intOf vi).toNat)
        case atStart => exact ⟨0, rfl, Nat.zero_le _, HG1⟩
        case round =>
          clear HG1
          obtain ⟨i2, rfl, hi2, HG2⟩ := hrel
          obtain ⟨ws2, o2, n2, c2, u, v, hl2, huv, hut, ho2⟩ := HG2.out
          by_cases hlt2 : i2 < len
          · have hnn : (i2 : Int) < (len : Int) := by omega
            obtain ⟨bx, off, hao, hbW, kx, _⟩ := HNO.out i2 hlt2
            subst hao
            rw [← ho2.below.cell (p := ⟨bx, off + i2, none⟩) hbW] at kx
            have hbw := Nat.lt_of_lt_of_le hbW ho2.below.size
            obtain ⟨y, hy⟩ : ∃ y, y = (y0 i2 : Int) := ⟨_, rfl⟩
            rw [← hy] at kx
            clear hy hbW
            obtain ⟨r, hr⟩ : ∃ r, r = i2 % 8 := ⟨_, rfl⟩
            have hr8 : r < 8 := by omega
            have HMOD : Hid ((i2 : Int).tmod 8 = (r : Int)) := by
              show (i2 : Int).tmod 8 = (r : Int)
              rw [Int.tmod_eq_emod_of_nonneg (by omega)]
              omega
            have hr8' : (r : Int) < 8 := by omega
            have HPK := Lib.hid (show poked ws2 (1 + (r : Int)) y = ws2.set (1 + r) y by rw [show (1 : Int) + (r : Int) = ((1 + r : Nat) : Int) by omega]; exact nine_poke ws2 hl2 (1 + r) (by omega) y)
            have hlp : (ws2.set (1 + r) y).length = 9 := by rw [List.length_set]; exact hl2
            have HLP := Lib.hid hlp
            clear hr
            by_cases hu : u ≤ t
            · have hu' : ¬ (t : Int) < (u : Int) := by omega
              have hsok : SOk ⟨1, (t : Int) + 1, a1, u, v⟩ := ⟨by dsimp only; omega, fun _ => by dsimp only; omega⟩
              obtain ⟨f0, u', v', f1, f2, f3, f4, _, _⟩ := nine_scan (d := a1) hlp (show 1 ≤ t + 1 ∧ t + 1 ≤ 8 by omega) (show u < t + 1 by omega) (show v < 9223372036854775807 by omega)
              rw [huv] at f2
              rw [show ((t + 1 : Nat) : Int) = (t : Int) + 1 from rfl] at f0 f1 f4
              have hsum : (u' : Int) + (v' : Int) = (i2 : Int) + 1 := by omega
              have hu3 : (u' : Int) ≤ 8 := by omega
              clear huv hut
              by_cases qq : u' = t + 1
              · rw [decide_eq_true qq] at f4
                have qq' : (u' : Int) = (t : Int) + 1 := by omega
                have HU := Lib.hid (And.intro f4 (And.intro f2 f3))
                have HF4 := Lib.hid (And.intro f0 (And.intro f1 f4))
                have HO2 := Lib.hid ho2
                have HSO := Lib.hid hsok
                clear f0 f1 f2 f4 f3 HG2 hlt2 ho2 hsok hl2 hlp
                have hmod := HMOD.out
                go_wp2_with (first
                  | (go_at_call 27; refine (poke_any HO2.out.m (1 + (r : Int)) y).mono ?_; rw [HPK.out]; rintro e w5 ⟨rfl, hm, hch⟩; have HO5 := Lib.hid (HO2.out.onM hm hch); clear hm hch HO2)
                  | (go_at_call 15; refine (at_any HO5.out.s).mono ?_; rintro e w6 ⟨rfl, hw⟩; subst w6)
                  | (go_at_call 11; refine (open_any HO5.out.m).mono ?_; rintro e w7 ⟨rfl, hm, hch⟩; have HO7 := Lib.hid (HO5.out.onM hm hch); clear hm hch HO5)
                  | (go_at_call 13; refine (sstep_any HO7.out.m HO7.out.s HSO.out).mono ?_; rw [HF4.out.1, HF4.out.2.1, HF4.out.2.2]; rintro e w8 ⟨rfl, hm, hz, hch⟩; have HO8 := Lib.hid (HO7.out.onS hm hz hch); clear hm hz hch HO7)
                  | (go_at_call 15; refine (at_any HO8.out.s).mono ?_; rintro e w9 ⟨rfl, hw⟩; subst w9)
                  | (go_at_call 31; refine (polls_any HO8.out.s).mono ?_; rintro e w9 ⟨rfl, hw⟩; subst w9))
                exact ⟨⟨i2 + 1, by first | rfl | (congr 1 <;> omega), by omega, ⟨_, _, _, _, _, _, HLP.out, HU.out.2.1, HU.out.2.2, HO8.out⟩⟩, by simp [intOf]; omega⟩
              · rw [decide_eq_false qq] at f4
                have qq' : ¬ (u' : Int) = (t : Int) + 1 := by omega
                have HU := Lib.hid (And.intro f4 (And.intro f2 f3))
                have HF4 := Lib.hid (And.intro f0 (And.intro f1 f4))
                have HO2 := Lib.hid ho2
                have HSO := Lib.hid hsok
                clear f0 f1 f2 f4 f3 HG2 hlt2 ho2 hsok hl2 hlp
                have hmod := HMOD.out
                go_wp2_with (first
                  | (go_at_call 27; refine (poke_any HO2.out.m (1 + (r : Int)) y).mono ?_; rw [HPK.out]; rintro e w5 ⟨rfl, hm, hch⟩; have HO5 := Lib.hid (HO2.out.onM hm hch); clear hm hch HO2)
                  | (go_at_call 15; refine (at_any HO5.out.s).mono ?_; rintro e w6 ⟨rfl, hw⟩; subst w6)
                  | (go_at_call 11; refine (open_any HO5.out.m).mono ?_; rintro e w7 ⟨rfl, hm, hch⟩; have HO7 := Lib.hid (HO5.out.onM hm hch); clear hm hch HO5)
                  | (go_at_call 13; refine (sstep_any HO7.out.m HO7.out.s HSO.out).mono ?_; rw [HF4.out.1, HF4.out.2.1, HF4.out.2.2]; rintro e w8 ⟨rfl, hm, hz, hch⟩; have HO8 := Lib.hid (HO7.out.onS hm hz hch); clear hm hz hch HO7)
                  | (go_at_call 15; refine (at_any HO8.out.s).mono ?_; rintro e w9 ⟨rfl, hw⟩; subst w9)
                  | (go_at_call 31; refine (polls_any HO8.out.s).mono ?_; rintro e w9 ⟨rfl, hw⟩; subst w9))
                exact ⟨⟨i2 + 1, by first | rfl | (congr 1 <;> omega), by omega, ⟨_, _, _, _, _, _, HLP.out, HU.out.2.1, HU.out.2.2, HO8.out⟩⟩, by simp [intOf]; omega⟩
            · have hu' : (t : Int) < (u : Int) := by omega
              have HO2 := Lib.hid ho2
              clear ho2 HG2 hl2 huv hlt2 hlp
              have hmod := HMOD.out
              go_wp2_with (first
                | (go_at_call 27; refine (poke_any HO2.out.m (1 + (r : Int)) y).mono ?_; rw [HPK.out]; rintro e w5 ⟨rfl, hm, hch⟩; have HO5 := Lib.hid (HO2.out.onM hm hch); clear hm hch HO2)
                | (go_at_call 15; refine (at_any HO5.out.s).mono ?_; rintro e w6 ⟨rfl, hw⟩; subst w6))
              go_ret
              exact ⟨rfl, HO5.out.below⟩
          · have hnn : ¬ (i2 : Int) < (len : Int) := by omega
            have HO2 := Lib.hid ho2
            clear ho2 HG2 hl2 huv hlt2
            go_wp2
            go_ret
            exact ⟨rfl, HO2.out.below⟩

set_option maxRecDepth 100000 in
theorem lifted (os : Os) (started : os.Started) (H : Type) (enc : TypeId × Value → H) :
    ReturnsInHanded {} Try.checked os 5 .any (Rows.censusCostSpec.pre6 enc Try.prog Try.f5 Rows.censusCostRow.domain false) (Rows.censusCostSpec.post enc Try.prog Try.f5 false true false false) := by
  refine returnsInHanded_of_change (C := Try.checked) ownK started (by kernel_rfl) Try.func5
    (ChangeSpec.witness6 (enc := enc) (C := Try.checked) false ⟨#[], #[.int .i64 0, .int .u64 0, .slice none 0 0], []⟩ 8 (by kernel_rfl) (by kernel_rfl) (by kernel_rfl) (by kernel_rfl)) ?_
  intro W base args ds gs before hval0 hW _ _
  have hval : ∀ (j : Nat) t v, Try.f5.params[j]? = some t → args[j]? = some v → Value.okWide Try.prog W .any base t v := hval0
  have hW2 := hW
  obtain ⟨p, q, hA0, hV, rfl, _, _⟩ := hW
  have hA : DataW.TrodAll enc Try.prog W 0 (fun _ => true) true Try.f5.params.toList args.toList ds p := hA0
  rw [Try.params5] at hA hval
  obtain ⟨v0, vs0, d0, ds0, p0, q0, hargs, rfl, rfl, h0, r0⟩ := trodAll_cons hA
  obtain ⟨v1, vs1, d1, ds1, p1, q1, rfl, rfl, rfl, h1, r1⟩ := trodAll_cons r0
  obtain ⟨v2, vs2, d2, ds2, p2, q2, rfl, rfl, rfl, h2, r2⟩ := trodAll_cons r1
  obtain ⟨rfl, rfl, rfl⟩ := trodAll_nil r2
  obtain rfl : args = #[v0, v1, v2] := by cases args; simp_all
  obtain ⟨rfl, rfl⟩ := trodVars_none hV
  obtain ⟨a0, rfl, rfl, rfl, w0⟩ := open_int Try.underlying3 (hval 0 3 v0 rfl rfl) h0
  obtain ⟨a1, rfl, rfl, rfl, w1⟩ := open_int Try.underlying30 (hval 1 30 v1 rfl rfl) h1
  obtain ⟨o2, l2, c2, x2, rfl, fm2, fW2⟩ := open_noise (hval 2 53 v2 rfl rfl) h2
  clear hA0 hval0
  simp only [List.append_nil] at hW2
  have hlt : ∀ x ∈ p2, x.block < W.heap.size := fun x hx => by simpa using hW2.lt x (by simpa using hx)
  refine (walk a0 a1 o2 l2 c2 x2 w0 w1 fm2 W fW2).mono fun e W2 ⟨he, hnx⟩ => ?_
  subst he
  exact ⟨_, rfl, _, _, _, [], _, [], hW2, trodAll_mk1 (shut_bool Try.underlying4 _), (trodAll_cons_mk (shut_int Try.underlying3 w0) (trodAll_cons_mk (shut_int Try.underlying30 w1) (trodAll_cons_mk (Below.trod laidOut (by kernel_rfl) (of_decide_eq_true (by kernel_rfl)) h2 hnx (fun x hx => hlt x (by first | simpa using hx | (simp at hx ⊢; simp [hx])))) trodAll_mk0))), rfl, hnx.frame _, fun h => by cases h⟩

/-- the statement -/
theorem proved : Rows.CensusCostSaid :=
  OpenClaim.holds_of_wide 5 Try.f5 rfl rfl rfl rfl rfl rfl rfl ⟨rfl, rfl, rfl, rfl, rfl⟩ rfl rfl rfl rfl rfl (by kernel_rfl) Try.func5 (by kernel_rfl)
    (of_decide_eq_true (by kernel_rfl)) (by unfold Func.isWrapper; first | (rw [if_pos (by decide +kernel)]; kernel_rfl) | (rw [if_neg (by decide +kernel)]; exact ⟨rfl, rfl⟩))
    (fun os started H enc _ => lifted os started H enc)
end Go.Proofs.Ytdfmmolhfacahaa.censusCost
