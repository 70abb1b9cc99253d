import Derived.Test.YtlebjdohneiaaaaY7
namespace Go.Proofs.Ytlebjdohneiaaaa
open Go.ChangeShapes Go.WideShapes Go.ChangeAt Go.RowKit Num Go.Maps
attribute [local go_sem] run_store_float frombits_run bits_run

theorem raw7_any (n : Nat) (w : World) : Calls Try.prog 19 #[.int .u64 n] w fun e w' => e = .returned (.float .f64 n) ∧ w' = w := by
  go_enter Try.func19, Try.ntmps19
  go_wp2
  go_ret
  exact ⟨rfl, rfl⟩
theorem TRow.getD {w : World} {p : Option Addr} {c n : Nat} {l : Wr} (h : TRow w p c l) (hn : l.length = n) (i : Nat) (hi : i < n) : ∃ g, p = some ⟨g, 0, none⟩ ∧ g < w.heap.size ∧ w.cell? ⟨g, i * 2, none⟩ = some (.int .i64 (l.getD i (0, 0)).1) ∧ w.cell? ⟨g, i * 2 + 1, none⟩ = some (.float .f64 (l.getD i (0, 0)).2) := by
  obtain ⟨g, r1, r2, r3, r4, _⟩ := h.at i (by omega)
  rw [show l.getD i (0, 0) = l[i]'(by omega) by simp [show i < l.length by omega]]
  exact ⟨g, r1, r2, r3, r4⟩
set_option maxHeartbeats 2000000 in
set_option maxRecDepth 100000 in
/-- two lists of the same bits -/
theorem exact_same {w : World} {pa pb : Option Addr} {ca cb n : Nat} {l : Wr} (hn : l.length = n) (hm : n ≤ 9223372036854775807) (ha : TRow w pa ca l) (hb : TRow w pb cb l) : Calls Try.prog 16 #[.slice pa n ca, .slice pb n cb] w fun e w' => e = .returned (.bool true) ∧ Same w w' := by
  have HA := Lib.hid (ha.getD hn)
  have HB := Lib.hid (hb.getD hn)
  clear ha hb hn
  go_enter Try.func16, Try.ntmps16
  go_wp2
  go_loopw [5] (fun vi wr => ∃ (k d : Nat), vi = .int .i64 k ∧ k ≤ n ∧ wr = w.drewN d) (fun vi _ => n - (intOf vi).toNat)
  case atStart => exact ⟨0, 0, rfl, Nat.zero_le _, rfl⟩
  case round =>
    obtain ⟨k, d, rfl, hk, rfl⟩ := hrel
    by_cases hlt : k < n
    · have hlt' : (k : Int) < (n : Int) := by omega
      obtain ⟨g, hpg, hg, hx, hy⟩ := HA.out k hlt
      obtain ⟨g2, hpg2, hg2, hx2, hy2⟩ := HB.out k hlt
      subst hpg hpg2
      generalize (l.getD k (0, 0)).1 = x at hx hx2
      generalize (l.getD k (0, 0)).2 = y at hy hy2
      clear HA HB
      go_wp2
      go_quiet (fail)
      go_wp2
      exact ⟨⟨k + 1, _, by first | rfl | (congr 1), by omega, rfl⟩, by simp [intOf]; omega⟩
    · have hlt' : ¬ (k : Int) < (n : Int) := by omega
      clear HA HB
      go_wp2
      go_ret
      exact ⟨rfl, Same.drewN _ _⟩
theorem wf77 : (Lit.int .i64 (-77)).wf = true := by decide
theorem wf78 : (Lit.int .i64 (-78)).wf = true := by decide
set_option maxHeartbeats 2000000 in
set_option maxRecDepth 100000 in
theorem stir_any {w : World} {b : Nat} {F : List Nat} {m : Int} {l : Wr} (h : Buf w b F m l) : Calls Try.prog 12 #[.pointer (some ⟨b, 0, none⟩)] w fun e w' => ∃ F', e = .returned (.tuple #[]) ∧ Turn F F' w w' := by
  obtain ⟨n, hn⟩ : ∃ n, l.length = n := ⟨_, rfl⟩
  have hn32 : n ≤ 32 := by have := h.few; omega
  have HB := Lib.hid h
  have HW : Hid (∀ k, k < n → (Lit.int .i64 (l.getD k (0, 0)).1).wf = true) := fun k hk => by
    have hk' : k < l.length := by omega
    rw [show l.getD k (0, 0) = l[k] by simp [hk']]
    exact h.wfs _ (List.getElem_mem hk')
  have HA := Lib.hid (all_any' h hn)
  have HN := Lib.hid hn
  clear h hn
  go_enter Try.func12, Try.ntmps12
  go_wp2_with (go_at_call 17; refine HA.out.mono ?_; rintro e w1 ⟨rfl, hr, hb⟩; have HR1 := Lib.hid (And.intro hr hb); clear hr hb)
  go_loopw [3] (fun vi wr => ∃ (k : Nat) (G : List Nat) (l' : Wr), vi = .int .i64 k ∧ k ≤ n ∧ Hid (Buf wr b G m l') ∧ Hid (TRow wr (some ⟨w.heap.size, 0, none⟩) n l) ∧ Hid (Sep (fpR (some ⟨w.heap.size, 0, none⟩)) G) ∧ Hid (Turn F G w wr)) (fun vi _ => n - (intOf vi).toNat)
  case atStart => exact ⟨0, F, l, rfl, Nat.zero_le _, HB.out.on HR1.out.2, HR1.out.1, (abv_new w).sep HB.out.blw, Below.turn HR1.out.2 F⟩
  case round =>
    obtain ⟨k, G, l', rfl, hk, HS, HT, HP, HU⟩ := hrel
    by_cases hlt : k < n
    · have hlt' : (k : Int) < (n : Int) := by omega
      obtain ⟨g, hpg, hg, hx, _⟩ := HT.out.getD HN.out k hlt
      injection hpg with hpg
      injection hpg with hpg
      subst hpg
      have HPUT := Lib.hid (put_any HS.out (HW.out k hlt) 4635118810238550016)
      generalize (l.getD k (0, 0)).1 = x at hx HPUT
      clear HW
      go_wp2_with (go_at_call 18; refine HPUT.out.mono ?_; rintro e w2 ⟨G2, rfl, hc, ht⟩; have HD := Lib.hid (And.intro hc ht); clear hc ht)
      exact ⟨⟨k + 1, G2, _, by first | rfl | (congr 1), by omega, HD.out.1, HT.out.turn HD.out.2 HP.out, HP.out.turn HT.out.blw HD.out.2, HU.out.trans HD.out.2⟩, by simp [intOf]; omega⟩
    · have hlt' : ¬ (k : Int) < (n : Int) := by omega
      clear HW HT HP HA
      go_wp2_with (first
        | (go_at_call 18; refine (put_any HC3.out wf78 _).mono ?_; rintro e w4 ⟨G4, rfl, hc, ht⟩; have HU4 := Lib.hid (HU3.out.trans ht); clear hc ht)
        | (go_at_call 25; refine (clear_any HC2.out).mono ?_; rintro e w3 ⟨G3, rfl, hc, ht⟩; have HC3 := Lib.hid hc; have HU3 := Lib.hid (HU2.out.trans ht); clear hc ht)
        | (go_at_call 18; refine (put_any HS.out wf77 _).mono ?_; rintro e w2 ⟨G2, rfl, hc, ht⟩; have HC2 := Lib.hid hc; have HU2 := Lib.hid (HU.out.trans ht); clear hc ht))
      go_end0
      exact ⟨_, rfl, HU4.out⟩
theorem may1 : mayM 1 = true := by decide
theorem may32 : mayM 32 = true := by decide
theorem may33 : mayM 33 = false := by decide
theorem five_fix : fixB 4617315517961601024 = 4617315517961601024 := by decide
theorem five_nan : nan 4617315517961601024 = false := by decide
set_option maxHeartbeats 1000000 in
set_option maxRecDepth 100000 in
theorem live_any (w : World) : Calls Try.prog 9 #[] w fun e w' => e = .returned (.bool true) ∧ Below w.heap.size w w' := by
  have HNEW := Lib.hid (new_some may1 w)
  have w3 : (Lit.int .i64 3).wf = true := by decide
  have w4 : (Lit.int .i64 4).wf = true := by decide
  have s1 : putL 1 [] 3 4617315517961601024 = [(3, 4617315517961601024)] := by unfold putL; rw [five_fix]; rfl
  have c1 : putE 1 [] 3 = 0 := by decide
  have f1 : putF 1 [] 3 = true := by decide
  have g1 : getC [(3, 4617315517961601024)] 3 = 4617315517961601024 := by decide
  have g2 : hasC [(3, 4617315517961601024)] 3 = true := by decide
  have c2 : putE 1 [(3, 4617315517961601024)] 4 = 70 := by decide
  have f2 : putF 1 [(3, 4617315517961601024)] 4 = false := by decide
  have s2 : putL 1 [(3, 4617315517961601024)] 4 4617315517961601024 = [(3, 4617315517961601024)] := rfl
  have HP1 := Lib.hid (fun w' b F (h : Buf w' b F 1 []) => put_any h w3 4617315517961601024)
  rw [s1, c1, f1] at HP1
  have HG := Lib.hid (fun w' b F (h : Buf w' b F 1 [(3, 4617315517961601024)]) => get_any h w3)
  rw [g1, g2] at HG
  have HP2 := Lib.hid (fun w' b F (h : Buf w' b F 1 [(3, 4617315517961601024)]) => put_any h w4 4617315517961601024)
  rw [s2, c2, f2] at HP2
  have HL := Lib.hid (fun w' b F (h : Buf w' b F 1 [(3, 4617315517961601024)]) => len_any h)
  have ho := self_num five_nan
  clear s1 c1 f1 g1 g2 c2 f2 s2 w3 w4
  go_enter Try.func9, Try.ntmps9
  go_wp2_with (first
    | (go_at_call 8; refine (HL.out _ _ _ HC4.out).mono ?_; rintro e w5 ⟨rfl, hw⟩; subst w5)
    | (go_at_call 18; refine (HP2.out _ _ _ HC3.out).mono ?_; rintro e w4 ⟨G4, rfl, hc, ht⟩; have HC4 := Lib.hid hc; have HB4 := Lib.hid (turn_chain HB3.out ht HA3.out); clear hc ht)
    | (go_at_call 20; refine (HG.out _ _ _ HC2.out).mono ?_; rintro e w3 ⟨rfl, hw⟩; subst w3; have HC3 := HC2; have HB3 := HB2; have HA3 := HA2)
    | (go_at_call 18; refine (HP1.out _ _ _ HC1.out).mono ?_; rintro e w2 ⟨G2, rfl, hc, ht⟩; have HC2 := Lib.hid hc; have HB2 := Lib.hid (turn_chain HB1.out ht HA1.out); have HA2 := Lib.hid (HA1.out.turn HB1.out.size ht); clear hc ht)
    | (go_at_call 7; refine HNEW.out.mono ?_; rintro e w1 ⟨b, F, rfl, hc, ha, hb⟩; have HC1 := Lib.hid hc; have HA1 := Lib.hid ha; have HB1 := Lib.hid hb; clear hc ha hb))
  go_ret
  exact ⟨rfl, HB4.out⟩
set_option maxHeartbeats 1000000 in
set_option maxRecDepth 100000 in
theorem numbers7_any (w : World) : Calls Try.prog 3 #[] w fun e w' => e = .returned (.bool true) ∧ Below w.heap.size w w' := by
  have HNEW := Lib.hid (new_some may32 w)
  have HNO := Lib.hid (new_none may33 w)
  have t1 : True := trivial
  go_enter Try.func3, Try.ntmps3
  go_wp2_with (first
    | (go_at_call 7; have _t := t1; refine HNO.out.mono ?_; rintro e w2 ⟨rfl, hw⟩; subst w2; clear t1)
    | (go_at_call 7; refine HNEW.out.mono ?_; rintro e w1 ⟨b, F, rfl, hc, ha, hb⟩; have HC1 := Lib.hid hc; have HB1 := Lib.hid hb; clear hc ha hb HNEW)
    | (go_at_call 8; refine (len_any HC1.out).mono ?_; rintro e w5 ⟨rfl, hw⟩; subst w5))
  go_ret
  exact ⟨rfl, HB1.out⟩
end Go.Proofs.Ytlebjdohneiaaaa
