import Derived.Test.YtahcppoeooadhaaX4
namespace Go.Proofs.Ytahcppoeooadhaa
open Go.ChangeShapes Go.WideShapes Go.ChangeAt Go.RowKit Num
attribute [local go_sem] run_store_float frombits_run bits_run

theorem allB_of {n : Nat} {ts : List (Int × Nat)} (h : ∀ j (hj : j < ts.length), hasN n ts[j].1 = true) : allB n ts = true := by
  unfold allB
  rw [List.all_eq_true]
  intro t ht
  obtain ⟨j, hj, rfl⟩ := List.mem_iff_getElem.1 ht
  exact h j hj
theorem allB_not {n : Nat} {ts : List (Int × Nat)} (j : Nat) (hj : j < ts.length) (h : hasN n ts[j].1 = false) : allB n ts = false := by
  unfold allB
  rw [List.all_eq_false]
  exact ⟨ts[j], List.getElem_mem hj, by rw [h]; decide⟩
theorem foldL_snoc (l : List Nat) (ts : List (Int × Nat)) (k : Nat) (h : k < ts.length) : setL (foldL l (ts.take k)) ts[k].1 ts[k].2 = foldL l (ts.take (k + 1)) := by
  rw [List.take_succ_eq_append_getElem h]
  unfold foldL
  rw [List.foldl_append]
  rfl
section
variable {w : World} {b : Nat} {F : List Nat} {l : List Nat} {p : Option Addr} {cap n : Nat} {ts : List (Int × Nat)}
set_option maxHeartbeats 2000000 in
set_option maxRecDepth 100000 in
theorem apply_any' (h : Cel 54 w b F l) (ht : TchAt w p ts) (hn : ts.length = n) (hp : Sep (fpR p) F) (hm : n ≤ 9223372036854775807) : Calls Try.prog 38 #[.pointer (some ⟨b, 0, none⟩), .slice p n cap] w fun e w' => e = .returned (.int .i64 (applyE l.length ts)) ∧ Cel 54 w' b F (applyL l ts) ∧ Turn F F w w' := by
  have HC := Lib.hid h
  have HT : Hid (∀ w', Turn F F w w' → ∀ k, k < n → ∃ g x y, p = some ⟨g, 0, none⟩ ∧ g < w'.heap.size ∧ w'.cell? ⟨g, k * 2, none⟩ = some (.int .i64 x) ∧ w'.cell? ⟨g, k * 2 + 1, none⟩ = some (.float .f64 y) ∧ ∃ hk : k < ts.length, ts[k] = (x, y)) := fun w' ht' k hk => by
    have hb : Blw w (fpR p) := fun i hi => by
      obtain ⟨g, h1, h2, _⟩ := ht k (by omega)
      rw [h1] at hi
      simp [fpR] at hi
      omega
    obtain ⟨g, h1, h2, h3, h4⟩ := ht.keep (ht'.kept hp hb) k (by omega)
    exact ⟨g, _, _, h1, h2, h3, h4, by omega, rfl⟩
  clear h ht hp
  go_enter Try.func38, Try.ntmps38
  go_wp2
  go_loopw [11] (fun vi wr => ∃ k : Nat, vi = .int .i64 k ∧ k ≤ n ∧ Hid (Below w.heap.size w wr) ∧ Hid (∀ j (hj : j < ts.length), j < k → hasN l.length ts[j].1 = true)) (fun vi _ => n - (intOf vi).toNat)
  case atStart => exact ⟨0, rfl, Nat.zero_le _, Below.refl _ _, fun j hj q => absurd q (Nat.not_lt_zero j)⟩
  case round =>
    obtain ⟨k, rfl, hk, HB, HK⟩ := hrel
    by_cases hlt : k < n
    · have hlt' : (k : Int) < (n : Int) := by omega
      obtain ⟨g, x, y, hpg, hg, hx, hy, hk', htk⟩ := HT.out wr (Below.turn HB.out _) k hlt
      subst hpg
      have HTK := Lib.hid htk
      clear htk
      have HCW := Lib.hid (HC.out.on HB.out)
      cases hh : hasN l.length x
      · have HH := Lib.hid (has_any (HCW.out.alloc (.cells #[.int .i64 x, .float .f64 y] 75)) x)
        rw [hh] at HH
        have HN : Hid (allB l.length ts = false) := allB_not k hk' (by rw [HTK.out]; exact hh)
        clear hh
        go_wp2_with (go_at_call 34; refine HH.out.mono ?_; rintro e w' ⟨rfl, hw⟩; subst w')
        go_ret
        unfold applyE applyL
        rw [HN.out]
        exact ⟨rfl, HCW.out.alloc _, Below.turn (HB.out.alloc HB.out.size _) _⟩
      · have HH := Lib.hid (has_any (HCW.out.alloc (.cells #[.int .i64 x, .float .f64 y] 75)) x)
        rw [hh] at HH
        have HK1 : Hid (∀ j (hj : j < ts.length), j < k + 1 → hasN l.length ts[j].1 = true) := fun j hj q => by
          by_cases e : j = k
          · subst e; rw [HTK.out]; exact hh
          · exact HK.out j hj (by omega)
        clear hh
        go_wp2_with (go_at_call 34; refine HH.out.mono ?_; rintro e w' ⟨rfl, hw⟩; subst w')
        exact ⟨⟨k + 1, by first | rfl | (congr 1), by omega, HB.out.alloc HB.out.size _, HK1⟩, by simp [intOf]; omega⟩
    · have hlt' : ¬ (k : Int) < (n : Int) := by omega
      have HAL : Hid (allB l.length ts = true) := allB_of (fun j hj => HK.out j hj (by omega))
      have HFS : Hid (∀ k (hk : k < ts.length), setL (foldL l (ts.take k)) ts[k].1 ts[k].2 = foldL l (ts.take (k + 1))) := fun k hk => foldL_snoc l ts k hk
      have HFE : Hid (foldL l (ts.take n) = foldL l ts) := by show _ = _; rw [← hn, List.take_length]
      have HCW := Lib.hid (HC.out.on HB.out)
      have HTW := Lib.hid (Below.turn HB.out F)
      clear HB HK HC
      go_wp2
      go_loopw [23] (fun vi wr => ∃ k : Nat, vi = .int .i64 k ∧ k ≤ n ∧ Hid (Turn F F w wr) ∧ Hid (Cel 54 wr b F (foldL l (ts.take k)))) (fun vi _ => n - (intOf vi).toNat)
      case atStart => exact ⟨0, rfl, Nat.zero_le _, HTW, HCW⟩
      case round =>
        clear HTW HCW
        obtain ⟨k, rfl, hk, HB, HCW⟩ := hrel
        by_cases hlt : k < n
        · have hlt' : (k : Int) < (n : Int) := by omega
          obtain ⟨g, x, y, hpg, hg, hx, hy, hk', htk⟩ := HT.out _ HB.out k hlt
          subst hpg
          have hs := HFS.out k hk'
          rw [htk] at hs
          have HS := Lib.hid (set_any (HCW.out.alloc (.cells #[.int .i64 x, .float .f64 y] 75)) x y)
          rw [hs] at HS
          generalize cellE (foldL l (ts.take k)).length x = ev at HS
          clear htk hs
          go_wp2_with (go_at_call 18; refine HS.out.mono ?_; rintro e w' ⟨rfl, hc, ht⟩; have HD := Lib.hid (And.intro hc (HB.out.trans ((Below.turn (below_alloc _ _) F).trans ht))); clear hc ht)
          exact ⟨⟨k + 1, by first | rfl | (congr 1), by omega, HD.out.2, HD.out.1⟩, by simp [intOf]; omega⟩
        · have hlt' : ¬ (k : Int) < (n : Int) := by omega
          have e : k = n := by omega
          subst e
          have h0 := HCW.out
          rw [HFE.out] at h0
          have HF := Lib.hid h0
          clear h0
          go_wp2
          go_ret
          unfold applyE applyL
          rw [HAL.out]
          exact ⟨rfl, HF.out, HB.out⟩
theorem apply_any (h : Cel 54 w b F l) (ht : TchAt w p ts) (hp : Sep (fpR p) F) (hm : ts.length ≤ 9223372036854775807) : Calls Try.prog 38 #[.pointer (some ⟨b, 0, none⟩), .slice p ts.length cap] w fun e w' => e = .returned (.int .i64 (applyE l.length ts)) ∧ Cel 54 w' b F (applyL l ts) ∧ Turn F F w w' := apply_any' h ht rfl hp hm
end
end Go.Proofs.Ytahcppoeooadhaa
