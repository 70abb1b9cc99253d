/- stages 20 to 22: lists of ops in memory; slices.Concat, join -/
import Derived.Test.YthnpgbmagfhgpaaDoorN7
import Derived.Lib.AppendZeros
namespace Go.Proofs.YthnpgbmagfhgpaaDoor.Tr
open Go.ChangeShapes Go.WideShapes Go.ChangeAt Go.RowKit Num Go.Maps As
open Go.ChangeMaps Go.MapKept
attribute [local go_sem] run_store_float frombits_run bits_run

/-- an op: its kind, its code, its number -/
structure O where
  kind : Int
  code : Int
  n : Int
def opC (l : List O) : List Value := l.flatMap fun o => [.int .i64 o.kind, .int .i64 o.code, .int .i64 o.n]
theorem opC_len (l : List O) : (opC l).length = l.length * 3 := by
  induction l with
  | nil => rfl
  | cons o l ih =>
    have : opC (o :: l) = [.int .i64 o.kind, .int .i64 o.code, .int .i64 o.n] ++ opC l := rfl
    rw [this, List.length_append, ih, List.length_cons, List.length_cons, List.length_cons, List.length_cons, List.length_nil]
    omega
theorem opC_app (a b : List O) : opC (a ++ b) = opC a ++ opC b := by unfold opC; rw [List.flatMap_append]
abbrev OpsW (w : World) (p : Option Addr) (c n : Nat) (l : List O) : Prop := RowW 48 3 w p c n (opC l)
theorem opInfo : (Tryd.prog.info? 48).map (fun i => (i.zero, i.size, i.bytes)) = some (some (.agg #[.int .i64 0, .int .i64 0, .int .i64 0]), 3, 24) := by kernel_rfl
section
variable {E : TypeId} {sz : Nat} {w w' : World} {p : Option Addr} {c n : Nat} {xs : List Value}
/-- append of another row -/
theorem RowW.appN (h : RowW E sz w p c n xs) {t : TypeId} {z : Value} {bytes : Nat} (ht : Tryd.prog.underlying t = some (.slice E)) (hI : (Tryd.prog.info? E).map (fun i => (i.zero, i.size, i.bytes)) = some (some z, sz, bytes)) (hzs : z.cells.size = sz) (hsz : 0 < sz)
    {gx k cx : Nat} {ys : List Value} (hx : RowW E sz w (some ⟨gx, 0, none⟩) cx k ys) (hk : 0 < k) (h1 : ∀ u ∈ ys, u.oneCell' = true) (h63 : n + k ≤ maxLen) (hb : (n + k) * bytes ≤ 140737488355328) (ty : TypeId) :
    ∃ v w', (Builtin.append_ #[t, t] ty #[.slice p n c, .slice (some ⟨gx, 0, none⟩) k cx]).run Tryd.prog w = .ok v w' ∧ ∃ g c', v = .slice (some ⟨g, 0, none⟩) (n + k) c' ∧ RowW E sz w' (some ⟨g, 0, none⟩) c' (n + k) (xs ++ ys) ∧ Turn (fpR p) [g] w w' := by
  obtain ⟨i, hi, hz0, hz1, hz2⟩ := info_parts hI
  obtain ⟨g0, e0, _, _, _, cg, _⟩ := hx.at hk
  cases e0
  obtain ⟨v, w', h1, h2, h3, h4, h5⟩ := run_append_own_at (P := Tryd.prog) (w := w) 0 t ty E i z sz bytes ht hi hz0 hz1 hz2 hzs hsz (.slice p n c) n xs h.own ⟨gx, 0, none⟩ k cx ys hx.len (fun j u hu => by
    rw [Go.WideShapes.add_plain, Nat.zero_add]
    have hj : j < k * sz := by
      rw [← hx.len]
      exact (List.getElem?_eq_some_iff.1 hu).1
    exact (cg j hj).trans hu) h1 h63 hb (Nat.zero_le _)
  rcases h2.2 with ⟨_, q⟩ | ⟨g, cap, cur, hv, hrest⟩
  · omega
  · refine ⟨v, w', h1, g, cap, hv, ⟨by rw [hv] at h2; exact h2⟩, ⟨h3.os, h3.tape, h3.output, h3.size, fun k hk hn => h3.block k hk fun q => hn (own_fpR.2 q.symm), fun k hk => ?_⟩⟩
    obtain rfl : k = g := by simpa using hk
    rcases h5 with q | q
    · exact .inl (own_fpR.2 (by rw [← q, hv]; rfl))
    · right
      rw [hv] at q
      have := Option.some.inj q
      show w.heap.size ≤ k
      exact Nat.le_of_eq this.symm
end
/-- lists of ops, one beside the other -/
structure Parts (w : World) (b : Nat) (Ls : List (List O)) : Prop where
  lt : b < w.heap.size
  at_ : ∀ i, i < Ls.length → ∃ g c, w.cell? ⟨b, i, none⟩ = some (.slice (some ⟨g, 0, none⟩) (Ls.getD i []).length c) ∧ 0 < (Ls.getD i []).length ∧ OpsW w (some ⟨g, 0, none⟩) c (Ls.getD i []).length (Ls.getD i [])
theorem Parts.on {w w' : World} {b : Nat} {Ls : List (List O)} (h : Parts w b Ls) (k : Below w.heap.size w w') : Parts w' b Ls := by
  refine ⟨Nat.lt_of_lt_of_le h.lt k.size, fun i hi => ?_⟩
  obtain ⟨g, c, h1, h2, h3⟩ := h.at_ i hi
  exact ⟨g, c, (World.cell?_of_block (a := ⟨b, i, none⟩) (k.block b h.lt)).trans h1, h2, h3.keep (kept_below k h3.blw)⟩
def sumL (Ls : List (List O)) : Nat := Ls.flatten.length
theorem sumL_take {Ls : List (List O)} {i : Nat} (h : i < Ls.length) : sumL (Ls.take (i + 1)) = sumL (Ls.take i) + (Ls.getD i []).length ∧ (Ls.take (i + 1)).flatten = (Ls.take i).flatten ++ Ls.getD i [] := by
  have e : Ls.getD i [] = Ls[i] := by simp [List.getD_eq_getElem?_getD, h]
  have e2 : (Ls.take (i + 1)).flatten = (Ls.take i).flatten ++ Ls.getD i [] := by
    rw [List.take_succ_eq_append_getElem h, e, List.flatten_append, List.flatten_singleton]
  exact ⟨by unfold sumL; rw [e2, List.length_append], e2⟩
theorem sumL_le (Ls : List (List O)) (i : Nat) : sumL (Ls.take i) ≤ sumL Ls := by
  unfold sumL
  have : Ls.flatten = (Ls.take i).flatten ++ (Ls.drop i).flatten := by rw [← List.flatten_append, List.take_append_drop]
  rw [this, List.length_append]
  omega
set_option maxRecDepth 100000 in
set_option maxHeartbeats 4000000 in
theorem grow_any (n : Nat) (h0 : 0 < n) (hn : n ≤ 4096) (w : World) : Calls Tryd.prog 63 #[.slice none 0 0, .int .i64 n] w fun e w' => ∃ g c, e = .returned (.slice (some ⟨g, 0, none⟩) 0 c) ∧ Hid (OpsW w' (some ⟨g, 0, none⟩) c 0 [] ∧ w.heap.size ≤ g ∧ Below w.heap.size w w') := by
  obtain ⟨i, hi, hz0, hz1, hz2⟩ := info_parts opInfo
  have HA : Hid (∀ ty, ∃ v w', (Builtin.append_ #[37, 3] ty #[.slice none 0 0, .int .i64 n]).run Tryd.prog w = .ok v w' ∧ ∃ g c : Nat, v = .slice (some ⟨g, 0, none⟩) n c ∧ 0 ≤ (c : Int) ∧ Hid (OpsW w' (some ⟨g, 0, none⟩) c 0 [] ∧ w.heap.size ≤ g ∧ Below w.heap.size w w')) := fun ty => by
    have hge := grownCap_ge w n 0 48
    have hle := grownCap_le_maxLen w n 0 48 (by unfold maxLen; omega)
    have hrun := Lib.run_append_nil_zeros w 37 3 ty 48 i (.agg #[.int .i64 0, .int .i64 0, .int .i64 0]) .i64 .i64 Tryd.underlying37 Tryd.underlying3 hi hz0 n h0 (by rw [hz1]; decide) (by omega) (by rw [hz2]; omega)
    have e3 : (Value.agg #[.int .i64 0, .int .i64 0, .int .i64 0] : Value).cells.size = 3 := by kernel_rfl
    have hs : (Builtin.zeroCells (Value.agg #[.int .i64 0, .int .i64 0, .int .i64 0] : Value).cells n ++ Builtin.zeroCells (Value.agg #[.int .i64 0, .int .i64 0, .int .i64 0] : Value).cells (grownCap w n 0 48 - n)).size = grownCap w n 0 48 * 3 := by
      rw [Array.size_append, size_zeroCells, size_zeroCells, e3]
      omega
    clear e3 hi hz0 hz1 hz2
    generalize Builtin.zeroCells (Value.agg #[.int .i64 0, .int .i64 0, .int .i64 0] : Value).cells n ++ Builtin.zeroCells (Value.agg #[.int .i64 0, .int .i64 0, .int .i64 0] : Value).cells (grownCap w n 0 48 - n) = arr at hrun hs
    generalize grownCap w n 0 48 = c at hrun hs hge hle
    have hR : OpsW (w.drew.alloc (.cells arr 48)) (some ⟨w.heap.size, 0, none⟩) c 0 [] := ⟨⟨by simp [opC], .inr ⟨w.heap.size, c, arr, rfl, Nat.zero_le _, heap_alloc_new w.drew _, Nat.zero_le _, hle, hs, by simp [opC]⟩⟩⟩
    exact ⟨_, _, hrun, w.heap.size, c, rfl, by omega, hR, Nat.le_refl _, ((Same.drew w).below _).trans (bl1 w.drew _)⟩
  clear hi hz0 hz1 hz2
  have hn1 : ¬ (n : Int) < 0 := by omega
  have hn2 : 0 < (n : Int) := by omega
  have hwr : wrap64 (n : Int) = n := by unfold wrap64; omega
  clear h0 hn
  have HA2 := HA
  rw [← hwr] at HA2
  go_enter Tryd.func63, Tryd.ntmps63
  go_wp2_with (at_builtin; first | (refine wpList_append_ex rfl _ _ _ _ rfl _ _ rfl rfl (by exact HA.out _) ?_; rintro r w3 ⟨g, c, rfl, hc0, hR⟩; clear HA) | (refine wpList_append_ex rfl _ _ _ _ rfl _ _ rfl rfl (by exact HA2.out _) ?_; rintro r w3 ⟨g, c, rfl, hc0, hR⟩; clear HA))
  go_ret
  exact ⟨g, c, rfl, hR.out⟩
theorem opC_one (l : List O) : ∀ u ∈ opC l, u.oneCell' = true := by
  intro u hu
  obtain ⟨o, _, h⟩ := List.mem_flatMap.1 hu
  simp only [List.mem_cons, List.not_mem_nil, or_false] at h
  rcases h with rfl | rfl | rfl <;> rfl
set_option maxHeartbeats 4000000 in
set_option maxRecDepth 100000 in
theorem concat_any {w : World} {b k cc : Nat} {Ls : List (List O)} (h : Parts w b Ls) (hk : Ls.length = k) (h0 : 0 < sumL Ls) (hs : sumL Ls ≤ 4096) (hk2 : k ≤ 4096) : Calls Tryd.prog 54 #[.slice (some ⟨b, 0, none⟩) k cc] w fun e w' => ∃ g n c, e = .returned (.slice (some ⟨g, 0, none⟩) n c) ∧ Hid (n = sumL Ls ∧ OpsW w' (some ⟨g, 0, none⟩) c n Ls.flatten ∧ Below w.heap.size w w' ∧ w.heap.size ≤ g) := by
  have HP := Lib.hid h
  have HK := Lib.hid hk
  have HS := Lib.hid hs
  have hbl := h.lt
  obtain ⟨N, hN⟩ : ∃ N, sumL Ls = N := ⟨_, rfl⟩
  have HN := Lib.hid hN
  rw [hN] at hs h0
  have HG := Lib.hid (grow_any N h0 hs w)
  have hN63 : (N : Int) ≤ 4096 := by omega
  have hN0 : 0 < (N : Int) := by omega
  clear h hk hs h0 hN
  go_enter Tryd.func54, Tryd.ntmps54
  go_wp2
  go_loopw [3, 5, 11] (fun vs _ vi wr => ∃ i s : Nat, vi = .int .i64 i ∧ i ≤ k ∧ vs = .int .i64 s ∧ w = wr ∧ Hid (s = sumL (Ls.take i))) (fun _ _ vi _ => k - (intOf vi).toNat)
  case atStart => exact ⟨0, 0, rfl, Nat.zero_le _, rfl, rfl, rfl⟩
  case round =>
    obtain ⟨i, s, rfl, hi, rfl, rfl, HI⟩ := hrel
    by_cases hlt : i < k
    · have hltI : (i : Int) < (k : Int) := by omega
      have hlt' : i < Ls.length := by rw [HK.out]; exact hlt
      obtain ⟨g, c, e1, e2, e3⟩ := HP.out.at_ i hlt'
      obtain ⟨t1, t2⟩ := sumL_take hlt'
      have t3 := sumL_le Ls (i + 1)
      obtain ⟨n, hn⟩ : ∃ n, (Ls.getD i []).length = n := ⟨_, rfl⟩
      rw [hn] at e1 t1
      have hsum : s + n ≤ 4096 := by rw [HI.out, ← t1]; exact Nat.le_trans t3 HS.out
      have HT : Hid (s + n = sumL (Ls.take (i + 1))) := by rw [HI.out]; exact t1.symm
      have hadd : wrap64 ((s : Int) + (n : Int)) = ((s + n : Nat) : Int) := by clear HG HP HI e2 e3 t1 t2 t3 hn hlt' HT HN HK HS; unfold wrap64; omega
      have hneg : ¬ ((s + n : Nat) : Int) < 0 := Int.not_lt.2 (Int.natCast_nonneg _)
      clear HG HP HI e2 e3 t1 t2 t3 hn hlt'
      go_wp2
      refine ⟨⟨i + 1, s + n, ?_, by omega, ?_, ?_, HT.out⟩, by simp [intOf]; omega⟩
      all_goals first | trivial | rfl | (congr 1)
    · have hltI : ¬ (i : Int) < (k : Int) := by omega
      obtain rfl : k = i := by omega
      obtain rfl : N = s := by rw [HI.out, ← HN.out, ← HK.out, List.take_length]
      clear HI
      go_wp2_with (go_at_call 63; refine HG.out.mono ?_; rintro e w1 ⟨g0, c0, rfl, hR⟩; have hw1 : b < w1.heap.size := Nat.lt_of_lt_of_le hbl hR.out.2.2.size; clear HG)
      go_loopw [6, 8, 27] (fun vs _ vi wr => ∃ i s g c : Nat, vi = .int .i64 i ∧ i ≤ k ∧ vs = .slice (some ⟨g, 0, none⟩) s c ∧ Hid (s = sumL (Ls.take i) ∧ OpsW wr (some ⟨g, 0, none⟩) c s (Ls.take i).flatten ∧ w.heap.size ≤ g ∧ Below w.heap.size w wr)) (fun _ _ vi _ => k - (intOf vi).toNat)
      case atStart => exact ⟨0, 0, g0, c0, rfl, Nat.zero_le _, rfl, rfl, hR.out.1, hR.out.2.1, hR.out.2.2⟩
      case round =>
        obtain ⟨i, s, g1, c1, rfl, hi2, rfl, HI⟩ := hrel
        by_cases hlt : i < k
        · have hltI2 : (i : Int) < (k : Int) := by omega
          have hlt' : i < Ls.length := by rw [HK.out]; exact hlt
          obtain ⟨g, c, e1, e2, e3⟩ := (HP.out.on HI.out.2.2.2).at_ i hlt'
          obtain ⟨t1, t2⟩ := sumL_take hlt'
          have t3 := sumL_le Ls (i + 1)
          obtain ⟨n, hn⟩ : ∃ n, (Ls.getD i []).length = n := ⟨_, rfl⟩
          rw [hn] at e1 e2 e3 t1
          have hsum : s + n ≤ 4096 := by rw [HI.out.1, ← t1]; exact Nat.le_trans t3 HS.out
          have HA : Hid (∀ ty, ∃ v w', (Builtin.append_ #[37, 37] ty #[.slice (some ⟨g1, 0, none⟩) s c1, .slice (some ⟨g, 0, none⟩) n c]).run Tryd.prog wr = .ok v w' ∧ ∃ g' n' c' : Nat, v = .slice (some ⟨g', 0, none⟩) n' c' ∧ Hid (n' = sumL (Ls.take (i + 1)) ∧ OpsW w' (some ⟨g', 0, none⟩) c' n' (Ls.take (i + 1)).flatten ∧ w.heap.size ≤ g' ∧ Below w.heap.size w w')) := fun ty => by
            obtain ⟨v, w', q1, g', c', q2, q3, q4⟩ := RowW.appN HI.out.2.1 Tryd.underlying37 opInfo (by kernel_rfl) (by decide) e3 e2 (opC_one _) (by unfold maxLen; omega) (by omega) ty
            have e5 : opC (Ls.take i).flatten ++ opC (Ls.getD i []) = opC (Ls.take (i + 1)).flatten := by rw [t2, opC_app]
            rw [e5] at q3
            have hbw := q4.own g' (by simp)
            exact ⟨v, w', q1, g', s + n, c', q2, by rw [HI.out.1]; exact t1.symm, q3, by have := HI.out.2.2.1; have := HI.out.2.2.2.size; rcases hbw with q | q; simp [fpR] at q; omega; omega, HI.out.2.2.2.trans (q4.below (fun x hx => by simp [fpR] at hx; have := HI.out.2.2.1; omega) HI.out.2.2.2.size)⟩
          clear HP HI e2 e3 t1 t2 t3 hn hlt' hsum
          go_wp2_with (at_builtin; refine wpList_append_ex rfl _ _ _ _ rfl _ _ rfl rfl (by exact HA.out _) ?_; rintro r w3 ⟨g', n', c', rfl, k4⟩; clear HA)
          exact ⟨⟨i + 1, n', g', c', by first | rfl | (congr 1), by omega, rfl, k4.out⟩, by simp [intOf]; omega⟩
        · have hltI2 : ¬ (i : Int) < (k : Int) := by omega
          obtain rfl : k = i := by omega
          have HZ : Hid (s = sumL Ls ∧ OpsW wr (some ⟨g1, 0, none⟩) c1 s Ls.flatten ∧ Below w.heap.size w wr ∧ w.heap.size ≤ g1) := by
            obtain ⟨z1, z2, z3, z4⟩ := HI.out
            rw [← HK.out, List.take_length] at z1 z2
            exact ⟨z1, z2, z4, z3⟩
          clear HI HP
          go_wp2
          go_ret
          exact ⟨g1, s, c1, rfl, HZ.out⟩
end Go.Proofs.YthnpgbmagfhgpaaDoor.Tr
