import Derived.Test.YtahcppoeooadhaaX8
namespace Go.Proofs.Ytahcppoeooadhaa
open Go.ChangeShapes Go.WideShapes Go.ChangeAt Go.RowKit Num
attribute [local go_sem] run_store_float frombits_run bits_run

theorem raw6_any (n : Nat) (w : World) : Calls Try.prog 19 #[.int .u64 n] w fun e w' => e = .returned (.float .f64 n) ∧ w' = w := by
  go_enter Try.func19, Try.ntmps19
  go_wp2
  go_ret
  exact ⟨rfl, rfl⟩
/-- bits, wherever they lie -/
def BitsAt (w : World) (p : Option Addr) (l : List Nat) : Prop :=
  ∀ i, i < l.length → ∃ g o, p = some ⟨g, o, none⟩ ∧ g < w.heap.size ∧ w.cell? ⟨g, o + i, none⟩ = some (.int .u64 ((l.getD i 0 : Nat) : Int))
theorem BitsAt.on {B : Nat} {w w' : World} {p : Option Addr} {l : List Nat} (h : BitsAt w p l) (k : Below B w w') (hB : w.heap.size ≤ B) : BitsAt w' p l := fun i hi => by
  obtain ⟨g, o, h1, h2, h3⟩ := h i hi
  exact ⟨g, o, h1, Nat.lt_of_lt_of_le h2 k.size, (k.cell (p := ⟨g, o + i, none⟩) (Nat.lt_of_lt_of_le h2 hB)).trans h3⟩
/-- cells and bits, wherever they lie -/
def PutsAt (w : World) (p : Option Addr) (l : List (Int × Nat)) : Prop :=
  ∀ i, i < l.length → ∃ g o, p = some ⟨g, o, none⟩ ∧ g < w.heap.size ∧ w.cell? ⟨g, o + i * 2, none⟩ = some (.int .i64 (l.getD i (0, 0)).1) ∧ w.cell? ⟨g, o + i * 2 + 1, none⟩ = some (.int .u64 (((l.getD i (0, 0)).2 : Nat) : Int))
theorem PutsAt.on {w w' : World} {p : Option Addr} {l : List (Int × Nat)} (h : PutsAt w p l) (k : Below w.heap.size w w') : PutsAt w' p l := fun i hi => by
  obtain ⟨g, o, h1, h2, h3, h4⟩ := h i hi
  exact ⟨g, o, h1, Nat.lt_of_lt_of_le h2 k.size, (k.cell (p := ⟨g, o + i * 2, none⟩) h2).trans h3, (k.cell (p := ⟨g, o + i * 2 + 1, none⟩) h2).trans h4⟩
section
variable {w : World} {p : Option Addr} {n cap : Nat}
set_option maxHeartbeats 2000000 in
set_option maxRecDepth 100000 in
theorem floats_any' {l : List Nat} (h : BitsAt w p l) (hn : l.length = n) (hz : n * 8 ≤ reachBytes) : Calls Try.prog 14 #[.slice p n cap] w fun e w' => ∃ q c, e = .returned (.slice q n c) ∧ RowAt 44 w' q c (fls l) ∧ Abv w.heap.size (fpR q) ∧ Below w.heap.size w w' := by
  have hz' : n * 8 ≤ 140737488351232 := hz
  have HX : Hid (∀ wr, Below w.heap.size w wr → ∀ k, k < n → ∃ g o, p = some ⟨g, o, none⟩ ∧ g < wr.heap.size ∧ wr.cell? ⟨g, o + k, none⟩ = some (.int .u64 ((l.getD k 0 : Nat) : Int))) := fun wr hb k hk => (h.on hb (Nat.le_refl _)) k (by omega)
  have HT : Hid (∀ k, k < n → fls (l.take (k + 1)) = fls (l.take k) ++ [.float .f64 (l.getD k 0)]) := fun k hk => take_fls l k (by omega)
  have HE : Hid (fls (l.take n) = fls l) := by show _ = _; rw [← hn, List.take_length]
  have HLN : Hid (l.length = n) := hn
  obtain ⟨i0, hi, hz0, hz1, hz2⟩ := info_parts fInfo
  have HZI := Lib.hid (And.intro hi (And.intro hz0 (And.intro hz1 hz2)))
  clear hi hz0 hz1 hz2 hn h hz
  go_enter Try.func14, Try.ntmps14
  go_wp2
  go_loopw [3, 4] (fun v vi wr => ∃ k : Nat, vi = .int .i64 k ∧ k ≤ n ∧ Hid (wr.ownsRow w.heap.size 44 1 v k (fls (l.take k))) ∧ Hid (Below w.heap.size w wr)) (fun _ vi _ => n - (intOf vi).toNat)
  case atStart => exact ⟨0, rfl, Nat.zero_le _, World.ownsRow_nil _ _ _ _, Below.refl _ _⟩
  case round =>
    obtain ⟨k, rfl, hk, HO, HB⟩ := hrel
    by_cases hlt : k < n
    · have hlt' : (k : Int) < (n : Int) := by omega
      obtain ⟨g, o, hpg, hg, hx⟩ := HX.out _ HB.out k hlt
      subst hpg
      have HTK := Lib.hid (HT.out k hlt)
      generalize l.getD k 0 = y at hx HTK
      have HS : Hid (w.heap.size ≤ wr.heap.size) := HB.out.size
      clear HX HT
      go_wp2_with (first
        | (go_at_call 19; refine (raw6_any _ _).mono ?_; rintro e w' ⟨rfl, hw⟩; subst w')
        | (at_builtin; refine wpList_append_own _ rfl _ _ 36 rfl w.heap.size 44 i0 (.float .f64 0) 1 8 Try.underlying36 HZI.out.1 HZI.out.2.1 HZI.out.2.2.1 HZI.out.2.2.2 rfl (by decide) _ k _ rfl (World.ownsRow.alloc HO.out _) ⟨wr.heap.size, 0, none⟩ 1 1 [.float .f64 y] rfl rfl (cell_one_new _ _ _) (fun u hu => by simp at hu; subst hu; rfl) (by unfold maxLen; omega) (by omega) (by have := HS.out; simp; omega) ?_; intro v3 w3 hown3 hgrow3 hnil3; replace hown3 := Lib.hid hown3; replace hgrow3 := Lib.hid hgrow3; clear hnil3))
      have HF : Hid (w3.ownsRow w.heap.size 44 1 v3 (k + 1) (fls (l.take (k + 1)))) := by
        show w3.ownsRow _ _ _ _ _ _
        rw [HTK.out]
        exact hown3.out
      have HG : Hid (Below w.heap.size w w3) := (HB.out.alloc HB.out.size _).grown hgrow3.out (Nat.le_trans HS.out (by simp)) (fun j hj => (World.ownsRow.lt HO.out j hj).1)
      exact ⟨⟨k + 1, by first | rfl | (congr 1), by omega, HF, HG⟩, by simp [intOf]; omega⟩
    · have hlt' : ¬ (k : Int) < (n : Int) := by omega
      have e : k = n := by omega
      subst e
      have h0 := HO.out
      rw [HE.out] at h0
      obtain ⟨q, c, hv, hr, ha⟩ := ownsRow_based h0
      rw [fls_len, HLN.out] at hv
      subst hv
      have HF := Lib.hid (And.intro hr ha)
      clear h0 HO hlt hr ha HX HT
      go_wp2
      go_ret
      exact ⟨q, c, rfl, HF.out.1, HF.out.2, HB.out⟩
theorem floats_any {l : List Nat} (h : BitsAt w p l) (hz : l.length * 8 ≤ reachBytes) : Calls Try.prog 14 #[.slice p l.length cap] w fun e w' => ∃ q c, e = .returned (.slice q l.length c) ∧ RowAt 44 w' q c (fls l) ∧ Abv w.heap.size (fpR q) ∧ Below w.heap.size w w' := floats_any' h rfl hz
def nums (l : List (Int × Nat)) : List Nat := l.map (·.2)
theorem nums_len (l : List (Int × Nat)) : (nums l).length = l.length := by simp [nums]
theorem nums_at (l : List (Int × Nat)) (k : Nat) (h : k < l.length) : (nums l).getD k 0 = (l.getD k (0, 0)).2 := by simp [nums, h]
set_option maxHeartbeats 2000000 in
set_option maxRecDepth 100000 in
theorem numbers_any' {l : List (Int × Nat)} (h : PutsAt w p l) (hn : l.length = n) (hz : n * 16 ≤ reachBytes) : Calls Try.prog 41 #[.slice p n cap] w fun e w' => ∃ q c, e = .returned (.slice q n c) ∧ RowAt 44 w' q c (fls (nums l)) ∧ Abv w.heap.size (fpR q) ∧ Below w.heap.size w w' := by
  have hz' : n * 16 ≤ 140737488351232 := hz
  have HX : Hid (∀ wr, Below w.heap.size w wr → ∀ k, k < n → ∃ g o, p = some ⟨g, o, none⟩ ∧ g < wr.heap.size ∧ wr.cell? ⟨g, o + k * 2 + 1, none⟩ = some (.int .u64 (((nums l).getD k 0 : Nat) : Int))) := fun wr hb k hk => by
    obtain ⟨g, o, q1, q2, _, q4⟩ := (h.on hb) k (by omega)
    exact ⟨g, o, q1, q2, by rw [nums_at l k (by omega)]; exact q4⟩
  have HT : Hid (∀ k, k < n → fls ((nums l).take (k + 1)) = fls ((nums l).take k) ++ [.float .f64 ((nums l).getD k 0)]) := fun k hk => take_fls (nums l) k (by rw [nums_len]; omega)
  have HE : Hid (fls ((nums l).take n) = fls (nums l)) := by show _ = _; rw [← hn, ← nums_len, List.take_length]
  have HLN : Hid ((nums l).length = n) := (nums_len l).trans hn
  generalize nums l = m at HX HT HE HLN ⊢
  obtain ⟨i0, hi, hz0, hz1, hz2⟩ := info_parts fInfo
  have HZI := Lib.hid (And.intro hi (And.intro hz0 (And.intro hz1 hz2)))
  clear hi hz0 hz1 hz2 hn h hz
  go_enter Try.func41, Try.ntmps41
  go_wp2
  go_loopw [3, 4] (fun v vi wr => ∃ k : Nat, vi = .int .i64 k ∧ k ≤ n ∧ Hid (wr.ownsRow w.heap.size 44 1 v k (fls (m.take k))) ∧ Hid (Below w.heap.size w wr)) (fun _ vi _ => n - (intOf vi).toNat)
  case atStart => exact ⟨0, rfl, Nat.zero_le _, World.ownsRow_nil _ _ _ _, Below.refl _ _⟩
  case round =>
    obtain ⟨k, rfl, hk, HO, HB⟩ := hrel
    by_cases hlt : k < n
    · have hlt' : (k : Int) < (n : Int) := by omega
      obtain ⟨g, o, hpg, hg, hx⟩ := HX.out _ HB.out k hlt
      subst hpg
      have HTK := Lib.hid (HT.out k hlt)
      generalize m.getD k 0 = y at hx HTK
      have HS : Hid (w.heap.size ≤ wr.heap.size) := HB.out.size
      clear HX HT
      go_wp2_with (first
        | (go_at_call 19; refine (raw6_any _ _).mono ?_; rintro e w' ⟨rfl, hw⟩; subst w')
        | (at_builtin; refine wpList_append_own _ rfl _ _ 36 rfl w.heap.size 44 i0 (.float .f64 0) 1 8 Try.underlying36 HZI.out.1 HZI.out.2.1 HZI.out.2.2.1 HZI.out.2.2.2 rfl (by decide) _ k _ rfl (World.ownsRow.alloc HO.out _) ⟨wr.heap.size, 0, none⟩ 1 1 [.float .f64 y] rfl rfl (cell_one_new _ _ _) (fun u hu => by simp at hu; subst hu; rfl) (by unfold maxLen; omega) (by omega) (by have := HS.out; simp; omega) ?_; intro v3 w3 hown3 hgrow3 hnil3; replace hown3 := Lib.hid hown3; replace hgrow3 := Lib.hid hgrow3; clear hnil3))
      have HF : Hid (w3.ownsRow w.heap.size 44 1 v3 (k + 1) (fls (m.take (k + 1)))) := by
        show w3.ownsRow _ _ _ _ _ _
        rw [HTK.out]
        exact hown3.out
      have HG : Hid (Below w.heap.size w w3) := (HB.out.alloc HB.out.size _).grown hgrow3.out (Nat.le_trans HS.out (by simp)) (fun j hj => (World.ownsRow.lt HO.out j hj).1)
      exact ⟨⟨k + 1, by first | rfl | (congr 1), by omega, HF, HG⟩, by simp [intOf]; omega⟩
    · have hlt' : ¬ (k : Int) < (n : Int) := by omega
      have e : k = n := by omega
      subst e
      have h0 := HO.out
      rw [HE.out] at h0
      obtain ⟨q, c, hv, hr, ha⟩ := ownsRow_based h0
      rw [fls_len, HLN.out] at hv
      subst hv
      have HF := Lib.hid (And.intro hr ha)
      clear h0 HO hlt hr ha HX HT
      go_wp2
      go_ret
      exact ⟨q, c, rfl, HF.out.1, HF.out.2, HB.out⟩
theorem numbers_any {l : List (Int × Nat)} (h : PutsAt w p l) (hz : l.length * 16 ≤ reachBytes) : Calls Try.prog 41 #[.slice p l.length cap] w fun e w' => ∃ q c, e = .returned (.slice q (nums l).length c) ∧ RowAt 44 w' q c (fls (nums l)) ∧ Abv w.heap.size (fpR q) ∧ Below w.heap.size w w' := by
  rw [nums_len]
  exact numbers_any' h rfl hz
/-- two lists of the same bits -/
theorem exact_same {w : World} {pa pb : Option Addr} {ca cb n : Nat} {l : List Nat} (hn : l.length = n) (hm : n ≤ 9223372036854775807) (ha : RowAt 44 w pa ca (fls l)) (hb : RowAt 44 w pb cb (fls l)) : Calls Try.prog 22 #[.slice pa n ca, .slice pb n cb] w fun e w' => e = .returned (.bool true) ∧ Same w w' := by
  have HA : Hid (∀ i, i < n → ∃ g, pa = some ⟨g, 0, none⟩ ∧ g < w.heap.size ∧ w.cell? ⟨g, i, none⟩ = some (.float .f64 (l.getD i 0))) := fun i hi => by
    obtain ⟨g, h1, h2, h3, _⟩ := row_getD ha i (by omega)
    exact ⟨g, h1, h2, h3⟩
  have HB : Hid (∀ i, i < n → ∃ g, pb = some ⟨g, 0, none⟩ ∧ g < w.heap.size ∧ w.cell? ⟨g, i, none⟩ = some (.float .f64 (l.getD i 0))) := fun i hi => by
    obtain ⟨g, h1, h2, h3, _⟩ := row_getD hb i (by omega)
    exact ⟨g, h1, h2, h3⟩
  clear ha hb hn
  go_enter Try.func22, Try.ntmps22
  go_wp2
  go_loopw [5] (fun vi wr => ∃ (k d : Nat), vi = .int .i64 k ∧ k ≤ n ∧ wr = w.drewN d) (fun vi _ => n - (intOf vi).toNat)
  case atStart => exact ⟨0, 0, rfl, Nat.zero_le _, by rw [World.drewN_zero]⟩
  case round =>
    obtain ⟨k, d, rfl, hk, rfl⟩ := hrel
    by_cases hlt : k < n
    · have hlt' : (k : Int) < (n : Int) := by omega
      obtain ⟨ga, hpa, ga1, hca⟩ := HA.out k hlt
      obtain ⟨gb, hpb, gb1, hcb⟩ := HB.out k hlt
      subst hpa hpb
      generalize l.getD k 0 = x at hca hcb
      go_wp2
      go_quiet (fail)
      go_wp2
      exact ⟨⟨k + 1, _, by first | rfl | (congr 1), by omega, rfl⟩, by simp [intOf]; omega⟩
    · have hlt' : ¬ (k : Int) < (n : Int) := by omega
      go_wp2
      go_ret
      exact ⟨rfl, Same.drewN _ _⟩
end
end Go.Proofs.Ytahcppoeooadhaa
