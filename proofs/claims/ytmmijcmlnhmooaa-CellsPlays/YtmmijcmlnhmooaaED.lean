import Derived.Test.YtmmijcmlnhmooaaE7
import Derived.Test.YtmmijcmlnhmooaaM10
namespace Go.Proofs.Ytmmijcmlnhmooaa
open Go.ChangeShapes Go.WideShapes Go.ChangeAt Go.RowKit Num
attribute [local go_sem] run_store_float

theorem refMayBe_any (c : Int) (w : World) : Calls Try.prog 64 #[.int .i64 c] w fun e w' => e = .returned (.bool (mayC c)) ∧ w' = w := by
  unfold mayC
  by_cases h1 : 0 ≤ c
  · by_cases h2 : c < 256
    · have h1' : ¬ c < 0 := by omega
      go_enter Try.func64, Try.ntmps64
      go_wp2
      go_ret
      exact ⟨by first | (simp; done) | (simp; omega), rfl⟩
    · go_enter Try.func64, Try.ntmps64
      go_wp2
      go_ret
      exact ⟨by first | (simp; done) | (simp; omega), rfl⟩
  · go_enter Try.func64, Try.ntmps64
    go_wp2
    go_ret
    exact ⟨by first | (simp; done) | (simp; omega), rfl⟩
theorem refWord_any (a1 a2 a3 a4 p a6 c j : Int) (hc : 0 ≤ c ∧ c < 256) (hj : 0 ≤ j ∧ j ≤ 768) (w : World) : Calls Try.prog 62 #[planV a1 a2 a3 a4 p a6, .int .i64 c, .int .i64 j] w fun e w' => e = .returned (.int .i64 (placeI p c j)) ∧ Below w.heap.size w w' := by
  obtain ⟨hc0, hc1⟩ := hc
  obtain ⟨hj0, hj1⟩ := hj
  unfold planV
  by_cases h1 : 0 ≤ p
  · by_cases h2 : p ≤ 4096
    · have e : placeI p c j = p + 3 * c + j := by simp [placeI, h1, h2]
      have e1 : wrap64 (3 * c) = 3 * c := Go.IntWalk.wrap64_in _ ⟨by omega, by omega⟩
      have e2 : wrap64 (p + 3 * c) = p + 3 * c := Go.IntWalk.wrap64_in _ ⟨by omega, by omega⟩
      have e3 : wrap64 (p + 3 * c + j) = p + 3 * c + j := Go.IntWalk.wrap64_in _ ⟨by omega, by omega⟩
      have h1' : ¬ p < 0 := by omega
      have h2' : ¬ 4096 < p := by omega
      rw [e]
      clear e hc0 hc1 hj0 hj1
      go_enter Try.func62, Try.ntmps62
      go_wp2
      go_ret
      exact ⟨rfl, bl_alloc (Below.refl _ _) _⟩
    · have e : placeI p c j = -1 := by simp [placeI, h2]
      rw [e]
      clear e hc0 hc1 hj0 hj1
      have h1' : ¬ p < 0 := by omega
      have h2' : 4096 < p := by omega
      go_enter Try.func62, Try.ntmps62
      go_wp2
      go_ret
      exact ⟨rfl, bl_alloc (Below.refl _ _) _⟩
  · have e : placeI p c j = -1 := by simp [placeI, h1]
    rw [e]
    clear e hc0 hc1 hj0 hj1
    have h1' : p < 0 := by omega
    go_enter Try.func62, Try.ntmps62
    go_wp2
    go_ret
    exact ⟨rfl, bl_alloc (Below.refl _ _) _⟩
section
variable {w : World} {b g : Nat} {ws : List Int} {o : Bool} {n : Int}
/-- an access by a word of a cell that may be, in the words of cells -/
theorem err_same {c : Int} (hc : mayC c = true) (p j n : Int) : errA ws o (placeI p c j) = errC ws o p c j ∧ toldW ws o (placeI p c j) = (if errC ws o p c j = 0 then wordC ws p c j else 0) ∧ spentO ws o (placeI p c j) = aftO (errC ws o p c j) o ∧ spentC ws o (placeI p c j) n = aftN (errC ws o p c j) n ∧ ∀ v, Go.Proofs.Ytmmijcmlnhmooaa.stored ws o (placeI p c j) v = (if errC ws o p c j = 0 then storeC ws p c j v else ws) := by
  have e0 : errC ws o p c j = errA ws o (placeI p c j) := by simp [errC, hc]
  rw [e0]
  cases q : hasB ws (placeI p c j) <;> cases o <;> simp [errA, toldW, spentO, spentC, aftO, aftN, Go.Proofs.Ytmmijcmlnhmooaa.stored, q, wordC, storeC]
set_option maxRecDepth 100000 in
set_option maxHeartbeats 1000000 in
theorem refNow_any (h : MemAt 92 w b g ws o n) (a1 a2 a3 a4 p a6 c : Int) : Calls Try.prog 45 #[.pointer (some ⟨b, 0, none⟩), planV a1 a2 a3 a4 p a6, .int .i64 c] w fun e w' => e = .returned (.tuple #[.float .f64 (nowV ws o p c), .int .i64 (errC ws o p c 1)]) ∧ MemAt 92 w' b g ws (aftO (errC ws o p c 1) o) (aftN (errC ws o p c 1) n) ∧ Chg b g w w' := by
  have HMB := Lib.hid (refMayBe_any c)
  cases hm : mayC c
  · have e : errC ws o p c 1 = 60 := by simp [errC, hm]
    rw [nowV, aftO, aftN, e, if_neg (by decide), if_neg (by decide), if_neg (by decide)]
    simp only [hm] at HMB
    have HM := Lib.hid h
    unfold planV
    clear e hm h
    go_enter Try.func45, Try.ntmps45
    go_wp2_with (go_at_call 64; refine (HMB.out _).mono ?_; rintro e w1 ⟨rfl, hw⟩; subst w1)
    go_ret2
    exact ⟨rfl, HM.out.alloc _, (Chg.refl _ _ _).alloc _⟩
  · obtain ⟨f1, f2, f3, f4, _⟩ := err_same (ws := ws) (o := o) hm p 1 n
    simp only [hm] at HMB
    have HW := Lib.hid (refWord_any a1 a2 a3 a4 p a6 c 1 (mayC_pos hm) (by omega))
    have HL := Lib.hid (fun (u : World) (k : Below w.heap.size w u) => refLoad_any (h.on k) (placeI p c 1))
    simp only [f1, f2, f3, f4] at HL
    have hv : nowV ws o p c = if errC ws o p c 1 = 0 then fixB (wordC ws p c 1).toNat else 0 := rfl
    rw [hv]
    unfold planV at HW ⊢
    generalize placeI p c 1 = ii at HW HL
    clear f1 f2 f3 f4 hm h hv
    by_cases hok : errC ws o p c 1 = 0
    · rw [if_pos hok]
      simp only [hok, if_true] at HL
      rw [hok]
      generalize wordC ws p c 1 = x at HL ⊢
      clear hok
      go_enter Try.func45, Try.ntmps45
      go_wp2_with (first
        | (go_at_call 64; refine (HMB.out _).mono ?_; rintro e w1 ⟨rfl, hw⟩; subst w1)
        | (go_at_call 62; refine (HW.out _).mono ?_; rintro e w2 ⟨rfl, hw⟩; have HB2 := Lib.hid (below_step (bl_alloc (Below.refl w.heap.size w) _) hw); clear hw)
        | (go_at_call 65; refine (HL.out _ HB2.out).mono ?_; rintro e w3 ⟨rfl, hm, hc⟩; have HX := Lib.hid (And.intro hm (chg_from HB2.out hc)); clear hm hc)
        | (go_at_call 51; refine (refOf_int _ _).mono ?_; rintro e w4 ⟨rfl, hw⟩; subst w4))
      go_ret2
      exact ⟨rfl, HX.out⟩
    · rw [if_neg hok]
      simp only [hok, if_false] at HL
      generalize errC ws o p c 1 = x at HL hok ⊢
      go_enter Try.func45, Try.ntmps45
      go_wp2_with (first
        | (go_at_call 64; refine (HMB.out _).mono ?_; rintro e w1 ⟨rfl, hw⟩; subst w1)
        | (go_at_call 62; refine (HW.out _).mono ?_; rintro e w2 ⟨rfl, hw⟩; have HB2 := Lib.hid (below_step (bl_alloc (Below.refl w.heap.size w) _) hw); clear hw)
        | (go_at_call 65; refine (HL.out _ HB2.out).mono ?_; rintro e w3 ⟨rfl, hm, hc⟩; have HX := Lib.hid (And.intro hm (chg_from HB2.out hc)); clear hm hc))
      go_ret2
      exact ⟨rfl, HX.out⟩
/-- a Peek of the document in its midst: the plan's own block, the answer's -/
def pq0 (w : World) (a1 a2 a3 a4 p a6 : Int) : World := (w.alloc (.cells (planC a1 a2 a3 a4 p a6) 31)).alloc (.cells #[.int .u64 0, .int .u64 0, .int .u64 0] 24)
theorem pq_at {w u : World} {a1 a2 a3 a4 p a6 : Int} (k : Below (pq0 w a1 a2 a3 a4 p a6).heap.size (pq0 w a1 a2 a3 a4 p a6) u) : Below w.heap.size w u ∧ u.heap[w.heap.size]? = some (.cells (planC a1 a2 a3 a4 p a6) 31 (0, 0)) ∧ u.heap[w.heap.size + 1]? = some (.cells #[.int .u64 0, .int .u64 0, .int .u64 0] 24 (0, 0)) ∧ w.heap.size + 1 < u.heap.size := by
  have hs := k.size
  unfold pq0 at *
  refine ⟨below_step (bl_alloc (bl_alloc (Below.refl _ _) _) _) k, (k.block _ (by simp; omega)).trans ((Below.heap_alloc _ _ _ (by simp)).trans (alloc_at rfl)), (k.block _ (by simp)).trans (alloc_at (by simp)), by simp at hs; omega⟩
theorem take_w (l : List Int) (k : Nat) (h : k < l.length) (x : Int) (hx : l[k] = x) : u64s (l.take (k + 1)) = u64s (l.take k) ++ [.int .u64 x] := by
  subst hx
  exact take_one l k h
set_option maxRecDepth 100000 in
set_option maxHeartbeats 4000000 in
theorem refPeek11_may (h : MemAt 92 w b g ws o n) (a1 a2 a3 a4 p a6 c : Int) (hc : mayC c = true) : Calls Try.prog 44 #[.pointer (some ⟨b, 0, none⟩), planV a1 a2 a3 a4 p a6, .int .i64 c] w fun e w' => (e = .returned (.tuple #[tripV (wordC ws p c 0) (wordC ws p c 1) (wordC ws p c 2), .int .i64 0]) ∧ (∀ j : Nat, j < 3 → hasB ws (placeI p c j) = true) ∨ e = .returned (.tuple #[tripV 0 0 0, .int .i64 30]) ∧ ∃ j : Nat, j < 3 ∧ hasB ws (placeI p c j) = false) ∧ Below w.heap.size w w' := by
  have HMB := Lib.hid (refMayBe_any c)
  simp only [hc] at HMB
  have HW := Lib.hid (fun (j : Int) (hj : 0 ≤ j ∧ j ≤ 768) => refWord_any a1 a2 a3 a4 p a6 c j (mayC_pos hc) hj)
  have HPK := Lib.hid (fun (u : World) (k : Below w.heap.size w u) (j : Int) => refPeek_any (h.on k) j)
  obtain ⟨i0, hi, hz0, hz1, hz2⟩ := info_parts wordInfo
  have HZI := Lib.hid (And.intro hi (And.intro hz0 (And.intro hz1 hz2)))
  unfold planV at HW ⊢
  clear hi hz0 hz1 hz2 h hc
  obtain ⟨L, hL⟩ : ∃ L : List Int, L = [wordC ws p c 0, wordC ws p c 1, wordC ws p c 2] := ⟨_, rfl⟩
  have HLL : Hid (L.length = 3 ∧ ∀ (k : Nat) (hk : k < L.length), L[k] = wordC ws p c k) := by
    subst hL
    refine ⟨rfl, fun k hk => ?_⟩
    have : k = 0 ∨ k = 1 ∨ k = 2 := by simp at hk; omega
    rcases this with rfl | rfl | rfl <;> rfl
  have HLE := Lib.hid hL
  clear hL
  go_enter Try.func44, Try.ntmps44
  go_wp2_with (go_at_call 64; refine (HMB.out _).mono ?_; rintro e w1 ⟨rfl, hw⟩; subst w1)
  obtain ⟨w0, hw0⟩ : ∃ w0, pq0 w a1 a2 a3 a4 p a6 = w0 := ⟨_, rfl⟩
  have hw0' : (w.alloc (.cells #[.int .i64 a1, .int .i64 a2, .int .i64 a3, .int .i64 a4, .int .i64 p, .int .i64 a6] 31)).alloc (.cells #[.int .u64 0, .int .u64 0, .int .u64 0] 24) = w0 := hw0
  have HAT : Hid (∀ u, Below w0.heap.size w0 u → Below w.heap.size w u ∧ u.heap[w.heap.size]? = some (.cells (planC a1 a2 a3 a4 p a6) 31 (0, 0)) ∧ u.heap[w.heap.size + 1]? = some (.cells #[.int .u64 0, .int .u64 0, .int .u64 0] 24 (0, 0)) ∧ w.heap.size + 1 < u.heap.size) := by subst hw0; exact fun u k => pq_at k
  rw [hw0']
  clear hw0 hw0'
  go_loopw [9, 10] (fun v vi wr => ∃ k : Nat, vi = .int .i64 k ∧ k ≤ 3 ∧ Hid (wr.ownsRow w0.heap.size 22 1 v k (u64s (L.take k))) ∧ Hid (Below w0.heap.size w0 wr) ∧ Hid (∀ j : Nat, j < k → hasB ws (placeI p c j) = true)) (fun _ vi _ => 3 - (intOf vi).toNat)
  case atStart => exact ⟨0, rfl, by omega, World.ownsRow_nil _ _ _ _, Below.refl _ _, fun j hj => absurd hj (Nat.not_lt_zero j)⟩
  case round =>
    obtain ⟨k, rfl, hk, HO, HB, HK⟩ := hrel
    obtain ⟨hbw, hpl, han, hsz⟩ := HAT.out _ HB.out
    obtain ⟨p0, p1, p2, p3, p4, p5, p6⟩ := box6 hpl
    have HBW := Lib.hid hbw
    by_cases hlt : k < 3
    · have hlt' : (k : Int) < 3 := by omega
      have HWK := Lib.hid (HW.out k ⟨by omega, by omega⟩)
      have HPKK := Lib.hid (fun (u : World) (z : Below w.heap.size w u) => HPK.out u z (placeI p c k))
      cases hh : hasB ws (placeI p c k)
      · have HEX : Hid (∃ j : Nat, j < 3 ∧ hasB ws (placeI p c j) = false) := ⟨k, hlt, hh⟩
        simp only [errP, hh] at HPKK
        generalize placeI p c k = ii at HWK HPKK hh
        clear hh hk HK hpl han hbw HO
        go_wp2_with (first
          | (go_at_call 62; refine (HWK.out _).mono ?_; rintro e w2 ⟨rfl, hw⟩; have HB2 := Lib.hid (below_step HB.out hw); have HAN := Lib.hid (HAT.out _ HB2.out); obtain ⟨⟨q0, q1, q2, q3⟩, q4, q5, q6⟩ := box3 HAN.out.2.2.1; clear hw)
          | (go_at_call 63; refine (HPKK.out _ HAN.out.1).mono ?_; rintro e w3 ⟨rfl, hw⟩; subst w3))
        refine trip_back2 rfl (w.heap.size + 1) 0 0 0 30 rfl rfl (trip_set HAN.out.2.2.1) rfl ⟨.inr ⟨rfl, HEX.out⟩, ?_⟩
        exact bl_setCell (bl_setCell (bl_setCell HAN.out.1 (by omega) _ _) (by omega) _ _) (by omega) _ _
      · have HALL : Hid (∀ j : Nat, j < k + 1 → hasB ws (placeI p c j) = true) := fun j hj => by
          by_cases e : j = k
          · subst e; exact hh
          · exact HK.out j (by omega)
        have HTK := Lib.hid (take_w L k (by rw [HLL.out.1]; exact hlt) _ (HLL.out.2 k (by rw [HLL.out.1]; exact hlt)))
        have hwc : wordC ws p c k = wordAt ws (placeI p c k) := rfl
        rw [hwc] at HTK
        simp only [errP, hh] at HPKK
        generalize placeI p c k = ii at HWK HPKK hh HTK
        generalize wordAt ws ii = yy at HPKK HTK
        clear hh hk HK hpl han hbw hwc
        go_wp2_with (first
          | (go_at_call 62; refine (HWK.out _).mono ?_; rintro e w2 ⟨rfl, hw⟩; have HB2 := Lib.hid (below_step HB.out hw); have HS2 : Hid (w0.heap.size ≤ w2.heap.size) := HB2.out.size; have HO2 := Lib.hid (World.ownsRow.kept HO.out (w' := w2) (row := none) ⟨hw.os, hw.tape, hw.output, hw.size, fun k hk _ => hw.block k hk⟩ (by cases hv : Value.ownBlock u9 <;> simp)); clear hw)
          | (go_at_call 63; refine (HPKK.out _ (HAT.out _ HB2.out).1).mono ?_; rintro e w3 ⟨rfl, hw⟩; subst w3)
          | (at_builtin; refine wpList_append_own _ rfl _ _ 50 rfl w0.heap.size 22 i0 (.int .u64 0) 1 8 Try.underlying50 HZI.out.1 HZI.out.2.1 HZI.out.2.2.1 HZI.out.2.2.2 rfl (by decide) _ k _ rfl (World.ownsRow.alloc HO2.out _) ⟨w2.heap.size, 0, none⟩ 1 1 [.int .u64 yy] rfl rfl (cell_one_new _ _ _) (fun u hu => by simp at hu; subst hu; rfl) (by unfold maxLen; omega) (by omega) (by have := HS2.out; simp; omega) ?_; intro v3 w3 hown3 hgrow3 hnil3; replace hown3 := Lib.hid hown3; replace hgrow3 := Lib.hid hgrow3; clear hnil3))
        have HF : Hid (w3.ownsRow w0.heap.size 22 1 v3 (k + 1) (u64s (L.take (k + 1)))) := by
          show w3.ownsRow _ _ _ _ _ _
          rw [HTK.out]
          exact hown3.out
        have HG : Hid (Below w0.heap.size w0 w3) := (HB2.out.alloc HS2.out _).grown hgrow3.out (Nat.le_trans HS2.out (by simp)) (fun j hj => (World.ownsRow.lt HO2.out j hj).1)
        exact ⟨⟨k + 1, by first | rfl | (congr 1), by omega, HF, HG, HALL⟩, by simp [intOf]; omega⟩
    · have hlt' : ¬ (k : Int) < 3 := by omega
      obtain rfl : k = 3 := by omega
      have ho := HO.out
      rw [show L.take 3 = L by rw [List.take_of_length_le (by rw [HLL.out.1]; omega)], HLE.out] at ho
      rcases ho.2 with ⟨_, q⟩ | ⟨gv, cv, cur, hv, _⟩
      · cases q
      · subst hv
        have r0 : wr.cell? ⟨gv, 0, none⟩ = some (.int .u64 (wordC ws p c 0)) := by rw [World.ownsRow.cellAt ho 0 (by omega)]; rfl
        have r1 : wr.cell? ⟨gv, 1, none⟩ = some (.int .u64 (wordC ws p c 1)) := by rw [World.ownsRow.cellAt ho 1 (by omega)]; rfl
        have r2 : wr.cell? ⟨gv, 2, none⟩ = some (.int .u64 (wordC ws p c 2)) := by rw [World.ownsRow.cellAt ho 2 (by omega)]; rfl
        have r3 : gv < wr.heap.size := (World.ownsRow.lt ho gv rfl).2
        have hne : gv ≠ w.heap.size + 1 := by have := (World.ownsRow.lt ho gv rfl).1; have := (HAT.out w0 (Below.refl _ _)).2.2.2; omega
        have hne2 : ¬ w.heap.size + 1 = gv := by omega
        have HALL := Lib.hid HK.out
        have HAN := Lib.hid han
        obtain ⟨⟨q0, q1, q2, q3⟩, q4, q5, q6⟩ := box3 han
        clear HO ho hlt hk HW HPK HMB HK hpl han hbw p0 p1 p2 p3 p4 p5 p6
        go_wp2
        go_region_held (fun u => u.cell? ⟨gv, 0, none⟩ = some (.int .u64 (wordC ws p c 0)) ∧ u.cell? ⟨gv, 1, none⟩ = some (.int .u64 (wordC ws p c 1)) ∧ u.cell? ⟨gv, 2, none⟩ = some (.int .u64 (wordC ws p c 2))) (go_keep) (fail)
        go_wp2
        refine trip_back2 rfl (w.heap.size + 1) (wordC ws p c 0) (wordC ws p c 1) (wordC ws p c 2) 0 rfl rfl (trip_set HAN.out) rfl ⟨.inl ⟨rfl, HALL.out⟩, ?_⟩
        exact bl_setCell (bl_setCell (bl_setCell (bl_drew HBW.out) (by omega) _ _) (by omega) _ _) (by omega) _ _
set_option maxRecDepth 100000 in
theorem refPeek11_no (a1 a2 a3 a4 p a6 c : Int) (hc : mayC c = false) (w : World) : Calls Try.prog 44 #[.pointer (some ⟨b, 0, none⟩), planV a1 a2 a3 a4 p a6, .int .i64 c] w fun e w' => e = .returned (.tuple #[tripV 0 0 0, .int .i64 60]) ∧ Below w.heap.size w w' := by
  have HMB := Lib.hid (refMayBe_any c)
  simp only [hc] at HMB
  have HAT := Lib.hid (pq_at (w := w) (a1 := a1) (a2 := a2) (a3 := a3) (a4 := a4) (p := p) (a6 := a6) (Below.refl _ _))
  unfold planV
  clear hc
  go_enter Try.func44, Try.ntmps44
  obtain ⟨w0, hw0⟩ : ∃ w0, pq0 w a1 a2 a3 a4 p a6 = w0 := ⟨_, rfl⟩
  have hw0' : (w.alloc (.cells #[.int .i64 a1, .int .i64 a2, .int .i64 a3, .int .i64 a4, .int .i64 p, .int .i64 a6] 31)).alloc (.cells #[.int .u64 0, .int .u64 0, .int .u64 0] 24) = w0 := hw0
  rw [hw0] at HAT
  have HW0 := Lib.hid hw0'
  obtain ⟨⟨q0, q1, q2, q3⟩, q4, q5, q6⟩ := box3 HAT.out.2.2.1
  clear hw0 hw0'
  go_wp2_with (go_at_call 64; rw [HW0.out]; refine (HMB.out _).mono ?_; rintro e w1 ⟨rfl, hw⟩; subst w1)
  refine trip_back2 rfl (w.heap.size + 1) 0 0 0 60 rfl rfl (trip_set HAT.out.2.2.1) rfl ⟨rfl, ?_⟩
  exact bl_setCell (bl_setCell (bl_setCell HAT.out.1 (by omega) _ _) (by omega) _ _) (by omega) _ _
theorem refPeek11_any (h : MemAt 92 w b g ws o n) (a1 a2 a3 a4 p a6 c : Int) : Calls Try.prog 44 #[.pointer (some ⟨b, 0, none⟩), planV a1 a2 a3 a4 p a6, .int .i64 c] w fun e w' => e = .returned (.tuple #[tripV (peekW ws p c 0) (peekW ws p c 1) (peekW ws p c 2), .int .i64 (peekE ws p c)]) ∧ Below w.heap.size w w' := by
  cases hc : mayC c
  · have e1 : peekE ws p c = 60 := by simp [peekE, hc]
    have e2 : ∀ j, peekW ws p c j = 0 := fun j => by simp [peekW, e1]
    rw [e2, e2, e2, e1]
    exact refPeek11_no a1 a2 a3 a4 p a6 c hc w
  · refine (refPeek11_may h a1 a2 a3 a4 p a6 c hc).mono fun e w' ⟨he, hb⟩ => ⟨?_, hb⟩
    rcases he with ⟨he, ha⟩ | ⟨he, j, hj, hn⟩
    · have e1 : peekE ws p c = 0 := by
        have h0 := ha 0 (by omega)
        have h1 := ha 1 (by omega)
        have h2 := ha 2 (by omega)
        simp at h0 h1 h2
        simp [peekE, hc, okP, h0, h1, h2]
      have e2 : ∀ j, peekW ws p c j = wordC ws p c j := fun j => by simp [peekW, e1]
      rw [e2, e2, e2, e1]
      exact he
    · have e0 : okP ws p c = false := by
        have : j = 0 ∨ j = 1 ∨ j = 2 := by omega
        rcases this with rfl | rfl | rfl <;> simp at hn <;> simp [okP, hn]
      have e1 : peekE ws p c = 30 := by simp [peekE, hc, e0]
      have e2 : ∀ j, peekW ws p c j = 0 := fun j => by simp [peekW, e1]
      rw [e2, e2, e2, e1]
      exact he
end
/-- the same for the document's memory -/
structure Sr (w wr : World) (b g : Nat) (P : Array Value) (ws : List Int) (o : Bool) (n : Int) : Prop where
  mem : MemAt 92 wr b g ws o n
  chg : Chg b g w wr
  plan : wr.heap[w.heap.size]? = some (.cells P 31 (0, 0))
  lb : b < w.heap.size
  lg : g < w.heap.size
section
variable {w wr u : World} {b g : Nat} {P : Array Value} {ws ws' : List Int} {o o' : Bool} {n n' : Int}
theorem Sr.on (h : Sr w wr b g P ws o n) (k : Below wr.heap.size wr u) : Sr w u b g P ws o n :=
  ⟨h.mem.on k, h.chg.trans ⟨k.os, k.tape, k.output, k.size, fun i hi _ _ => k.block i hi⟩, (k.block _ (lt_of_block h.plan)).trans h.plan, h.lb, h.lg⟩
theorem Sr.next (h : Sr w wr b g P ws o n) (m : MemAt 92 u b g ws' o' n') (k : Chg b g wr u) : Sr w u b g P ws' o' n' :=
  ⟨m, h.chg.trans k, (k.block _ (lt_of_block h.plan) (by have := h.lb; omega) (by have := h.lg; omega)).trans h.plan, h.lb, h.lg⟩
end
theorem place_all (p : Int) (c j : Nat) : placeI p 0 ((3 * c + j : Nat) : Int) = placeI p c j := by
  unfold placeI
  split <;> omega
section
variable {w : World} {b g : Nat} {ws : List Int} {o : Bool} {n : Int} {ao : Option Addr} {cap : Nat} {l : List Nat}
set_option maxRecDepth 100000 in
theorem refStart_long (a1 a2 a3 a4 p a6 : Int) {m : Nat} (hl : 256 < m) (w : World) : Calls Try.prog 43 #[.pointer (some ⟨b, 0, none⟩), planV a1 a2 a3 a4 p a6, .slice ao m cap] w fun e w' => e = .returned (.int .i64 2) ∧ Below w.heap.size w w' := by
  have hl' : (256 : Int) < (m : Int) := by omega
  unfold planV
  go_enter Try.func43, Try.ntmps43
  go_wp2
  go_ret
  exact ⟨rfl, bl_alloc (Below.refl _ _) _⟩
set_option maxRecDepth 100000 in
set_option maxHeartbeats 4000000 in
theorem refStart_in (h : MemAt 92 w b g ws o n) (hf : FlAt w [b, g] ao l) (a1 a2 a3 a4 p a6 : Int) {m : Nat} (hm : l.length = m) (hl : m ≤ 256) : Calls Try.prog 43 #[.pointer (some ⟨b, 0, none⟩), planV a1 a2 a3 a4 p a6, .slice ao m cap] w fun e w' => ((e = .returned (.int .i64 0) ∧ (∀ j : Nat, j < m → okP ws p j = true) ∧ MemAt 92 w' b g (startL ws p l m) o n) ∨ (e = .returned (.int .i64 30) ∧ (∃ j : Nat, j < m ∧ okP ws p j = false) ∧ MemAt 92 w' b g ws o n)) ∧ Chg b g w w' := by
  have hl' : ¬ (256 : Int) < (m : Int) := by omega
  have h3m : wrap64 (3 * (m : Int)) = 3 * (m : Int) := Go.IntWalk.wrap64_in _ ⟨by omega, by omega⟩
  have HSA : Hid (Sr w (w.alloc (.cells (planC a1 a2 a3 a4 p a6) 31)) b g (planC a1 a2 a3 a4 p a6) ws o n) := ⟨h.alloc _, (Chg.refl _ _ _).alloc _, alloc_at rfl, h.ltB, h.ltG⟩
  have HFL : Hid (∀ u ws' , Sr w u b g (planC a1 a2 a3 a4 p a6) ws' o n → ∀ k, k < m → ∃ g o, ao = some ⟨g, o, none⟩ ∧ g < u.heap.size ∧ u.cell? ⟨g, o + k, none⟩ = some (.float .f64 (l.getD k 0))) := fun u ws' q k hk => by
    obtain ⟨g', o', h1, h2, h3, h4⟩ := (hf.ch (q.chg.ch (by simp) (by simp))) k (by omega)
    exact ⟨g', o', h1, h2, h4⟩
  have HML := Lib.hid (And.intro hm hl)
  have HW := Lib.hid (fun (j : Int) (hj : 0 ≤ j ∧ j ≤ 768) => refWord_any a1 a2 a3 a4 p a6 0 j (by omega) hj)
  unfold planV at HW ⊢
  clear h hf hm hl
  go_enter Try.func43, Try.ntmps43
  go_wp2
  go_loopw [7] (fun vi wr => ∃ k : Nat, vi = .int .i64 k ∧ k ≤ 3 * m ∧ Hid (Sr w wr b g (planC a1 a2 a3 a4 p a6) ws o n) ∧ Hid (∀ j : Nat, j < k → hasB ws (placeI p 0 j) = true)) (fun vi _ => 3 * m - (intOf vi).toNat)
  case atStart => exact ⟨0, rfl, Nat.zero_le _, HSA, fun j hj => absurd hj (Nat.not_lt_zero j)⟩
  case round =>
    clear HSA
    obtain ⟨k, rfl, hk, HS, HK⟩ := hrel
    obtain ⟨p0, p1, p2, p3, p4, p5, p6⟩ := box6 HS.out.plan
    by_cases hlt : k < 3 * m
    · have hlt' : (k : Int) < 3 * (m : Int) := by omega
      have HWK := Lib.hid (HW.out k ⟨by omega, by have := HML.out.2; omega⟩)
      have HPKK := Lib.hid (fun (u : World) (q : Sr w u b g (planC a1 a2 a3 a4 p a6) ws o n) => refPeek_any q.mem (placeI p 0 k))
      cases hh : hasB ws (placeI p 0 k)
      · have HEX : Hid (∃ j : Nat, j < m ∧ okP ws p j = false) := by
          refine ⟨k / 3, by omega, ?_⟩
          have e : k = 3 * (k / 3) + k % 3 := by omega
          rw [e, place_all] at hh
          have : k % 3 = 0 ∨ k % 3 = 1 ∨ k % 3 = 2 := by omega
          rcases this with q | q | q <;> rw [q] at hh <;> simp at hh <;> simp [okP, hh]
        simp only [errP, hh] at HPKK
        generalize placeI p 0 k = ii at HWK HPKK hh
        clear hh hk hlt HFL HML HK HW
        go_wp2_with (first
          | (go_at_call 62; refine (HWK.out _).mono ?_; rintro e w2 ⟨rfl, hw⟩; have HS2 := Lib.hid (HS.out.on hw); clear hw HS)
          | (go_at_call 63; refine (HPKK.out _ HS2.out).mono ?_; rintro e w3 ⟨rfl, hw⟩; subst w3))
        go_ret
        exact ⟨.inr ⟨rfl, HEX.out, HS2.out.mem⟩, HS2.out.chg⟩
      · have HALL : Hid (∀ j : Nat, j < k + 1 → hasB ws (placeI p 0 j) = true) := fun j hj => by
          by_cases e : j = k
          · subst e; exact hh
          · exact HK.out j (by omega)
        simp only [errP, hh] at HPKK
        generalize placeI p 0 k = ii at HWK HPKK hh
        generalize wordAt ws ii = yy at HPKK
        clear hh hk HFL HML HK HW
        go_wp2_with (first
          | (go_at_call 62; refine (HWK.out _).mono ?_; rintro e w2 ⟨rfl, hw⟩; have HS2 := Lib.hid (HS.out.on hw); clear hw HS)
          | (go_at_call 63; refine (HPKK.out _ HS2.out).mono ?_; rintro e w3 ⟨rfl, hw⟩; subst w3))
        exact ⟨⟨k + 1, by first | rfl | (congr 1), by omega, HS2, HALL⟩, by simp [intOf]; omega⟩
    · have hlt' : ¬ (k : Int) < 3 * (m : Int) := by omega
      obtain rfl : k = 3 * m := by omega
      have HOK : Hid (∀ j : Nat, j < m → okP ws p j = true) := fun j hj => by
        have h0 := HK.out (3 * j + 0) (by omega)
        have h1 := HK.out (3 * j + 1) (by omega)
        have h2 := HK.out (3 * j + 2) (by omega)
        rw [place_all] at h0 h1 h2
        simp at h0 h1 h2
        simp [okP, h0, h1, h2]
      clear hlt hk HK HW h3m
      go_wp2
      go_loopw [11] (fun vi w2 => ∃ j : Nat, vi = .int .i64 j ∧ j ≤ m ∧ Hid (Sr w w2 b g (planC a1 a2 a3 a4 p a6) (startL ws p l j) o n)) (fun vi _ => m - (intOf vi).toNat)
      case atStart => exact ⟨0, rfl, Nat.zero_le _, HS⟩
      case round =>
        clear HS p0 p1 p2 p3 p4 p5 p6 hlt'
        obtain ⟨j, rfl, hj, HS⟩ := hrel
        obtain ⟨p0, p1, p2, p3, p4, p5, p6⟩ := box6 HS.out.plan
        by_cases hlt : j < m
        · have hlt' : (j : Int) < (m : Int) := by omega
          have hpr : 0 ≤ p ∧ p ≤ 4096 := by
            have q := HOK.out j hlt
            by_cases e : 0 ≤ p ∧ p ≤ 4096
            · exact e
            · simp [okP, placeI, e, hasB] at q
          have hm256 := HML.out.2
          have e1 : wrap64 (3 * (j : Int)) = 3 * (j : Int) := Go.IntWalk.wrap64_in _ ⟨by omega, by omega⟩
          have e2 : wrap64 (p + 3 * (j : Int)) = p + 3 * (j : Int) := Go.IntWalk.wrap64_in _ ⟨by omega, by omega⟩
          have e3 : wrap64 (p + 3 * (j : Int) + 1) = p + 3 * (j : Int) + 1 := Go.IntWalk.wrap64_in _ ⟨by omega, by omega⟩
          have e4 : wrap64 (p + 3 * (j : Int) + 2) = p + 3 * (j : Int) + 2 := Go.IntWalk.wrap64_in _ ⟨by omega, by omega⟩
          obtain ⟨g2, o2, hao, hg2, hx⟩ := HFL.out wr _ HS.out j hlt
          subst hao
          have HNX : Hid (startL ws p l (j + 1) = poked (poked (poked (startL ws p l j) (p + 3 * (j : Int)) 0) (p + 3 * (j : Int) + 1) (fixB (l.getD j 0))) (p + 3 * (j : Int) + 2) 0) := by
            show _ = _
            simp [startL, laidC, placeI, hpr.1, hpr.2]
          generalize startL ws p l j = z0 at HS HNX
          generalize l.getD j 0 = x at hx HNX
          clear HFL HML hj hpr
          go_wp2_with (first
            | (go_at_call 35; refine (refBits_any _ _).mono ?_; rintro e w2 ⟨rfl, hw⟩; subst w2)
            | (go_at_call 49; refine (refPoke_any HS.out.mem _ _).mono ?_; rintro e w2 ⟨rfl, hm, hc⟩; replace HS := Lib.hid (HS.out.next hm hc); obtain ⟨p0, p1, p2, p3, p4, p5, p6⟩ := box6 HS.out.plan; clear hm hc))
          refine ⟨⟨j + 1, by first | rfl | (congr 1), by omega, ?_⟩, by simp [intOf]; omega⟩
          show Sr _ _ _ _ _ _ _ _
          rw [HNX.out]
          exact HS.out
        · have hlt' : ¬ (j : Int) < (m : Int) := by omega
          obtain rfl : j = m := by omega
          clear hlt hj
          go_wp2
          go_ret
          exact ⟨.inl ⟨rfl, HOK.out, HS.out.mem⟩, HS.out.chg⟩
theorem refStart_any (h : MemAt 92 w b g ws o n) (hf : FlAt w [b, g] ao l) (a1 a2 a3 a4 p a6 : Int) : Calls Try.prog 43 #[.pointer (some ⟨b, 0, none⟩), planV a1 a2 a3 a4 p a6, .slice ao l.length cap] w fun e w' => e = .returned (.int .i64 (startE ws p l)) ∧ MemAt 92 w' b g (startW ws p l) o n ∧ Chg b g w w' := by
  by_cases hl : 256 < l.length
  · have e1 : startE ws p l = 2 := by simp [startE, hl]
    have e2 : startW ws p l = ws := by simp [startW, e1]
    rw [e1, e2]
    exact (refStart_long a1 a2 a3 a4 p a6 hl w).mono fun e w' ⟨he, hb⟩ => ⟨he, h.on hb, ⟨hb.os, hb.tape, hb.output, hb.size, fun i hi _ _ => hb.block i hi⟩⟩
  · refine (refStart_in h hf a1 a2 a3 a4 p a6 rfl (by omega)).mono fun e w' ⟨he, hc⟩ => ?_
    rcases he with ⟨he, ha, hm⟩ | ⟨he, ⟨j, hj, hn⟩, hm⟩
    · have e1 : startE ws p l = 0 := by
        have : (List.range l.length).all (fun i => okP ws p i) = true := by
          rw [List.all_eq_true]
          exact fun j hj => ha j (List.mem_range.1 hj)
        simp only [startE, hl, this, if_false, if_true]
      rw [startW, e1, if_pos rfl]
      exact ⟨he, hm, hc⟩
    · have e1 : startE ws p l = 30 := by
        have : ¬ (List.range l.length).all (fun i => okP ws p i) = true := by
          rw [List.all_eq_true]
          intro q
          have := q j (List.mem_range.2 hj)
          rw [hn] at this
          cases this
        simp only [startE, hl, this, if_false]
        rfl
      rw [startW, e1, if_neg (by decide)]
      exact ⟨he, hm, hc⟩
end
end Go.Proofs.Ytmmijcmlnhmooaa
