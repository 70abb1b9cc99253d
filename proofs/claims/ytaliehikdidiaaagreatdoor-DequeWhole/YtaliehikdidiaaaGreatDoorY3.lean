import Derived.Test.YtaliehikdidiaaaGreatDoorS2i
import Derived.Test.YtaliehikdidiaaaGreatDoorY2
import Derived.Deep.RegionLaw
namespace Go.Proofs.YtaliehikdidiaaaGreatDoor
open Go.ChangeShapes Go.WideShapes Go.ChangeAt Go.RowKit Num Go.Maps
attribute [local go_sem] run_store_float frombits_run bits_run

section
variable {w : World} {b : Nat} {F : List Nat} {m : Int} {l : Wr}
set_option maxHeartbeats 1000000 in
set_option maxRecDepth 100000 in
theorem put_old (h : Buf w b F m l) {d : Int} (hd : (Lit.int .i64 d).wf = true) (hh : hasC l d = true) (x : Nat) : Calls Tryz.prog 160 #[.pointer (some ⟨b, 0, none⟩), .int .i64 d, .float .f64 x] w fun e w' => ∃ F', e = .returned (.tuple #[.bool false, .int .i64 0]) ∧ Buf w' b F' m (putC l d (fixB x)) ∧ Turn F F' w w' := by
  obtain ⟨bm, p, c, hs, rfl⟩ := h
  have h0 := hs.cell1
  have hb := hs.ltB
  have hlk := hs.map.look hd
  rw [hh] at hlk
  have hmost := hs.most
  have hfits := hs.fits
  obtain ⟨w1, hrun, hm1, hg1⟩ := (hs.same (Same.drew w)).map.lay hd (fixB x) (by unfold maxLen; omega)
  have HF := Lib.hid ((hs.same (Same.drew w)).laid hh hm1 hg1)
  clear hs hd hh hm1 hg1 hmost hfits
  go_enter Tryz.func160, Tryz.ntmps160
  go_wp2
  go_region_with (go_at_call 83; refine (fix_any _ _).mono ?_; rintro e w' ⟨rfl, hw⟩; subst w')
  all_goals (try go_wp2)
  all_goals go_ret2
  all_goals exact ⟨_, rfl, HF.out.1.buf, ((Same.drew _).turn _).trans HF.out.2⟩
set_option maxRecDepth 100000 in
theorem put_full (h : Buf w b F m l) {d : Int} (hd : (Lit.int .i64 d).wf = true) (hh : hasC l d = false) (hf : ¬ (l.length : Int) < m) (x : Nat) : Calls Tryz.prog 160 #[.pointer (some ⟨b, 0, none⟩), .int .i64 d, .float .f64 x] w fun e w' => e = .returned (.tuple #[.bool false, .int .i64 70]) ∧ Same w w' := by
  obtain ⟨bm, p, c, hs, rfl⟩ := h
  have h0 := hs.cell1
  have h1 := hs.cell0
  have h2 := hs.cell2
  have hb := hs.ltB
  have hlk := hs.map.look hd
  rw [hh] at hlk
  have hfits := hs.fits
  have e : m = (l.length : Int) := by omega
  subst e
  clear hs hd hh hf hfits
  go_enter Tryz.func160, Tryz.ntmps160
  go_wp2
  go_quiet (fail)
  all_goals (try go_wp2)
  all_goals go_ret2
  all_goals exact ⟨rfl, by first | exact Same.refl _ | exact Same.drew _ | exact Same.drewN _ _⟩
set_option maxHeartbeats 1000000 in
set_option maxRecDepth 100000 in
theorem put_new (h : Buf w b F m l) {d : Int} (hd : (Lit.int .i64 d).wf = true) (hh : hasC l d = false) (hf : (l.length : Int) < m) (x : Nat) : Calls Tryz.prog 160 #[.pointer (some ⟨b, 0, none⟩), .int .i64 d, .float .f64 x] w fun e w' => ∃ F', e = .returned (.tuple #[.bool true, .int .i64 0]) ∧ Buf w' b F' m (putC l d (fixB x)) ∧ Turn F F' w w' := by
  obtain ⟨bm, p, c, hs, rfl⟩ := h
  have h0 := hs.cell1
  have h1 := hs.cell0
  have h2 := hs.cell2
  have hb := hs.ltB
  have hlk := hs.map.look hd
  rw [hh] at hlk
  have hne : ¬ (l.length : Int) = m := by omega
  have HLT : Hid (l.length < 32) := by have := hs.most; show _ < _; omega
  have HD : Hid ((∀ k, BufAt (w.drewN k) b bm p c m l) ∧ hasC l d = false ∧ (Lit.int .i64 d).wf = true ∧ (l.length : Int) < m) := ⟨fun k => hs.same (Same.drewN w k), hh, hd, hf⟩
  have HO : Hid (∀ u : World, u.heap = w.heap → u.ownsRow 0 3 1 (.slice p l.length c) l.length (i64s (cellsOfL l))) := fun u e => by
    have := (hs.row.keep (w' := u) ⟨by rw [e]; exact Nat.le_refl _, fun k _ => by rw [e]⟩).own
    rw [i64s_len, cells_len] at this
    exact this
  obtain ⟨i0, hi, hz0, hz1, hz2⟩ := info_parts iInfo
  have HZI := Lib.hid (And.intro hi (And.intro hz0 (And.intro hz1 hz2)))
  clear hi hz0 hz1 hz2 hs hh hd hf
  go_enter Tryz.func160, Tryz.ntmps160
  go_wp2
  go_quiet (fail)
  go_wp2_with (at_builtin; refine wpList_append_own_at _ rfl _ _ 163 rfl 0 3 i0 (.int .i64 0) 1 8 Tryz.underlying163 HZI.out.1 HZI.out.2.1 HZI.out.2.2.1 HZI.out.2.2.2 rfl (by decide) _ l.length (i64s (cellsOfL l)) rfl (World.ownsRow.alloc (HO.out _ rfl) _) ⟨w.heap.size, 0, none⟩ 1 1 [.int .i64 d] rfl rfl (cell_one_new _ _ _) (fun u hu => by simp at hu; subst hu; rfl) (by have := HLT.out; unfold maxLen; omega) (by have := HLT.out; omega) (Nat.zero_le _) ?_; intro v w3 hown hgrow hnil hloc; obtain ⟨p', c', hv, k1, k2, kf, kb, w4, hrun, hs4, ht4⟩ := (HD.out.1 _).more hown hgrow hloc HD.out.2.1 HD.out.2.2.1 HD.out.2.2.2 (fixB x); subst hv; have HS4 := Lib.hid (And.intro hs4 ht4); clear hown hgrow hnil hloc hs4 ht4)
  go_region_with (go_at_call 83; refine (fix_any _ _).mono ?_; rintro e w' ⟨rfl, hw⟩; subst w')
  all_goals (try go_wp2)
  all_goals go_ret2
  all_goals exact ⟨_, rfl, HS4.out.1.buf, ((Same.drewN _ _).turn _).trans HS4.out.2⟩
theorem put_any (h : Buf w b F m l) {d : Int} (hd : (Lit.int .i64 d).wf = true) (x : Nat) : Calls Tryz.prog 160 #[.pointer (some ⟨b, 0, none⟩), .int .i64 d, .float .f64 x] w fun e w' => ∃ F', e = .returned (.tuple #[.bool (putF m l d), .int .i64 (putE m l d)]) ∧ Buf w' b F' m (putL m l d x) ∧ Turn F F' w w' := by
  unfold putF putE putL mayP
  cases hh : hasC l d
  · by_cases hf : (l.length : Int) < m
    · simp only [hf]
      exact put_new h hd hh hf x
    · simp only [hf]
      exact (put_full h hd hh hf x).mono fun e w' ⟨a1, a2⟩ => ⟨_, a1, h.same a2, a2.turn _⟩
  · exact put_old h hd hh x
end
end Go.Proofs.YtaliehikdidiaaaGreatDoor
