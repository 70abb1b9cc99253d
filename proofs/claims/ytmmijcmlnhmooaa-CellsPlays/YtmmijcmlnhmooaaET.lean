import Derived.Test.YtmmijcmlnhmooaaES
namespace Go.Proofs.Ytmmijcmlnhmooaa
open Go.ChangeShapes Go.WideShapes Go.ChangeAt Go.RowKit Num
attribute [local go_sem] run_store_float

section
variable {W w : World} {bx : Nat} {M : Nat × Nat}
/-- the write i of both -/
structure Ws (W w : World) (bx i b b' g : Nat) (t t' : Wt) (x : Wo) (col : Nat → Nat) (ws : List Int) (o : Bool) (n : Int) (ws' : List Int) (o' : Bool) (n' : Int) : Prop where
  pl : Play W w bx col x ws o n ws' o' n'
  hi : i < 2
  hr : x.tp i = some (b, t)
  hd : x.td i = some (b', g, t')
section
variable {i b b' g : Nat} {t t' : Wt} {x : Wo} {col : Nat → Nat} {ws ws' : List Int} {o o' : Bool} {n n' : Int}
theorem Ws.stepW (h : Ws W w bx i b b' g t t' x col ws o n ws' o' n') : Calls Try.prog 30 #[.pointer (some ⟨b, 0, none⟩), .pointer (some ⟨x.bm, 0, none⟩)] w fun e w' => e = .returned (.tuple #[.bool (endW t ws o), .int .i64 (errW t ws o)]) ∧ Ws W w' bx i b b' g (Go.Proofs.Ytmmijcmlnhmooaa.stepW t ws o) t' { x with tp := upd x.tp i (some (b, Go.Proofs.Ytmmijcmlnhmooaa.stepW t ws o)) } col (laidW t ws o) (aftO (errW t ws o) o) (aftN (errW t ws o) n) ws' o' n' := by
  obtain ⟨h1, h2⟩ := h.pl.tp i h.hi _ h.hr
  exact (wstep_any h.pl.m h1 (col_ne h2 h.pl.cm.1 (by omega)) (col_ne h2 h.pl.cm.2 (by omega))).mono fun e w' ⟨he, hm, hr, hc⟩ => ⟨he, h.pl.stepW h.hi h.hr hm hr hc, h.hi, upd_same _ _ _, h.hd⟩
theorem Ws.stepE (h : Ws W w bx i b b' g t t' x col ws o n ws' o' n') : Calls Try.prog 72 #[.pointer (some ⟨b', 0, none⟩), .pointer (some ⟨x.bd, 0, none⟩)] w fun e w' => e = .returned (.tuple #[.bool (endW t' ws' o'), .int .i64 (errW t' ws' o')]) ∧ Ws W w' bx i b b' g t (Go.Proofs.Ytmmijcmlnhmooaa.stepW t' ws' o') { x with td := upd x.td i (some (b', g, Go.Proofs.Ytmmijcmlnhmooaa.stepW t' ws' o')) } col ws o n (laidW t' ws' o') (aftO (errW t' ws' o') o') (aftN (errW t' ws' o') n') := by
  obtain ⟨h1, h2, h3⟩ := h.pl.td i h.hi _ h.hd
  exact (estep_any h.pl.d h1 (col_ne h2 h.pl.cd.1 (by omega)) (col_ne h2 h.pl.cd.2 (by omega)) (col_ne h3 h.pl.cd.1 (by omega)) (col_ne h3 h.pl.cd.2 (by omega))).mono fun e w' ⟨he, hm, hr, hc⟩ => ⟨he, h.pl.stepE h.hi h.hd hm hr hc, h.hi, h.hr, upd_same _ _ _⟩
theorem Ws.on {w' : World} (h : Ws W w bx i b b' g t t' x col ws o n ws' o' n') (k : Below w.heap.size w w') : Ws W w' bx i b b' g t t' x col ws o n ws' o' n' := ⟨h.pl.on k, h.hi, h.hr, h.hd⟩
theorem Ws.cells (h : Ws W w bx i b b' g t t' x col ws o n ws' o' n') : (w.cell? ⟨bx, 0, none⟩ = some (.pointer (some ⟨x.bm, 0, none⟩)) ∧ w.cell? ⟨bx, 1, none⟩ = some (.pointer (some ⟨x.bd, 0, none⟩)) ∧ bx < w.heap.size) ∧ w.cell? ⟨bx, 6 + i, none⟩ = some (.pointer (some ⟨b, 0, none⟩)) ∧ w.cell? ⟨bx, 8 + i, none⟩ = some (.pointer (some ⟨b', 0, none⟩)) := h.pl.atW h.hi h.hr h.hd
end
set_option maxRecDepth 100000 in
set_option maxHeartbeats 4000000 in
theorem writes_any (h : Goes W w bx M) {i : Nat} (hi : i < 2) : Calls Try.prog 48 #[.pointer (some ⟨bx, 0, none⟩), .int .i64 (i : Int)] w fun e w' => e = .returned (.bool true) ∧ Goes W w' bx M := by
  have HG := Lib.hid h
  obtain ⟨col, x, ws, o, n, hp, ha⟩ := h
  rcases ha.wt i hi with ⟨h1, h2⟩ | ⟨b, b', g, t, h1, h2⟩
  · obtain ⟨⟨c0, c1, cb⟩, cc⟩ := hp.cells
    obtain ⟨_, _, c2, _⟩ := cc i hi
    rw [h1] at c2
    replace c2 : w.cell? ⟨bx, 6 + i, none⟩ = some (.pointer none) := c2
    clear hp ha h1 h2 cc
    obtain rfl | rfl : i = 0 ∨ i = 1 := by omega
    · go_enter Try.func48, Try.ntmps48
      go_wp2
      go_ret
      exact ⟨rfl, HG.out⟩
    · go_enter Try.func48, Try.ntmps48
      go_wp2
      go_ret
      exact ⟨rfl, HG.out⟩
  · have HR : Hid (Ws W w bx i b b' g t t x col ws o n ws o n) := ⟨hp, hi, h1, h2⟩
    have HA := Lib.hid ha
    have HS1 := Lib.hid (fun (u : World) (k : Below w.heap.size w u) => (HR.out.on k).stepW)
    have HS2 : Hid (∀ w', Ws W w' bx i b b' g (stepW t ws o) t { x with tp := upd x.tp i (some (b, stepW t ws o)) } col (laidW t ws o) (aftO (errW t ws o) o) (aftN (errW t ws o) n) ws o n → Calls Try.prog 72 #[.pointer (some ⟨b', 0, none⟩), .pointer (some ⟨x.bd, 0, none⟩)] w' fun e w'' => e = .returned (.tuple #[.bool (endW t ws o), .int .i64 (errW t ws o)]) ∧ Ws W w'' bx i b b' g (stepW t ws o) (stepW t ws o) { x with tp := upd x.tp i (some (b, stepW t ws o)), td := upd x.td i (some (b', g, stepW t ws o)) } col (laidW t ws o) (aftO (errW t ws o) o) (aftN (errW t ws o) n) (laidW t ws o) (aftO (errW t ws o) o) (aftN (errW t ws o) n)) := fun w' k => k.stepE
    have HEND : Hid (∀ w', Ws W w' bx i b b' g (stepW t ws o) (stepW t ws o) { x with tp := upd x.tp i (some (b, stepW t ws o)), td := upd x.td i (some (b', g, stepW t ws o)) } col (laidW t ws o) (aftO (errW t ws o) o) (aftN (errW t ws o) n) (laidW t ws o) (aftO (errW t ws o) o) (aftN (errW t ws o) n) → Goes W w' bx M) := fun w' k => ⟨col, _, _, _, _, k.pl, HA.out.writeTo⟩
    have HCS : Hid (∀ w' t1 t2 x' ws1 o1 n1 ws2 o2 n2, Ws W w' bx i b b' g t1 t2 x' col ws1 o1 n1 ws2 o2 n2 → x'.bm = x.bm → x'.bd = x.bd → (w'.cell? ⟨bx, 0, none⟩ = some (.pointer (some ⟨x.bm, 0, none⟩)) ∧ w'.cell? ⟨bx, 1, none⟩ = some (.pointer (some ⟨x.bd, 0, none⟩)) ∧ bx < w'.heap.size) ∧ w'.cell? ⟨bx, 6 + i, none⟩ = some (.pointer (some ⟨b, 0, none⟩)) ∧ w'.cell? ⟨bx, 8 + i, none⟩ = some (.pointer (some ⟨b', 0, none⟩))) := fun w' t1 t2 x' ws1 o1 n1 ws2 o2 n2 k e2 e3 => by
      have q := k.cells
      rw [e2, e3] at q
      exact q
    obtain ⟨⟨c0, c1, cb⟩, c2, c4⟩ := HR.out.cells
    clear hp ha h1 h2
    generalize endW t ws o = f at HS1 HS2
    generalize stepW t ws o = r' at HS1 HS2 HEND
    generalize laidW t ws o = yy at HS1 HS2 HEND
    generalize aftO (errW t ws o) o = oo at HS1 HS2 HEND
    generalize aftN (errW t ws o) n = nn at HS1 HS2 HEND
    generalize errW t ws o = ee at HS1 HS2
    obtain rfl | rfl : i = 0 ∨ i = 1 := by omega
    · simp at c2 c4
      go_enter Try.func48, Try.ntmps48
      go_wp2
      go_region_held (fun u => u.cell? ⟨bx, 0, none⟩ = some (.pointer (some ⟨x.bm, 0, none⟩)) ∧ u.cell? ⟨bx, 1, none⟩ = some (.pointer (some ⟨x.bd, 0, none⟩)) ∧ u.cell? ⟨bx, 6, none⟩ = some (.pointer (some ⟨b, 0, none⟩)) ∧ u.cell? ⟨bx, 8, none⟩ = some (.pointer (some ⟨b', 0, none⟩))) (go_keep) (first
        | (go_at_call 30; refine (HS1.out _ (by repeat (first | exact Below.refl _ _ | refine bl_drew ?_ | refine bl_drewN _ ?_ | refine bl_alloc ?_ _ | refine bl_setCell ?_ (by simp) _ _ | refine bl_setRow ?_ (by simp) _))).mono ?_; rintro e w1 ⟨rfl, k⟩; have HK := Lib.hid k; obtain ⟨⟨c0, c1, cb⟩, c2, c4⟩ := HCS.out _ _ _ _ _ _ _ _ _ _ k rfl rfl; simp at c2 c4; clear k HS1)
        | (go_at_call 72; refine (HS2.out _ (HK.out.on (by repeat (first | exact Below.refl _ _ | refine bl_drew ?_ | refine bl_drewN _ ?_ | refine bl_alloc ?_ _ | refine bl_setCell ?_ (by simp) _ _ | refine bl_setRow ?_ (by simp) _)))).mono ?_; rintro e w2 ⟨rfl, k⟩; have HK2 := Lib.hid k; obtain ⟨⟨c0, c1, cb⟩, c2, c4⟩ := HCS.out _ _ _ _ _ _ _ _ _ _ k rfl rfl; simp at c2 c4; clear k HS2 HK))
      go_wp2
      go_region_held (fun u => u.cell? ⟨bx, 0, none⟩ = some (.pointer (some ⟨x.bm, 0, none⟩)) ∧ u.cell? ⟨bx, 1, none⟩ = some (.pointer (some ⟨x.bd, 0, none⟩)) ∧ u.cell? ⟨bx, 6, none⟩ = some (.pointer (some ⟨b, 0, none⟩)) ∧ u.cell? ⟨bx, 8, none⟩ = some (.pointer (some ⟨b', 0, none⟩))) (go_keep) (first
        | (go_at_call 30; refine (HS1.out _ (by repeat (first | exact Below.refl _ _ | refine bl_drew ?_ | refine bl_drewN _ ?_ | refine bl_alloc ?_ _ | refine bl_setCell ?_ (by simp) _ _ | refine bl_setRow ?_ (by simp) _))).mono ?_; rintro e w1 ⟨rfl, k⟩; have HK := Lib.hid k; obtain ⟨⟨c0, c1, cb⟩, c2, c4⟩ := HCS.out _ _ _ _ _ _ _ _ _ _ k rfl rfl; simp at c2 c4; clear k HS1)
        | (go_at_call 72; refine (HS2.out _ (HK.out.on (by repeat (first | exact Below.refl _ _ | refine bl_drew ?_ | refine bl_drewN _ ?_ | refine bl_alloc ?_ _ | refine bl_setCell ?_ (by simp) _ _ | refine bl_setRow ?_ (by simp) _)))).mono ?_; rintro e w2 ⟨rfl, k⟩; have HK2 := Lib.hid k; obtain ⟨⟨c0, c1, cb⟩, c2, c4⟩ := HCS.out _ _ _ _ _ _ _ _ _ _ k rfl rfl; simp at c2 c4; clear k HS2 HK))
      go_wp2
      go_ret
      exact ⟨by simp, HEND.out _ (HK2.out.on (by repeat (first | exact Below.refl _ _ | refine bl_drew ?_ | refine bl_drewN _ ?_ | refine bl_alloc ?_ _ | refine bl_setCell ?_ (by simp) _ _ | refine bl_setRow ?_ (by simp) _)))⟩
    · simp at c2 c4
      go_enter Try.func48, Try.ntmps48
      go_wp2
      go_region_held (fun u => u.cell? ⟨bx, 0, none⟩ = some (.pointer (some ⟨x.bm, 0, none⟩)) ∧ u.cell? ⟨bx, 1, none⟩ = some (.pointer (some ⟨x.bd, 0, none⟩)) ∧ u.cell? ⟨bx, 7, none⟩ = some (.pointer (some ⟨b, 0, none⟩)) ∧ u.cell? ⟨bx, 9, none⟩ = some (.pointer (some ⟨b', 0, none⟩))) (go_keep) (first
        | (go_at_call 30; refine (HS1.out _ (by repeat (first | exact Below.refl _ _ | refine bl_drew ?_ | refine bl_drewN _ ?_ | refine bl_alloc ?_ _ | refine bl_setCell ?_ (by simp) _ _ | refine bl_setRow ?_ (by simp) _))).mono ?_; rintro e w1 ⟨rfl, k⟩; have HK := Lib.hid k; obtain ⟨⟨c0, c1, cb⟩, c2, c4⟩ := HCS.out _ _ _ _ _ _ _ _ _ _ k rfl rfl; simp at c2 c4; clear k HS1)
        | (go_at_call 72; refine (HS2.out _ (HK.out.on (by repeat (first | exact Below.refl _ _ | refine bl_drew ?_ | refine bl_drewN _ ?_ | refine bl_alloc ?_ _ | refine bl_setCell ?_ (by simp) _ _ | refine bl_setRow ?_ (by simp) _)))).mono ?_; rintro e w2 ⟨rfl, k⟩; have HK2 := Lib.hid k; obtain ⟨⟨c0, c1, cb⟩, c2, c4⟩ := HCS.out _ _ _ _ _ _ _ _ _ _ k rfl rfl; simp at c2 c4; clear k HS2 HK))
      go_wp2
      go_region_held (fun u => u.cell? ⟨bx, 0, none⟩ = some (.pointer (some ⟨x.bm, 0, none⟩)) ∧ u.cell? ⟨bx, 1, none⟩ = some (.pointer (some ⟨x.bd, 0, none⟩)) ∧ u.cell? ⟨bx, 7, none⟩ = some (.pointer (some ⟨b, 0, none⟩)) ∧ u.cell? ⟨bx, 9, none⟩ = some (.pointer (some ⟨b', 0, none⟩))) (go_keep) (first
        | (go_at_call 30; refine (HS1.out _ (by repeat (first | exact Below.refl _ _ | refine bl_drew ?_ | refine bl_drewN _ ?_ | refine bl_alloc ?_ _ | refine bl_setCell ?_ (by simp) _ _ | refine bl_setRow ?_ (by simp) _))).mono ?_; rintro e w1 ⟨rfl, k⟩; have HK := Lib.hid k; obtain ⟨⟨c0, c1, cb⟩, c2, c4⟩ := HCS.out _ _ _ _ _ _ _ _ _ _ k rfl rfl; simp at c2 c4; clear k HS1)
        | (go_at_call 72; refine (HS2.out _ (HK.out.on (by repeat (first | exact Below.refl _ _ | refine bl_drew ?_ | refine bl_drewN _ ?_ | refine bl_alloc ?_ _ | refine bl_setCell ?_ (by simp) _ _ | refine bl_setRow ?_ (by simp) _)))).mono ?_; rintro e w2 ⟨rfl, k⟩; have HK2 := Lib.hid k; obtain ⟨⟨c0, c1, cb⟩, c2, c4⟩ := HCS.out _ _ _ _ _ _ _ _ _ _ k rfl rfl; simp at c2 c4; clear k HS2 HK))
      go_wp2
      go_ret
      exact ⟨by simp, HEND.out _ (HK2.out.on (by repeat (first | exact Below.refl _ _ | refine bl_drew ?_ | refine bl_drewN _ ?_ | refine bl_alloc ?_ _ | refine bl_setCell ?_ (by simp) _ _ | refine bl_setRow ?_ (by simp) _)))⟩
end
end Go.Proofs.Ytmmijcmlnhmooaa
