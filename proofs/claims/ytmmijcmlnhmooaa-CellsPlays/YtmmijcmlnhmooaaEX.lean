import Derived.Test.YtmmijcmlnhmooaaES
import Derived.Deep.CutBlock
import Derived.Deep.DeepCutAuto
namespace Go.Proofs.Ytmmijcmlnhmooaa
open Go.ChangeShapes Go.WideShapes Go.ChangeAt Go.RowKit Num
attribute [local go_sem] run_store_float

/-- the world beside another memory, whose colour is 20 -/
structure Cl (W w : World) (bx : Nat) (col : Nat → Nat) (x : Wo) (ws : List Int) (o : Bool) (n : Int) (bo go : Nat) (wo : List Int) (oo : Bool) (no : Int) : Prop where
  pl : Play W w bx col x ws o n ws o n
  ot : MemAt 90 w bo go wo oo no
  co : col bo = 20 ∧ col go = 20
section
variable {W w w' : World} {bx : Nat} {col : Nat → Nat} {x : Wo} {ws : List Int} {o : Bool} {n : Int} {bo go : Nat} {wo : List Int} {oo : Bool} {no : Int}
theorem Cl.on (h : Cl W w bx col x ws o n bo go wo oo no) (k : Below w.heap.size w w') : Cl W w' bx col x ws o n bo go wo oo no := ⟨h.pl.on k, h.ot.on k, h.co⟩
theorem Cl.opened (h : Cl W w bx col x ws o n bo go wo oo no) : Calls Try.prog 28 #[.pointer (some ⟨bo, 0, none⟩)] w fun e w' => e = .returned (.tuple #[]) ∧ Cl W w' bx col x ws o n bo go wo true no ∧ Ch [bo, go] w w' :=
  (open_any h.ot).mono fun e w' ⟨he, hm, hc⟩ => by
    obtain ⟨a1, a2, a3, a4, a5, a6⟩ := h.pl.part (hc.ch (L := [bo, go]) (by simp) (by simp)) (fun c => c = 20) (by simp [h.co.1, h.co.2]) (by omega)
    exact ⟨he, ⟨⟨a1, h.pl.old, a2, a3 (by omega), h.pl.cx, a4 (by omega), h.pl.cm, a5 (by omega), h.pl.cd, fun i hi => (a6 i hi).1 (by omega), fun i hi => (a6 i hi).2.1 (by omega), fun i hi => (a6 i hi).2.2.1 (by omega), fun i hi => (a6 i hi).2.2.2 (by omega)⟩, hm, h.co⟩, hc.ch (by simp) (by simp)⟩
theorem Cl.stepR {i b : Nat} {r : Rd} (h : Cl W w bx col x ws o n bo go wo oo no) (hi : i < 2) (hr : x.rp i = some (b, r)) : Calls Try.prog 29 #[.pointer (some ⟨b, 0, none⟩), .pointer (some ⟨bo, 0, none⟩)] w fun e w' => ∃ f q r' oo' no', e = .returned (.tuple #[.bool f, .int .i64 q]) ∧ Cl W w' bx col { x with rp := upd x.rp i (some (b, r')) } ws o n bo go wo oo' no' ∧ Ch [bo, go, b] w w' := by
  obtain ⟨h1, hb⟩ := h.pl.rp i hi _ hr
  refine (rstep_any h.ot h1 (col_ne hb h.co.1 (by omega)) (col_ne hb h.co.2 (by omega))).mono fun e w' ⟨he, hm, hr', hc⟩ => ⟨_, _, Go.Proofs.Ytmmijcmlnhmooaa.stepR r wo oo, _, _, he, ⟨?_, hm, h.co⟩, hc⟩
  obtain ⟨a1, a2, a3, a4, a5, a6⟩ := h.pl.part hc (fun c => c = 20 ∨ c = 4 + i) (by simp [h.co.1, h.co.2, hb]) (by omega)
  refine ⟨a1, h.pl.old, a2, ?_, h.pl.cx, a4 (by omega), h.pl.cm, a5 (by omega), h.pl.cd, fun j hj => ?_, fun j hj => (a6 j hj).2.1 (by omega), fun j hj => (a6 j hj).2.2.1 (by omega), fun j hj => (a6 j hj).2.2.2 (by omega)⟩
  · rw [a3 (by omega)]
    have e : ∀ j, (upd x.rp i (some (b, Go.Proofs.Ytmmijcmlnhmooaa.stepR r wo oo)) j).map (·.1) = (x.rp j).map (·.1) := fun j => by unfold upd; split <;> first | rfl | (rename_i q; subst q; rw [hr]; rfl)
    simp only [woV, e]
  · exact upd_cases (P := RpOk w' col j) (fun e => by subst e; exact fun z ez => by injection ez with ez; subst ez; exact ⟨hr', hb⟩) (fun e => (a6 j hj).1 (by omega))
theorem Cl.stepW {i b : Nat} {t : Wt} (h : Cl W w bx col x ws o n bo go wo oo no) (hi : i < 2) (hr : x.tp i = some (b, t)) : Calls Try.prog 30 #[.pointer (some ⟨b, 0, none⟩), .pointer (some ⟨bo, 0, none⟩)] w fun e w' => ∃ f q t' wo' oo' no', e = .returned (.tuple #[.bool f, .int .i64 q]) ∧ Cl W w' bx col { x with tp := upd x.tp i (some (b, t')) } ws o n bo go wo' oo' no' ∧ Ch [bo, go, b] w w' := by
  obtain ⟨h1, hb⟩ := h.pl.tp i hi _ hr
  refine (wstep_any h.ot h1 (col_ne hb h.co.1 (by omega)) (col_ne hb h.co.2 (by omega))).mono fun e w' ⟨he, hm, hr', hc⟩ => ⟨_, _, Go.Proofs.Ytmmijcmlnhmooaa.stepW t wo oo, _, _, _, he, ⟨?_, hm, h.co⟩, hc⟩
  obtain ⟨a1, a2, a3, a4, a5, a6⟩ := h.pl.part hc (fun c => c = 20 ∨ c = 8 + i) (by simp [h.co.1, h.co.2, hb]) (by omega)
  refine ⟨a1, h.pl.old, a2, ?_, h.pl.cx, a4 (by omega), h.pl.cm, a5 (by omega), h.pl.cd, fun j hj => (a6 j hj).1 (by omega), fun j hj => (a6 j hj).2.1 (by omega), fun j hj => ?_, fun j hj => (a6 j hj).2.2.2 (by omega)⟩
  · rw [a3 (by omega)]
    have e : ∀ j, (upd x.tp i (some (b, Go.Proofs.Ytmmijcmlnhmooaa.stepW t wo oo)) j).map (·.1) = (x.tp j).map (·.1) := fun j => by unfold upd; split <;> first | rfl | (rename_i q; subst q; rw [hr]; rfl)
    simp only [woV, e]
  · exact upd_cases (P := TpOk w' col j) (fun e => by subst e; exact fun z ez => by injection ez with ez; subst ez; exact ⟨hr', hb⟩) (fun e => (a6 j hj).2.2.1 (by omega))
theorem Cl.putR {i nb : Nat} {r : Rd} (h : Cl W w bx col x ws o n bo go wo oo no) (hi : i < 2) (hr : RdAt w nb r) (hK : col nb = 0 ∧ W.heap.size ≤ nb ∧ nb < w.heap.size) : ∃ col', Cl W (w.setCell ⟨bx, 2 + i, none⟩ (.pointer (some ⟨nb, 0, none⟩))) bx col' { x with rp := upd x.rp i (some (nb, r)) } ws o n bo go wo oo no := by
  have h2 := h.pl.dyed (c := 4 + i) (K := [nb]) (by simpa using hK)
  have hch := (Ch.refl [bx] w).set (b := bx) (by simp) (2 + i) (.pointer (some ⟨nb, 0, none⟩))
  have hnb : nb ≠ bx := fun e => by have := h.pl.cx; rw [← e, hK.1] at this; omega
  have hd : ∀ y, col y ≠ 0 → paint col [nb] (4 + i) y = col y := paint_old (fun k hk => .inl (by simp at hk; subst hk; exact hK.1))
  obtain ⟨a1, a2, a3, a4, a5, a6⟩ := h2.part hch (fun c => c = 1) (by simp [h2.cx]) (by omega)
  refine ⟨paint col [nb] (4 + i), ⟨a1, h2.old, a2, ?_, h2.cx, a4 (by omega), h2.cm, a5 (by omega), h2.cd, fun j hj => ?_, fun j hj => (a6 j hj).2.1 (by omega), fun j hj => (a6 j hj).2.2.1 (by omega), fun j hj => (a6 j hj).2.2.2 (by omega)⟩, h.ot.ch hch (by simpa using col_ne h.co.1 h.pl.cx (by omega)) (by simpa using col_ne h.co.2 h.pl.cx (by omega)), by rw [hd _ (by rw [h.co.1]; omega)]; exact h.co.1, by rw [hd _ (by rw [h.co.2]; omega)]; exact h.co.2⟩
  · rw [heap_setCell_same _ _ _ _ _ _ h.pl.box]
    obtain rfl | rfl : i = 0 ∨ i = 1 := by omega
    · rfl
    · rfl
  · exact upd_cases (P := RpOk _ _ j) (fun e => by subst e; exact fun z ez => by injection ez with ez; subst ez; exact ⟨hr.ch hch (by simpa using hnb), paint_in (by simp)⟩) (fun e => (a6 j hj).1 (by omega))
theorem Cl.putT {i nb : Nat} {r : Wt} (h : Cl W w bx col x ws o n bo go wo oo no) (hi : i < 2) (hr : WtAt w nb r) (hK : col nb = 0 ∧ W.heap.size ≤ nb ∧ nb < w.heap.size) : ∃ col', Cl W (w.setCell ⟨bx, 6 + i, none⟩ (.pointer (some ⟨nb, 0, none⟩))) bx col' { x with tp := upd x.tp i (some (nb, r)) } ws o n bo go wo oo no := by
  have h2 := h.pl.dyed (c := 8 + i) (K := [nb]) (by simpa using hK)
  have hch := (Ch.refl [bx] w).set (b := bx) (by simp) (6 + i) (.pointer (some ⟨nb, 0, none⟩))
  have hnb : nb ≠ bx := fun e => by have := h.pl.cx; rw [← e, hK.1] at this; omega
  have hd : ∀ y, col y ≠ 0 → paint col [nb] (8 + i) y = col y := paint_old (fun k hk => .inl (by simp at hk; subst hk; exact hK.1))
  obtain ⟨a1, a2, a3, a4, a5, a6⟩ := h2.part hch (fun c => c = 1) (by simp [h2.cx]) (by omega)
  refine ⟨paint col [nb] (8 + i), ⟨a1, h2.old, a2, ?_, h2.cx, a4 (by omega), h2.cm, a5 (by omega), h2.cd, fun j hj => (a6 j hj).1 (by omega), fun j hj => (a6 j hj).2.1 (by omega), fun j hj => ?_, fun j hj => (a6 j hj).2.2.2 (by omega)⟩, h.ot.ch hch (by simpa using col_ne h.co.1 h.pl.cx (by omega)) (by simpa using col_ne h.co.2 h.pl.cx (by omega)), by rw [hd _ (by rw [h.co.1]; omega)]; exact h.co.1, by rw [hd _ (by rw [h.co.2]; omega)]; exact h.co.2⟩
  · rw [heap_setCell_same _ _ _ _ _ _ h.pl.box]
    obtain rfl | rfl : i = 0 ∨ i = 1 := by omega
    · rfl
    · rfl
  · exact upd_cases (P := TpOk _ _ j) (fun e => by subst e; exact fun z ez => by injection ez with ez; subst ez; exact ⟨hr.ch hch (by simpa using hnb), paint_in (by simp)⟩) (fun e => (a6 j hj).2.2.1 (by omega))
end
theorem upd_upd {A : Type} (f : Nat → A) (i : Nat) (u v : A) : upd (upd f i u) i v = upd f i v := by
  funext j
  unfold upd
  split <;> rfl
theorem Al.swapR {M : Nat × Nat} {x : Wo} {i b c : Nat} {r : Rd} (h : Al M x) (hr : x.rp i = some (b, r)) : Al M { x with rp := upd x.rp i (some (c, r)) } :=
  ⟨h.mm, fun j hj => by
    by_cases e : j = i
    · subst e
      rcases h.rd j hj with ⟨h1, _⟩ | ⟨b', D, h1, h2, h3⟩
      · rw [hr] at h1
        cases h1
      · rw [hr] at h1
        injection h1 with h1
        injection h1 with _ h1
        subst h1
        exact .inr ⟨c, D, upd_same _ _ _, h2, h3⟩
    · show (upd x.rp i _ j = none ∧ x.rd j = none) ∨ ∃ b' D', upd x.rp i _ j = _ ∧ x.rd j = _ ∧ _
      rw [upd_other _ _ e]
      exact h.rd j hj, h.wt⟩
theorem Al.swapT {M : Nat × Nat} {x : Wo} {i b c : Nat} {t : Wt} (h : Al M x) (hr : x.tp i = some (b, t)) : Al M { x with tp := upd x.tp i (some (c, t)) } :=
  ⟨h.mm, h.rd, fun j hj => by
    by_cases e : j = i
    · subst e
      rcases h.wt j hj with ⟨h1, _⟩ | ⟨b', b2, g, t', h1, h2⟩
      · rw [hr] at h1
        cases h1
      · rw [hr] at h1
        injection h1 with h1
        injection h1 with _ h1
        subst h1
        exact .inr ⟨c, b2, g, t, upd_same _ _ _, h2⟩
    · show (upd x.tp i _ j = none ∧ x.td j = none) ∨ ∃ b1 b2 g1 t1, upd x.tp i _ j = _ ∧ x.td j = _
      rw [upd_other _ _ e]
      exact h.wt j hj⟩
def Cg (W w : World) (bx bo go : Nat) (M : Nat × Nat) : Prop := ∃ col x ws o n wo oo no, Cl W w bx col x ws o n bo go wo oo no ∧ Al M x
section
variable {W w : World} {bx : Nat} {M : Nat × Nat}
set_option maxRecDepth 100000 in
set_option maxHeartbeats 8000000 in
theorem clones_any (h : Goes W w bx M) : Calls Try.prog 50 #[.pointer (some ⟨bx, 0, none⟩)] w fun e w' => e = .returned (.tuple #[]) ∧ Goes W w' bx M := by
  obtain ⟨col, x, ws, o, n, hp, ha⟩ := h
  have HP := Lib.hid hp
  have HA := Lib.hid ha
  have HCN := Lib.hid (clone_any hp.m)
  obtain ⟨⟨c0, c1, cb⟩, _⟩ := hp.cells
  clear hp ha
  go_enter Try.func50, Try.ntmps50
  go_wp2_with (go_at_call 73; refine HCN.out.mono ?_; rintro e w1 ⟨bo, rfl, hbo, hm, hb⟩; have HC : Hid (Cg W w1 bx bo w.heap.size M) := ⟨paint col [bo, w.heap.size] 20, x, ws, o, n, ws, o, n, ⟨(HP.out.on hb).dyed (by
    simp
    exact ⟨⟨HP.out.big _ hbo, Nat.le_trans HP.out.below.size hbo, hm.ltB⟩, ⟨HP.out.big _ (Nat.le_refl _), HP.out.below.size, hm.ltG⟩⟩), hm, paint_in (by simp), paint_in (by simp)⟩, HA.out⟩; clear hbo hm hb HCN)
  obtain ⟨go, hgo⟩ : ∃ go, w.heap.size = go := ⟨_, rfl⟩
  rw [hgo] at HC
  clear hgo HP HA c0 c1 cb
  go_loopw [3] (fun vi wr => ∃ k : Nat, vi = .int .i64 k ∧ k ≤ 2 ∧ Hid (Cg W wr bx bo go M)) (fun vi _ => 2 - (intOf vi).toNat)
  case atStart => exact ⟨0, rfl, by omega, HC⟩
  case round =>
    clear HC
    obtain ⟨k, rfl, hk, HR⟩ := hrel
    by_cases hlt : k < 2
    · obtain rfl | rfl : k = 0 ∨ k = 1 := by omega
      · clear hk hlt
        have HRQ := HR
        clear HR
        obtain ⟨col, x, ws, o, n, wo, oo, no, hcl, hal⟩ := HRQ.out
        obtain ⟨pp, hpp⟩ : ∃ pp, ptV ((x.rp 0).map (·.1)) = .pointer pp := ⟨_, rfl⟩
        have d0 : wr.cell? ⟨bx, 2, none⟩ = some (.pointer pp) := by rw [← hpp]; exact (hcl.pl.cells.2 0 (by omega)).1
        have d1 : bx < wr.heap.size := hcl.pl.cells.1.2.2
        go_upto_if 21 with fail
        go_cut [4] (fun _ wc => Hid (Cg W wc bx bo go M))
        case first =>
          cases hrp : x.rp 0 with
          | none =>
            rw [hrp] at hpp
            simp [ptV] at hpp
            subst hpp
            clear hcl hal hrp
            go_wp2
            go_meet
            exact HRQ
          | some q =>
            obtain ⟨b, r⟩ := q
            rw [hrp] at hpp
            simp [ptV] at hpp
            subst hpp
            have HRP := Lib.hid hrp
            have HAL := Lib.hid hal
            have HCL := Lib.hid hcl
            have HCC : Hid (∀ w' col' x' wo' oo' no', Cl W w' bx col' x' ws o n bo go wo' oo' no' → (x'.rp 0).map (·.1) = some b → w'.cell? ⟨bx, 2, none⟩ = some (.pointer (some ⟨b, 0, none⟩)) ∧ w'.frozen? ⟨bx, 2, none⟩ = false ∧ bx < w'.heap.size) := fun w' col' x' wo' oo' no' k e => by
              obtain ⟨⟨_, _, cb⟩, cc⟩ := k.pl.cells
              have c2 := (cc 0 (by omega)).1
              rw [e] at c2
              exact ⟨c2, frozen_of_row _ _ _ _ _ k.pl.box, cb⟩
            have HKN := Lib.hid (rclone_any (hcl.pl.rp 0 (by omega) _ hrp).1)
            clear hcl hal hrp HRQ
            go_wp2_with (first
              | (go_at_call 74; refine HKN.out.mono ?_; rintro e w2 ⟨nc, rfl, hnc, hrd, hb⟩; have HC2 := Lib.hid (HCL.out.on hb); have HN : Hid (RdAt w2 nc r ∧ col nc = 0 ∧ W.heap.size ≤ nc) := ⟨hrd, HCL.out.pl.big nc hnc, Nat.le_trans HCL.out.pl.below.size hnc⟩; have HNE : Hid (nc ≠ bo ∧ nc ≠ go ∧ nc ≠ b) := ⟨col_ne HN.out.2.1 HCL.out.co.1 (by omega), col_ne HN.out.2.1 HCL.out.co.2 (by omega), fun e => by have := (HCL.out.pl.rp _ (by omega) _ HRP.out).1.lt; rw [e] at hnc; simp at this; omega⟩; obtain ⟨c2, cf, cb⟩ := HCC.out _ _ _ _ _ _ HC2.out (by rw [HRP.out]; rfl); clear hnc hrd hb HCL HKN)
              | (go_at_call 28; refine HC2.out.opened.mono ?_; rintro e w3 ⟨rfl, k3, h3⟩; have HC3 := Lib.hid k3; have HN3 := Lib.hid (HN.out.1.ch h3 (by simp; exact ⟨HNE.out.1, HNE.out.2.1⟩)); obtain ⟨c2, cf, cb⟩ := HCC.out _ _ _ _ _ _ HC3.out (by rw [HRP.out]; rfl); clear k3 h3)
              | (go_at_call 29; refine (HC3.out.stepR (i := 0) (by omega) HRP.out).mono ?_; rintro e w4 ⟨f4, q4, r4, oo4, no4, rfl, k4, h4⟩; have HC4 := Lib.hid k4; have HN4 := Lib.hid (HN3.out.ch h4 (by simp; exact HNE.out)); obtain ⟨c2, cf, cb⟩ := HCC.out _ _ _ _ _ _ HC4.out (by simp [upd]); clear k4 h4))
            have HF : Hid (Cg W (w4.setCell ⟨bx, 2, none⟩ (.pointer (some ⟨nc, 0, none⟩))) bx bo go M) := by
              obtain ⟨col', hq⟩ := HC4.out.putR (i := 0) (by omega) HN4.out ⟨HN.out.2.1, HN.out.2.2, HN4.out.lt⟩
              simp only [upd_upd] at hq
              exact ⟨col', _, _, _, _, _, _, _, hq, HAL.out.swapR HRP.out⟩
            go_meet
            exact HF
        case rest =>
          clear HRQ hcl hal d0 d1 hpp
          have HRQ : Hid (Cg W wc bx bo go M) := hcut
          clear hcut
          obtain ⟨col, x, ws, o, n, wo, oo, no, hcl, hal⟩ := HRQ.out
          obtain ⟨pp, hpp⟩ : ∃ pp, ptV ((x.tp 0).map (·.1)) = .pointer pp := ⟨_, rfl⟩
          have d0 : wc.cell? ⟨bx, 6, none⟩ = some (.pointer pp) := by rw [← hpp]; exact (hcl.pl.cells.2 0 (by omega)).2.2.1
          have d1 : bx < wc.heap.size := hcl.pl.cells.1.2.2
          cases hrp : x.tp 0 with
          | none =>
            rw [hrp] at hpp
            simp [ptV] at hpp
            subst hpp
            clear hcl hal hrp
            go_wp2
            exact ⟨⟨1, rfl, by omega, HRQ⟩, by simp [intOf]⟩
          | some q =>
            obtain ⟨b, r⟩ := q
            rw [hrp] at hpp
            simp [ptV] at hpp
            subst hpp
            have HRP := Lib.hid hrp
            have HAL := Lib.hid hal
            have HCL := Lib.hid hcl
            have HCC : Hid (∀ w' col' x' wo' oo' no', Cl W w' bx col' x' ws o n bo go wo' oo' no' → (x'.tp 0).map (·.1) = some b → w'.cell? ⟨bx, 6, none⟩ = some (.pointer (some ⟨b, 0, none⟩)) ∧ w'.frozen? ⟨bx, 6, none⟩ = false ∧ bx < w'.heap.size) := fun w' col' x' wo' oo' no' k e => by
              obtain ⟨⟨_, _, cb⟩, cc⟩ := k.pl.cells
              have c2 := (cc 0 (by omega)).2.2.1
              rw [e] at c2
              exact ⟨c2, frozen_of_row _ _ _ _ _ k.pl.box, cb⟩
            have HKN := Lib.hid (wclone_any (hcl.pl.tp 0 (by omega) _ hrp).1)
            clear hcl hal hrp HRQ
            go_wp2_with (first
              | (go_at_call 75; refine HKN.out.mono ?_; rintro e w2 ⟨nc, rfl, hnc, hrd, hb⟩; have HC2 := Lib.hid (HCL.out.on hb); have HN : Hid (WtAt w2 nc r ∧ col nc = 0 ∧ W.heap.size ≤ nc) := ⟨hrd, HCL.out.pl.big nc hnc, Nat.le_trans HCL.out.pl.below.size hnc⟩; have HNE : Hid (nc ≠ bo ∧ nc ≠ go ∧ nc ≠ b) := ⟨col_ne HN.out.2.1 HCL.out.co.1 (by omega), col_ne HN.out.2.1 HCL.out.co.2 (by omega), fun e => by have := (HCL.out.pl.tp _ (by omega) _ HRP.out).1.lt; rw [e] at hnc; simp at this; omega⟩; obtain ⟨c2, cf, cb⟩ := HCC.out _ _ _ _ _ _ HC2.out (by rw [HRP.out]; rfl); clear hnc hrd hb HCL HKN)
              | (go_at_call 28; refine HC2.out.opened.mono ?_; rintro e w3 ⟨rfl, k3, h3⟩; have HC3 := Lib.hid k3; have HN3 := Lib.hid (HN.out.1.ch h3 (by simp; exact ⟨HNE.out.1, HNE.out.2.1⟩)); obtain ⟨c2, cf, cb⟩ := HCC.out _ _ _ _ _ _ HC3.out (by rw [HRP.out]; rfl); clear k3 h3)
              | (go_at_call 30; refine (HC3.out.stepW (i := 0) (by omega) HRP.out).mono ?_; rintro e w4 ⟨f4, q4, r4, wo4, oo4, no4, rfl, k4, h4⟩; have HC4 := Lib.hid k4; have HN4 := Lib.hid (HN3.out.ch h4 (by simp; exact HNE.out)); obtain ⟨c2, cf, cb⟩ := HCC.out _ _ _ _ _ _ HC4.out (by simp [upd]); clear k4 h4))
            have HF : Hid (Cg W (w4.setCell ⟨bx, 6, none⟩ (.pointer (some ⟨nc, 0, none⟩))) bx bo go M) := by
              obtain ⟨col', hq⟩ := HC4.out.putT (i := 0) (by omega) HN4.out ⟨HN.out.2.1, HN.out.2.2, HN4.out.lt⟩
              simp only [upd_upd] at hq
              exact ⟨col', _, _, _, _, _, _, _, hq, HAL.out.swapT HRP.out⟩
            exact ⟨⟨1, rfl, by omega, HF⟩, by simp [intOf]⟩
      · clear hk hlt
        have HRQ := HR
        clear HR
        obtain ⟨col, x, ws, o, n, wo, oo, no, hcl, hal⟩ := HRQ.out
        obtain ⟨pp, hpp⟩ : ∃ pp, ptV ((x.rp 1).map (·.1)) = .pointer pp := ⟨_, rfl⟩
        have d0 : wr.cell? ⟨bx, 3, none⟩ = some (.pointer pp) := by rw [← hpp]; exact (hcl.pl.cells.2 1 (by omega)).1
        have d1 : bx < wr.heap.size := hcl.pl.cells.1.2.2
        go_upto_if 21 with fail
        go_cut [4] (fun _ wc => Hid (Cg W wc bx bo go M))
        case first =>
          cases hrp : x.rp 1 with
          | none =>
            rw [hrp] at hpp
            simp [ptV] at hpp
            subst hpp
            clear hcl hal hrp
            go_wp2
            go_meet
            exact HRQ
          | some q =>
            obtain ⟨b, r⟩ := q
            rw [hrp] at hpp
            simp [ptV] at hpp
            subst hpp
            have HRP := Lib.hid hrp
            have HAL := Lib.hid hal
            have HCL := Lib.hid hcl
            have HCC : Hid (∀ w' col' x' wo' oo' no', Cl W w' bx col' x' ws o n bo go wo' oo' no' → (x'.rp 1).map (·.1) = some b → w'.cell? ⟨bx, 3, none⟩ = some (.pointer (some ⟨b, 0, none⟩)) ∧ w'.frozen? ⟨bx, 3, none⟩ = false ∧ bx < w'.heap.size) := fun w' col' x' wo' oo' no' k e => by
              obtain ⟨⟨_, _, cb⟩, cc⟩ := k.pl.cells
              have c2 := (cc 1 (by omega)).1
              rw [e] at c2
              exact ⟨c2, frozen_of_row _ _ _ _ _ k.pl.box, cb⟩
            have HKN := Lib.hid (rclone_any (hcl.pl.rp 1 (by omega) _ hrp).1)
            clear hcl hal hrp HRQ
            go_wp2_with (first
              | (go_at_call 74; refine HKN.out.mono ?_; rintro e w2 ⟨nc, rfl, hnc, hrd, hb⟩; have HC2 := Lib.hid (HCL.out.on hb); have HN : Hid (RdAt w2 nc r ∧ col nc = 0 ∧ W.heap.size ≤ nc) := ⟨hrd, HCL.out.pl.big nc hnc, Nat.le_trans HCL.out.pl.below.size hnc⟩; have HNE : Hid (nc ≠ bo ∧ nc ≠ go ∧ nc ≠ b) := ⟨col_ne HN.out.2.1 HCL.out.co.1 (by omega), col_ne HN.out.2.1 HCL.out.co.2 (by omega), fun e => by have := (HCL.out.pl.rp _ (by omega) _ HRP.out).1.lt; rw [e] at hnc; simp at this; omega⟩; obtain ⟨c2, cf, cb⟩ := HCC.out _ _ _ _ _ _ HC2.out (by rw [HRP.out]; rfl); clear hnc hrd hb HCL HKN)
              | (go_at_call 28; refine HC2.out.opened.mono ?_; rintro e w3 ⟨rfl, k3, h3⟩; have HC3 := Lib.hid k3; have HN3 := Lib.hid (HN.out.1.ch h3 (by simp; exact ⟨HNE.out.1, HNE.out.2.1⟩)); obtain ⟨c2, cf, cb⟩ := HCC.out _ _ _ _ _ _ HC3.out (by rw [HRP.out]; rfl); clear k3 h3)
              | (go_at_call 29; refine (HC3.out.stepR (i := 1) (by omega) HRP.out).mono ?_; rintro e w4 ⟨f4, q4, r4, oo4, no4, rfl, k4, h4⟩; have HC4 := Lib.hid k4; have HN4 := Lib.hid (HN3.out.ch h4 (by simp; exact HNE.out)); obtain ⟨c2, cf, cb⟩ := HCC.out _ _ _ _ _ _ HC4.out (by simp [upd]); clear k4 h4))
            have HF : Hid (Cg W (w4.setCell ⟨bx, 3, none⟩ (.pointer (some ⟨nc, 0, none⟩))) bx bo go M) := by
              obtain ⟨col', hq⟩ := HC4.out.putR (i := 1) (by omega) HN4.out ⟨HN.out.2.1, HN.out.2.2, HN4.out.lt⟩
              simp only [upd_upd] at hq
              exact ⟨col', _, _, _, _, _, _, _, hq, HAL.out.swapR HRP.out⟩
            go_meet
            exact HF
        case rest =>
          clear HRQ hcl hal d0 d1 hpp
          have HRQ : Hid (Cg W wc bx bo go M) := hcut
          clear hcut
          obtain ⟨col, x, ws, o, n, wo, oo, no, hcl, hal⟩ := HRQ.out
          obtain ⟨pp, hpp⟩ : ∃ pp, ptV ((x.tp 1).map (·.1)) = .pointer pp := ⟨_, rfl⟩
          have d0 : wc.cell? ⟨bx, 7, none⟩ = some (.pointer pp) := by rw [← hpp]; exact (hcl.pl.cells.2 1 (by omega)).2.2.1
          have d1 : bx < wc.heap.size := hcl.pl.cells.1.2.2
          cases hrp : x.tp 1 with
          | none =>
            rw [hrp] at hpp
            simp [ptV] at hpp
            subst hpp
            clear hcl hal hrp
            go_wp2
            exact ⟨⟨2, rfl, by omega, HRQ⟩, by simp [intOf]⟩
          | some q =>
            obtain ⟨b, r⟩ := q
            rw [hrp] at hpp
            simp [ptV] at hpp
            subst hpp
            have HRP := Lib.hid hrp
            have HAL := Lib.hid hal
            have HCL := Lib.hid hcl
            have HCC : Hid (∀ w' col' x' wo' oo' no', Cl W w' bx col' x' ws o n bo go wo' oo' no' → (x'.tp 1).map (·.1) = some b → w'.cell? ⟨bx, 7, none⟩ = some (.pointer (some ⟨b, 0, none⟩)) ∧ w'.frozen? ⟨bx, 7, none⟩ = false ∧ bx < w'.heap.size) := fun w' col' x' wo' oo' no' k e => by
              obtain ⟨⟨_, _, cb⟩, cc⟩ := k.pl.cells
              have c2 := (cc 1 (by omega)).2.2.1
              rw [e] at c2
              exact ⟨c2, frozen_of_row _ _ _ _ _ k.pl.box, cb⟩
            have HKN := Lib.hid (wclone_any (hcl.pl.tp 1 (by omega) _ hrp).1)
            clear hcl hal hrp HRQ
            go_wp2_with (first
              | (go_at_call 75; refine HKN.out.mono ?_; rintro e w2 ⟨nc, rfl, hnc, hrd, hb⟩; have HC2 := Lib.hid (HCL.out.on hb); have HN : Hid (WtAt w2 nc r ∧ col nc = 0 ∧ W.heap.size ≤ nc) := ⟨hrd, HCL.out.pl.big nc hnc, Nat.le_trans HCL.out.pl.below.size hnc⟩; have HNE : Hid (nc ≠ bo ∧ nc ≠ go ∧ nc ≠ b) := ⟨col_ne HN.out.2.1 HCL.out.co.1 (by omega), col_ne HN.out.2.1 HCL.out.co.2 (by omega), fun e => by have := (HCL.out.pl.tp _ (by omega) _ HRP.out).1.lt; rw [e] at hnc; simp at this; omega⟩; obtain ⟨c2, cf, cb⟩ := HCC.out _ _ _ _ _ _ HC2.out (by rw [HRP.out]; rfl); clear hnc hrd hb HCL HKN)
              | (go_at_call 28; refine HC2.out.opened.mono ?_; rintro e w3 ⟨rfl, k3, h3⟩; have HC3 := Lib.hid k3; have HN3 := Lib.hid (HN.out.1.ch h3 (by simp; exact ⟨HNE.out.1, HNE.out.2.1⟩)); obtain ⟨c2, cf, cb⟩ := HCC.out _ _ _ _ _ _ HC3.out (by rw [HRP.out]; rfl); clear k3 h3)
              | (go_at_call 30; refine (HC3.out.stepW (i := 1) (by omega) HRP.out).mono ?_; rintro e w4 ⟨f4, q4, r4, wo4, oo4, no4, rfl, k4, h4⟩; have HC4 := Lib.hid k4; have HN4 := Lib.hid (HN3.out.ch h4 (by simp; exact HNE.out)); obtain ⟨c2, cf, cb⟩ := HCC.out _ _ _ _ _ _ HC4.out (by simp [upd]); clear k4 h4))
            have HF : Hid (Cg W (w4.setCell ⟨bx, 7, none⟩ (.pointer (some ⟨nc, 0, none⟩))) bx bo go M) := by
              obtain ⟨col', hq⟩ := HC4.out.putT (i := 1) (by omega) HN4.out ⟨HN.out.2.1, HN.out.2.2, HN4.out.lt⟩
              simp only [upd_upd] at hq
              exact ⟨col', _, _, _, _, _, _, _, hq, HAL.out.swapT HRP.out⟩
            exact ⟨⟨2, rfl, by omega, HF⟩, by simp [intOf]⟩
    · obtain rfl : k = 2 := by omega
      obtain ⟨col, x, ws, o, n, wo, oo, no, hcl, hal⟩ := HR.out
      have HE : Hid (Goes W wr bx M) := ⟨col, x, ws, o, n, hcl.pl, hal⟩
      clear hcl hal HR
      go_wp2
      go_end0
      exact ⟨rfl, HE.out⟩
end
end Go.Proofs.Ytmmijcmlnhmooaa
