import Derived.Test.YtninicfnhoediaaGreatDoorJ2
namespace Go.Proofs.YtninicfnhoediaaGreatDoor.Rr
open Go.ChangeShapes Go.WideShapes Go.ChangeAt Go.RowKit Num
section
variable {W w : World} {bx : Nat} {z : Rz} {mb mg : Nat} {x : Rx} {ws : List Int} {o : Bool} {n : Int} {bd : Nat} {zd : Dz} {bw gw : Nat} {xd : Rx} {wd : List Int} {nd : Int}
theorem Both.deedF (h : Both W w bx z mb mg x ws o n bd zd bw gw xd wd nd) (hI : In0 x) {tg st : Int} {na : Nat} {m : Mac} {mk e0 e1 e2 : Int} {args : List Nat} (ht : x.tag = tg) (hst : x.steps = st) (har : x.args = args) (hna : args.length = na) (hm : x.m = m) (hk : markV x = mk) (h0 : endI x m.how = e0) (h1 : endI x m.cod = e1) (h2 : endI x m.err = e2) : Calls Tryz.prog 20 #[.pointer (some ⟨bx, 0, none⟩)] w fun r w' => ∃ D, r = .returned (.agg (dC tg na m D mk e0 e1 e2 st)) ∧ DdAt w' w.heap.size D args m ∧ Below w.heap.size w w' := by
  obtain ⟨q, F, r, k⟩ := h.raw
  subst ht hst har
  exact Deed_any k hI hna hm hk h0 h1 h2
theorem Both.ddeed (h : Both W w bx z mb mg x ws o n bd zd bw gw xd wd nd) (hI : In0 xd) {tg st : Int} {na : Nat} {m : Mac} {mk e0 e1 e2 : Int} {args : List Nat} (ht : xd.tag = tg) (hst : xd.steps = st) (har : xd.args = args) (hna : args.length = na) (hm : xd.m = m) (hk : markV xd = mk) (h0 : endI xd m.how = e0) (h1 : endI xd m.cod = e1) (h2 : endI xd m.err = e2) : Calls Tryz.prog 21 #[.pointer (some ⟨bd, 0, none⟩)] w fun r w' => ∃ D, r = .returned (.agg (dC tg na m D mk e0 e1 e2 st)) ∧ DdIn w' D args m ∧ Below w.heap.size w w' := by
  obtain ⟨q, k⟩ := h.draw
  subst ht hst har
  refine (ddeed_any k hI.part.1 hna hm hk h0 h1 h2).mono ?_
  rintro r w' ⟨rfl, q2⟩
  subst hm
  exact ⟨_, rfl, k.ddIn.on q2, q2⟩
theorem Both.phase (h : Both W w bx z mb mg x ws o n bd zd bw gw xd wd nd) : Calls Tryz.prog 18 #[.pointer (some ⟨bx, 0, none⟩)] w fun r w' => r = .returned (.int .i64 (x.part : Int)) ∧ w' = w := by
  obtain ⟨q, F, r, k⟩ := h.raw
  exact phase_raw k
theorem Both.dpart (h : Both W w bx z mb mg x ws o n bd zd bw gw xd wd nd) : w.cell? ⟨bd, 10, none⟩ = some (.int .i64 (xd.part : Int)) ∧ bd < w.heap.size := by
  obtain ⟨q, k⟩ := h.draw
  exact ⟨(k.cell 10).trans rfl, k.ltB⟩
theorem Both.great (h : Both W w bx z mb mg x ws o n bd zd bw gw xd wd nd) {g : Bool} (hg : greatB xd = g) : Calls Tryz.prog 16 #[.pointer (some ⟨bd, 0, none⟩)] w fun r w' => r = .returned (.bool g) ∧ w' = w := by
  obtain ⟨q, k⟩ := h.draw
  subst hg
  exact great_any k
theorem Both.sameW (h : Both W w bx z mb mg x ws o n bd zd bw gw xd ws n) : Calls Tryz.prog 17 #[.pointer (some ⟨mb, 0, none⟩), .pointer (some ⟨bw, 0, none⟩)] w fun r w' => r = .returned (.bool true) ∧ Below w.heap.size w w' := sameWords_any h.mem h.words rfl
/-- a step of both, at its end too -/
theorem both_two (hs : Shaped5 W) (hI : InX x) (hl : plW x ≤ (ws.length : Int)) (hW : okW ws) (o : Bool) (n : Int) : ∃ y ws2 o2 n2 ov er,
    (∀ u, Both W u bx z mb mg x ws o n bd zd bw gw x ws n → Calls Tryz.prog 14 #[.pointer (some ⟨bx, 0, none⟩), .pointer (some ⟨mb, 0, none⟩)] u fun r w' => r = .returned (.tuple #[.bool ov, .int .i64 er]) ∧ Both W w' bx z mb mg y ws2 o2 n2 bd zd bw gw x ws n) ∧
    (∀ u, Both W u bx z mb mg y ws2 o2 n2 bd zd bw gw x ws n → Calls Tryz.prog 15 #[.pointer (some ⟨bd, 0, none⟩), .pointer (some ⟨bw, 0, none⟩)] u fun r w' => r = .returned (.tuple #[.bool ov, .int .i64 er]) ∧ Both W w' bx z mb mg y ws2 o2 n2 bd zd bw gw y ws2 n2) ∧
    InX y ∧ Alike x y ∧ okW ws2 ∧ ws2.length = ws.length ∧ ((er = 0 ∧ x.part ≠ 4 ∧ y.steps = x.steps + 1 ∧ ov = decide ((y.part : Int) = 4)) ∨ (er = 3 ∧ x.part = 4 ∧ y = x ∧ ov = false)) := by
  by_cases hp : x.part = 4
  · exact ⟨x, ws, o, n, false, 3, fun u q => q.over hl hp, fun u q => q.dover hl hp, hI, Alike.refl x, hW, rfl, .inr ⟨rfl, hp, rfl, rfl⟩⟩
  · obtain ⟨y, ws2, ac, hy⟩ : ∃ y ws2 ac, stepX x ws = (y, ws2, ac) := ⟨_, _, _, rfl⟩
    obtain ⟨k1, k2, k3, k4, k5⟩ := step_in hI hp hW
    rw [hy] at k1 k2 k3 k4 k5
    exact ⟨y, ws2, !ac, _, _, 0, fun u q => q.step hs hI hp hl hW hy rfl rfl, fun u q => q.dstep hI hp hl hW hy rfl rfl, k1, k2, k4, k5, .inl ⟨rfl, hp, k3, rfl⟩⟩
end
/-- both in the midst, or over -/
structure StI (x0 x : Rx) (ws : List Int) (N i : Nat) : Prop where
  inx : InX x
  al : Alike x0 x
  ok : okW ws
  len : ws.length = N
  st : x.part ≠ 4 → x.steps = i
  ov : x.part = 4 → (i : Int) ≤ 4 * x0.m.fuel + 5
theorem StI.bound {x0 x : Rx} {ws : List Int} {N i : Nat} (h : StI x0 x ws N i) : (i : Int) ≤ 4 * x0.m.fuel + 5 := by
  by_cases q : x.part = 4
  · exact h.ov q
  · have := h.inx.few_steps.1
    rw [h.st q, h.al.fuel] at this
    exact this
theorem StI.next {x0 x y : Rx} {ws ws2 : List Int} {N i : Nat} (h : StI x0 x ws N i) (k1 : InX y) (k2 : Alike x y) (k3 : okW ws2) (k4 : ws2.length = ws.length) (hp : x.part ≠ 4) (hs : y.steps = x.steps + 1) : StI x0 y ws2 N (i + 1) := by
  have e : y.steps = ((i + 1 : Nat) : Int) := by rw [hs, h.st hp]; rfl
  refine ⟨k1, h.al.trans k2, k3, k4.trans h.len, fun _ => e, fun _ => ?_⟩
  have := k1.few_steps.1
  rw [e, (h.al.trans k2).fuel] at this
  exact this
/-- what a deed tells, in letters -/
theorem few_lists {x : Rx} (h : In0 x) : x.args.length ≤ 9223372036854775807 ∧ x.m.reads.length ≤ 9223372036854775807 ∧ x.m.buf.length ≤ 9223372036854775807 ∧ x.m.out.length ≤ 9223372036854775807 := by
  have h1 := h.few
  have h2 := h.inv.reads
  have h3 := h.inv.used
  have h4 := h.inv.fuel
  have h5 := h.inv.out
  have h6 := h.inv.few
  have h7 := h.inv.wmax
  have h8 : (x.m.reads.length : Int) ≤ 1024 := by split at h2 <;> omega
  omega
section
variable {W : World} {a b c e th t : Int} {ao : Option Addr} {cs : List Ins} {n cap : Nat} {po : Option Addr} {l : List Nat} {k co : Nat} {pw : Option Addr} {lw : List Int} {kw cw : Nat} {pp : Option Addr} {lp : List (Int × Int)} {kp cp : Nat}
set_option maxRecDepth 100000 in
set_option maxHeartbeats 4000000 in
theorem steps (h : RideAll W cs l ao po n k lw pw kw lp pp kp) : Calls Tryz.prog 3 #[.agg (rideV a b c e th t ao n cap po k co pw kw cw pp kp cp)] W fun r w' => r = .returned (.bool true) ∧ Below W.heap.size W w' := by
  obtain ⟨w1, hw1⟩ : ∃ w1, w1 = (W.alloc (.cells (rideV a b c e th t ao n cap po k co pw kw cw pp kp cp) 31)) := ⟨_, rfl⟩
  have H0 : Hid (Below W.heap.size W w1 ∧ w1.heap[W.heap.size]? = some (.cells (rideV a b c e th t ao n cap po k co pw kw cw pp kp cp) 31 (0, 0))) := by rw [hw1]; exact ⟨below_alloc _ _, heap_alloc_new _ _⟩
  have HL : Hid (Calls Tryz.prog 9 #[] w1 fun e w' => e = .returned (.bool true) ∧ Below w1.heap.size w1 w') := live_any (h.at_.sh.on H0.out.1)
  have HG : Hid (∀ u, Below w1.heap.size w1 u → Calls Tryz.prog 10 #[.agg (rideV a b c e th t ao n cap po k co pw kw cw pp kp cp)] u fun r w' => ∃ q1 q2, r = .returned (.tuple #[.pointer q1, .pointer q2]) ∧ Hid ((mayX a b c e k th = true ∧ ∃ bx bd, q1 = some ⟨bx, 0, none⟩ ∧ q2 = some ⟨bd, 0, none⟩ ∧ Bgn u w' bx bd (newX a b c e t cs l th) ao cs) ∨ (mayX a b c e k th = false ∧ q1 = none ∧ q2 = none ∧ Below u.heap.size u w'))) := fun u q => begun_any ((h.at_.on H0.out.1).on q)
  have HX := Lib.hid (h.on H0.out.1)
  have HRC : Hid (∀ u, Below w1.heap.size w1 u → u.cell? ⟨W.heap.size, 0, none⟩ = some (.int .i64 a) ∧ u.cell? ⟨W.heap.size, 1, none⟩ = some (.int .i64 b) ∧ u.cell? ⟨W.heap.size, 2, none⟩ = some (.int .i64 c) ∧ u.cell? ⟨W.heap.size, 3, none⟩ = some (.int .i64 e) ∧ u.cell? ⟨W.heap.size, 4, none⟩ = some (.int .i64 th) ∧ u.cell? ⟨W.heap.size, 5, none⟩ = some (.int .i64 t) ∧ u.cell? ⟨W.heap.size, 6, none⟩ = some (.slice ao n cap) ∧ u.cell? ⟨W.heap.size, 7, none⟩ = some (.slice po k co) ∧ u.cell? ⟨W.heap.size, 8, none⟩ = some (.slice pw kw cw) ∧ u.cell? ⟨W.heap.size, 9, none⟩ = some (.slice pp kp cp) ∧ W.heap.size < u.heap.size) := fun u q => ride_cells ((q.block _ (lt_of_block H0.out.2)).trans H0.out.2)
  clear h
  go_enter Tryz.func3, Tryz.ntmps3
  go_upto_region 3 with (first
    | (go_at_call 10; refine (HG.out _ H1.out).mono ?_; rintro r u2 ⟨q1, q2, rfl, H2⟩; clear HG)
    | (go_at_call 9; try simp only [← hw1]; refine HL.out.mono ?_; rintro r u1 ⟨rfl, q⟩; have H1 := Lib.hid q; obtain ⟨x0, x1, x2, x3, x4, x5, x6, x7, x8, x9, xb⟩ := HRC.out _ q; clear q HL))
  clear x0 x1 x2 x3 x4 x5 x6 x7 x8 x9 xb hw1
  rcases H2.out with ⟨hm, bx, bd, rfl, rfl, hB⟩ | ⟨hm, rfl, rfl, hB⟩
  rotate_left
  · have HB := Lib.hid (H0.out.1.trans ((H1.out.trans (hB.mono H1.out.size)).mono H0.out.1.size))
    clear hB H2
    go_wp2_with fail
    go_ret
    exact ⟨rfl, HB.out⟩
  have HI := Lib.hid (HX.out.at_.inX (t := t) hm)
  have hcf : Md.cfgB a b c e = true := by simp only [mayX, Bool.and_eq_true] at hm; exact hm.1.1
  obtain ⟨N, hN⟩ : ∃ N : Nat, 3 + b + 3 * a = (N : Int) := ⟨(3 + b + 3 * a).toNat, by have := Md.cfgB_iff.1 hcf; omega⟩
  have N1 : 1 ≤ N := by have := Md.cfgB_iff.1 hcf; omega
  have HFU : Hid (1 ≤ c ∧ c ≤ 100000) := by have := Md.cfgB_iff.1 hcf; exact ⟨by omega, by omega⟩
  have HB2 : Hid (Below w1.heap.size w1 u2) := H1.out.trans (hB.bl.mono H1.out.size)
  have HLA : Hid (Calls Tryz.prog 11 #[cfgV a b c e, .slice pw kw cw] u2 fun r w' => ∃ mb bw, r = .returned (.tuple #[.pointer (some ⟨mb, 0, none⟩), .pointer (some ⟨bw, 0, none⟩)]) ∧ Hid (∃ mg gw ws, Laid u2 w' N mb mg bw gw ws)) := laid_any hcf ((HX.out.on HB2.out).words) HX.out.wl HX.out.wx HX.out.wb hN
  have HBG := Lib.hid hB
  obtain ⟨x0, x1, x2, x3, x4, x5, x6, x7, x8, x9, xb⟩ := HRC.out _ HB2.out
  clear H2 hB
  go_upto_region 8 with (go_at_call 11; refine HLA.out.mono ?_; rintro r u3 ⟨mb, bw, rfl, H3⟩; clear HLA)
  have HN : Hid (3 + b + 3 * a = (N : Int)) := hN
  have HBO : Hid (∃ mg gw ws z zd, ws.length = N ∧ okW ws ∧ zd.cs = cs ∧ Both w1 u3 bx z mb mg (newX a b c e t cs l th) ws false 0 bd zd bw gw (newX a b c e t cs l th) ws 0) := by
    obtain ⟨mg, gw, ws, q⟩ := H3.out
    obtain ⟨z, zd, k1, k2⟩ := both_new H1.out HBG.out (by show (-1 : Int) < 0; omega) q.mem q.wds q.bl q.am q.ag q.aw q.av q.sep
    exact ⟨mg, gw, ws, z, zd, q.len, q.ok, k1, k2⟩
  obtain ⟨mg, gw, ws, z, zd, hwl, hwo, hzd, hbo⟩ := HBO.out
  have HB3 := Lib.hid hbo
  have HW3 : Hid (ws.length = N ∧ okW ws) := ⟨hwl, hwo⟩
  clear H3 HBO hbo hwl hwo hN hcf hm HBG HB2 x0 x1 x2 x3 x4 x5 x6 x7 x8 x9 xb
  obtain ⟨x0, hx0⟩ : ∃ x0, x0 = newX a b c e t cs l th := ⟨_, rfl⟩
  have HX0 : Hid (x0.m.fuel = c ∧ plW x0 = (N : Int) ∧ InX x0 ∧ x0.part = 1 ∧ x0.steps = 0) := by rw [hx0]; exact ⟨rfl, HN.out, HI.out, rfl, rfl⟩
  rw [← hx0] at HB3
  clear hx0 HI HN H1
  have HMO : Hid (∀ u, Calls Tryz.prog 12 #[cfgV a b c e] u fun r w' => r = .returned (.int .i64 (c * 4 + 6)) ∧ Below u.heap.size u w') := fun u => most_any a b c e u ⟨by have := HFU.out; omega, by have := HFU.out; omega⟩
  go_wp2_with fail
  go_loopw [8] (fun vi wr => ∃ i : Nat, vi = .int .i64 i ∧ Hid (∃ x ws o n, StI x0 x ws N i ∧ Both w1 wr bx z mb mg x ws o n bd zd bw gw x ws n)) (fun vi _ => (c * 4 + 7).toNat - (intOf vi).toNat)
  case atStart => exact ⟨0, rfl, x0, ws, false, 0, ⟨HX0.out.2.2.1, Alike.refl _, HW3.out.2, HW3.out.1, fun _ => HX0.out.2.2.2.2, fun q => by have := HX0.out.2.2.2.1; omega⟩, HB3.out⟩
  case round =>
    obtain ⟨i, rfl, HR⟩ := hrel
    clear HB3 HW3
    obtain ⟨x, ws, o, n0, hI, hB⟩ := HR.out
    have HW := Lib.hid hI
    have HB := Lib.hid hB
    obtain ⟨x0', x1', x2', x3', x4', x5', x6', x7', x8', x9', xb'⟩ := HRC.out _ hB.below
    clear HR hI hB x4' x5' x6' x7' x8'
    have hb := HW.out.bound
    rw [HX0.out.1] at hb
    have c4 : c ≤ 100000 := HFU.out.2
    have c5 : 1 ≤ c := HFU.out.1
    have hlt : (i : Int) ≤ c * 4 + 6 + 1 := by omega
    obtain ⟨y, ws2, o2, n2, ov, er, hst, hdt, k1, k2, k3, k4, k5⟩ := both_two (W := w1) (bx := bx) (z := z) (mb := mb) (mg := mg) (bd := bd) (zd := zd) (bw := bw) (gw := gw) (x := x) (ws := pokeW lp i ws) HX.out.at_.sh HW.out.inx (by rw [plW_alike HW.out.al, HX0.out.2.1, pokeW_len, HW.out.len]; omega) (pokeW_ok HX.out.px i HW.out.ok) o n0
    have HST := Lib.hid hst
    have HDT := Lib.hid hdt
    have HI := Lib.hid k1
    have HNX : Hid ((er = 0 ∧ StI x0 y ws2 N (i + 1)) ∨ (er = 3 ∧ y.part = 4)) := by
      rcases k5 with ⟨e1, e2, e3, _⟩ | ⟨e1, e2, e3, _⟩
      · exact .inl ⟨e1, HW.out.next k1 k2 k3 (k4.trans (pokeW_len _ _ _)) e2 e3⟩
      · exact .inr ⟨e1, by rw [e3]; exact e2⟩
    have HPO : Hid (∀ u, Both w1 u bx z mb mg x ws o n0 bd zd bw gw x ws n0 → Calls Tryz.prog 13 #[.pointer (some ⟨mb, 0, none⟩), .pointer (some ⟨bw, 0, none⟩), .slice pp kp cp, .int .i64 (i : Int)] u fun r w' => r = .returned (.tuple #[]) ∧ Both w1 w' bx z mb mg x (pokeW lp i ws) o n0 bd zd bw gw x (pokeW lp i ws) n0) := fun u q => pokes_any q HX.out.pokes HX.out.pl N1 HW.out.len HW.out.len i
    clear hst hdt k1 k2 k3 k4 k5
    go_upto_region 14 with (first
      | (go_at_call 12; refine (HMO.out _).mono ?_; rintro r u4 ⟨rfl, q⟩; have H4 := Lib.hid (HB.out.on q); obtain ⟨y0, y1, y2, y3, y4, y5, y6, y7, y8, y9, yb⟩ := HRC.out _ H4.out.below; clear q HMO)
      | (go_at_call 13; refine (HPO.out _ H4.out).mono ?_; rintro r u5 ⟨rfl, q⟩; have H5 := Lib.hid q; clear q HPO)
      | (go_at_call 14; refine (HST.out _ H5.out).mono ?_; rintro r u6 ⟨rfl, q⟩; have H6 := Lib.hid q; clear q HST H5)
      | (go_at_call 15; refine (HDT.out _ H6.out).mono ?_; rintro r u7 ⟨rfl, q⟩; have H7 := Lib.hid q; clear q HDT H6))
    clear y0 y1 y2 y3 y4 y5 y6 y7 y8 y9 yb x0' x1' x2' x3' x9' xb' HB
    by_cases hg : greatB y = true
    · have HGR : Hid (Calls Tryz.prog 16 #[.pointer (some ⟨bd, 0, none⟩)] u7 fun r w' => r = .returned (.bool true) ∧ w' = u7) := H7.out.great hg
      have HZ : Hid (Below W.heap.size W u7) := H0.out.1.trans (H7.out.below.mono H0.out.1.size)
      clear hg
      go_wp2_with (go_at_call 16; refine HGR.out.mono ?_; rintro r u8 ⟨rfl, hw⟩; subst u8)
      go_ret
      exact ⟨rfl, HZ.out⟩
    · have HGR : Hid (Calls Tryz.prog 16 #[.pointer (some ⟨bd, 0, none⟩)] u7 fun r w' => r = .returned (.bool false) ∧ w' = u7) := H7.out.great (by simpa using hg)
      clear hg
      go_upto_region 16 with (go_at_call 16; refine HGR.out.mono ?_; rintro r u8 ⟨rfl, hw⟩; subst u8)
      clear HGR
      have HSA : Hid (∀ u, Both w1 u bx z mb mg y ws2 o2 n2 bd zd bw gw y ws2 n2 → Calls Tryz.prog 17 #[.pointer (some ⟨mb, 0, none⟩), .pointer (some ⟨bw, 0, none⟩)] u fun r w' => r = .returned (.bool true) ∧ Below u.heap.size u w') := fun u q => q.sameW
      obtain ⟨pt, hpt⟩ : ∃ pt : Int, (y.part : Int) = pt := ⟨_, rfl⟩
      have HPH : Hid (∀ u, Both w1 u bx z mb mg y ws2 o2 n2 bd zd bw gw y ws2 n2 → Calls Tryz.prog 18 #[.pointer (some ⟨bx, 0, none⟩)] u fun r w' => r = .returned (.int .i64 pt) ∧ w' = u) := fun u q => by rw [← hpt]; exact q.phase
      have HPA : Hid (∀ u, Both w1 u bx z mb mg y ws2 o2 n2 bd zd bw gw y ws2 n2 → u.cell? ⟨bd, 10, none⟩ = some (.int .i64 pt) ∧ bd < u.heap.size) := fun u q => by rw [← hpt]; exact q.dpart
      obtain ⟨tg, htg⟩ : ∃ tg, y.tag = tg := ⟨_, rfl⟩
      obtain ⟨st, hst⟩ : ∃ st, y.steps = st := ⟨_, rfl⟩
      obtain ⟨ar, har⟩ : ∃ ar, y.args = ar := ⟨_, rfl⟩
      obtain ⟨na, hna⟩ : ∃ na, ar.length = na := ⟨_, rfl⟩
      obtain ⟨m, hm⟩ : ∃ m, y.m = m := ⟨_, rfl⟩
      obtain ⟨mk, hmk⟩ : ∃ mk, markV y = mk := ⟨_, rfl⟩
      obtain ⟨e0, he0⟩ : ∃ e0, endI y m.how = e0 := ⟨_, rfl⟩
      obtain ⟨e1, he1⟩ : ∃ e1, endI y m.cod = e1 := ⟨_, rfl⟩
      obtain ⟨e2, he2⟩ : ∃ e2, endI y m.err = e2 := ⟨_, rfl⟩
      have HDE : Hid (∀ u, Both w1 u bx z mb mg y ws2 o2 n2 bd zd bw gw y ws2 n2 → Calls Tryz.prog 20 #[.pointer (some ⟨bx, 0, none⟩)] u fun r w' => ∃ D, r = .returned (.agg (dC tg na m D mk e0 e1 e2 st)) ∧ DdAt w' u.heap.size D ar m ∧ Below u.heap.size u w') := fun u q => q.deedF HI.out.toIn0 htg hst har hna hm hmk he0 he1 he2
      have HDD : Hid (∀ u, Both w1 u bx z mb mg y ws2 o2 n2 bd zd bw gw y ws2 n2 → Calls Tryz.prog 21 #[.pointer (some ⟨bd, 0, none⟩)] u fun r w' => ∃ D, r = .returned (.agg (dC tg na m D mk e0 e1 e2 st)) ∧ DdIn w' D ar m ∧ Below u.heap.size u w') := fun u q => q.ddeed HI.out.toIn0 htg hst har hna hm hmk he0 he1 he2
      have HTK : Hid (∀ B u D D', DdAt u B D ar m → DdIn u D' ar m → ∀ v : World, v.heap.size = B → B ≤ u.heap.size → Calls Tryz.prog 19 #[.agg (dC tg na m D mk e0 e1 e2 st), .agg (dC tg na m D' mk e0 e1 e2 st)] u fun r w' => r = .returned (.bool true) ∧ Below B u w') := fun B u D D' q1 q2 v hv hB => by
        have fl := few_lists HI.out.toIn0
        rw [har, hm, hna] at fl
        subst hv
        exact taken_any q1 q2 hB hna fl.1 fl.2.1 fl.2.2.1 fl.2.2.2
      have HPT := Lib.hid hpt
      clear htg hst har hna hm hmk he0 he1 he2 hpt HI
      obtain ⟨p10, pb⟩ := HPA.out _ H7.out
      have b1 : (ov != ov) = false := by simp
      have b2 : (er != er) = false := by simp
      have b3 : (pt != pt) = false := by simp
      go_cut [103] (fun v103 wc => v103 = .bool false ∧ Hid (Both w1 wc bx z mb mg y ws2 o2 n2 bd zd bw gw y ws2 n2))
      case first =>
        refine wp_region_seq (fun u => u.cell? ⟨bd, 10, none⟩ = some (.int .i64 pt) )  ((0, true) :: (1, true) :: (2, true) :: (3, true) :: (4, true) :: (5, true) :: (6, true) :: (7, true) :: (8, true) :: (9, true) :: (10, true) :: (11, false) :: (12, true) :: (13, true) :: (14, true) :: (15, true) :: (17, true) :: (18, true) :: (19, true) :: (20, true) :: (16, false) :: (21, true) :: (22, true) :: (23, true) :: (24, true) :: (26, true) :: (25, false) :: (27, false) :: (28, false) :: (29, true) :: (30, true) :: [])  Md.Cv.follows13 (by kernel_rfl) (fun _ _ _ _ _ h => h)  p10 ?_
        (repeat (first | (refine wpSeq_take (v := ?_) rfl (by rfl) (fun wq hSq => ?_) ?_; rotate_left; (focus ((try dsimp only at hSq); go_simp; try with_reducible rfl)); simp only [Act.put, List.setIfInBounds_toArray, List.set_cons_zero, List.set_cons_succ]) | (refine wpSeq_skip rfl (by rfl) ?_; simp only [Act.put, List.setIfInBounds_toArray, List.set_cons_zero, List.set_cons_succ])))
        (refine wpSeq_do rfl (by rfl) (fun KK hK => ?_); go_simp)
        go_at_call 17
        refine (HSA.out _ (H7.out.on ((Same.drew _).below _))).mono ?_
        rintro r u8 ⟨rfl, q⟩
        have H8 := Lib.hid ((H7.out.on ((Same.drew _).below _)).on q)
        clear q
        obtain ⟨p10', pb'⟩ := HPA.out _ H8.out
        refine hK.out _ _ p10' ?_
        (clear hK KK; try simp only [Act.put, List.setIfInBounds_toArray, List.set_cons_zero, List.set_cons_succ])
        (repeat (first | (refine wpSeq_take (v := ?_) rfl (by rfl) (fun wq hSq => ?_) ?_; rotate_left; (focus ((try dsimp only at hSq); go_simp; try with_reducible rfl)); simp only [Act.put, List.setIfInBounds_toArray, List.set_cons_zero, List.set_cons_succ]) | (refine wpSeq_skip rfl (by rfl) ?_; simp only [Act.put, List.setIfInBounds_toArray, List.set_cons_zero, List.set_cons_succ])))
        (refine wpSeq_do rfl (by rfl) (fun KK hK => ?_); go_simp)
        go_at_call 18
        refine (HPH.out _ H8.out).mono ?_
        rintro r u9 ⟨rfl, hw⟩
        subst u9
        refine hK.out _ _ p10' ?_
        (clear hK KK; try simp only [Act.put, List.setIfInBounds_toArray, List.set_cons_zero, List.set_cons_succ])
        (repeat (first | (refine wpSeq_take (v := ?_) rfl (by rfl) (fun wq hSq => ?_) ?_; rotate_left; (focus ((try dsimp only at hSq); go_simp; try with_reducible rfl)); simp only [Act.put, List.setIfInBounds_toArray, List.set_cons_zero, List.set_cons_succ]) | (refine wpSeq_skip rfl (by rfl) ?_; simp only [Act.put, List.setIfInBounds_toArray, List.set_cons_zero, List.set_cons_succ])))
        (refine wpSeq_do rfl (by rfl) (fun KK hK => ?_); go_simp)
        go_at_call 20
        refine (HDE.out _ H8.out).mono ?_
        rintro r u9 ⟨D, rfl, q1, q2⟩
        have H9 := Lib.hid (And.intro (H8.out.on q2) (And.intro q1 q2))
        clear q1 q2
        obtain ⟨p10'', pb''⟩ := HPA.out _ H9.out.1
        refine hK.out _ _ p10'' ?_
        (clear hK KK; try simp only [Act.put, List.setIfInBounds_toArray, List.set_cons_zero, List.set_cons_succ])
        (refine wpSeq_do rfl (by rfl) (fun KK hK => ?_); go_simp)
        go_at_call 21
        refine (HDD.out _ H9.out.1).mono ?_
        rintro r u10 ⟨D', rfl, q1, q2⟩
        have H10 := Lib.hid (And.intro q1 (And.intro (H9.out.2.1.on q2) (H9.out.2.2.trans (q2.mono H9.out.2.2.size))))
        clear q1 q2 p10'' pb''
        obtain ⟨p10'', pb''⟩ := HPA.out _ (H8.out.on H10.out.2.2)
        refine hK.out _ _ p10'' ?_
        (clear hK KK; try simp only [Act.put, List.setIfInBounds_toArray, List.set_cons_zero, List.set_cons_succ])
        (refine wpSeq_do rfl (by rfl) (fun KK hK => ?_); go_simp)
        go_at_call 19
        refine (HTK.out _ _ _ _ H10.out.2.1 H10.out.1 _ rfl H10.out.2.2.size).mono ?_
        rintro r u11 ⟨rfl, q⟩
        have H11 := Lib.hid (H8.out.on (H10.out.2.2.trans q))
        clear q p10'' pb''
        obtain ⟨p10'', pb''⟩ := HPA.out _ H11.out
        refine hK.out _ _ p10'' ?_
        (clear hK KK; try simp only [Act.put, List.setIfInBounds_toArray, List.set_cons_zero, List.set_cons_succ])
        (repeat (first | (refine wpSeq_take (v := ?_) rfl (by rfl) (fun wq hSq => ?_) ?_; rotate_left; (focus ((try dsimp only at hSq); go_simp; try with_reducible rfl)); simp only [Act.put, List.setIfInBounds_toArray, List.set_cons_zero, List.set_cons_succ]) | (refine wpSeq_skip rfl (by rfl) ?_; simp only [Act.put, List.setIfInBounds_toArray, List.set_cons_zero, List.set_cons_succ])))
        refine wpSeq_nil ?_
        go_wp2_with fail
        go_meet
        exact ⟨rfl, H11.out⟩
      case rest =>
        obtain ⟨rfl, H8⟩ := hcut
        clear HSA HPH HDE HDD HTK b1 b2 b3 p10 pb H7
        obtain ⟨p10, pb⟩ := HPA.out _ H8.out
        have HZ : Hid (Below W.heap.size W wc) := H0.out.1.trans (H8.out.below.mono H0.out.1.size)
        rcases HNX.out with ⟨rfl, hN⟩ | ⟨rfl, h4⟩
        · have HNI := Lib.hid hN
          clear hN HNX
          by_cases h4 : pt = 4
          · have q4 : (pt == 4) = true := by simp [h4]
            clear h4
            go_wp2_with fail
            exact ⟨⟨i + 1, by first | rfl | (congr 1), y, ws2, o2, n2, HNI.out, H8.out⟩, by simp [intOf]; omega⟩
          · have q4 : (pt == 4) = false := by simp [h4]
            clear h4
            go_wp2_with fail
            exact ⟨⟨i + 1, by first | rfl | (congr 1), y, ws2, o2, n2, HNI.out, H8.out⟩, by simp [intOf]; omega⟩
        · have q4 : (pt == 4) = true := by rw [← HPT.out, h4]; rfl
          clear HNX h4
          go_wp2_with fail
          go_ret
          exact ⟨rfl, HZ.out⟩
end
end Go.Proofs.YtninicfnhoediaaGreatDoor.Rr
