import Derived.Test.YtninicfnhoediaaGreatDoorJ2
namespace Go.Proofs.YtninicfnhoediaaGreatDoor.Rr
open Go.ChangeShapes Go.WideShapes Go.ChangeAt Go.RowKit Num
attribute [local go_sem] run_store_float
section
variable {W : World} {a b c e th t : Int} {ao : Option Addr} {cs : List Ins} {n cap : Nat} {po : Option Addr} {l : List Nat} {k co : Nat} {pw : Option Addr} {lw : List Int} {kw cw : Nat} {pp : Option Addr} {lp : List (Int × Int)} {kp cp : Nat}
set_option maxRecDepth 100000 in
set_option maxHeartbeats 4000000 in
theorem alones (h : RideAll W cs l ao po n k lw pw kw lp pp kp) : Calls Tryz.prog 7 #[.agg (rideV a b c e th t ao n cap po k co pw kw cw pp kp cp)] W fun r w' => r = .returned (.bool true) ∧ Below W.heap.size W w' := by
  obtain ⟨w1, hw1⟩ : ∃ w1, w1 = (W.alloc (.cells (rideV a b c e th t ao n cap po k co pw kw cw pp kp cp) 31)) := ⟨_, rfl⟩
  have H0 : Hid (Below W.heap.size W w1 ∧ w1.heap[W.heap.size]? = some (.cells (rideV a b c e th t ao n cap po k co pw kw cw pp kp cp) 31 (0, 0))) := by rw [hw1]; exact ⟨below_alloc _ _, heap_alloc_new _ _⟩
  have HL : Hid (Calls Tryz.prog 9 #[] w1 fun e w' => e = .returned (.bool true) ∧ Below w1.heap.size w1 w') := live_any (h.at_.sh.on H0.out.1)
  have HG : Hid (∀ u, Below w1.heap.size w1 u → Calls Tryz.prog 10 #[.agg (rideV a b c e th t ao n cap po k co pw kw cw pp kp cp)] u fun r w' => ∃ q1 q2, r = .returned (.tuple #[.pointer q1, .pointer q2]) ∧ Hid ((mayX a b c e k th = true ∧ ∃ bx bd, q1 = some ⟨bx, 0, none⟩ ∧ q2 = some ⟨bd, 0, none⟩ ∧ Bgn u w' bx bd (newX a b c e t cs l th) ao cs) ∨ (mayX a b c e k th = false ∧ q1 = none ∧ q2 = none ∧ Below u.heap.size u w'))) := fun u q => begun_any ((h.at_.on H0.out.1).on q)
  have HX := Lib.hid (h.on H0.out.1)
  have HRC : Hid (∀ u, Below w1.heap.size w1 u → u.cell? ⟨W.heap.size, 0, none⟩ = some (.int .i64 a) ∧ u.cell? ⟨W.heap.size, 1, none⟩ = some (.int .i64 b) ∧ u.cell? ⟨W.heap.size, 2, none⟩ = some (.int .i64 c) ∧ u.cell? ⟨W.heap.size, 3, none⟩ = some (.int .i64 e) ∧ u.cell? ⟨W.heap.size, 4, none⟩ = some (.int .i64 th) ∧ u.cell? ⟨W.heap.size, 5, none⟩ = some (.int .i64 t) ∧ u.cell? ⟨W.heap.size, 6, none⟩ = some (.slice ao n cap) ∧ u.cell? ⟨W.heap.size, 7, none⟩ = some (.slice po k co) ∧ u.cell? ⟨W.heap.size, 8, none⟩ = some (.slice pw kw cw) ∧ u.cell? ⟨W.heap.size, 9, none⟩ = some (.slice pp kp cp) ∧ W.heap.size < u.heap.size) := fun u q => ride_cells ((q.block _ (lt_of_block H0.out.2)).trans H0.out.2)
  clear h
  go_enter Tryz.func7, Tryz.ntmps7
  go_upto_region 3 with (first
    | (go_at_call 10; refine (HG.out _ H1.out).mono ?_; rintro r u2 ⟨q1, q2, rfl, H2⟩; clear HG)
    | (go_at_call 9; try simp only [← hw1]; refine HL.out.mono ?_; rintro r u1 ⟨rfl, q⟩; have H1 := Lib.hid q; obtain ⟨x0, x1, x2, x3, x4, x5, x6, x7, x8, x9, xb⟩ := HRC.out _ q; clear q HL))
  clear x0 x1 x2 x3 x4 x5 x6 x7 x8 x9 xb hw1
  rcases H2.out with ⟨hm, bx, bd, rfl, rfl, hB⟩ | ⟨hm, rfl, rfl, hB⟩
  rotate_left
  · have HB := Lib.hid (H0.out.1.trans ((H1.out.trans (hB.mono H1.out.size)).mono H0.out.1.size))
    clear hB H2
    go_wp2_with fail
    go_ret
    exact ⟨rfl, HB.out⟩
  have HI := Lib.hid (HX.out.at_.inX (t := t) hm)
  have hcf : Md.cfgB a b c e = true := by simp only [mayX, Bool.and_eq_true] at hm; exact hm.1.1
  obtain ⟨N, hN⟩ : ∃ N : Nat, 3 + b + 3 * a = (N : Int) := ⟨(3 + b + 3 * a).toNat, by have := Md.cfgB_iff.1 hcf; omega⟩
  have N1 : 1 ≤ N := by have := Md.cfgB_iff.1 hcf; omega
  have HFU : Hid (1 ≤ c ∧ c ≤ 100000) := by have := Md.cfgB_iff.1 hcf; exact ⟨by omega, by omega⟩
  have HB2 : Hid (Below w1.heap.size w1 u2) := H1.out.trans (hB.bl.mono H1.out.size)
  have HGD0 : Hid (Md.cfgB a b c e = true ∧ k ≤ 8) := by simp only [mayX, Bool.and_eq_true, decide_eq_true_eq] at hm; exact ⟨hm.1.1, hm.1.2⟩
  have HLA : Hid (Calls Tryz.prog 11 #[cfgV a b c e, .slice pw kw cw] u2 fun r w' => ∃ mb bw, r = .returned (.tuple #[.pointer (some ⟨mb, 0, none⟩), .pointer (some ⟨bw, 0, none⟩)]) ∧ Hid (∃ mg gw ws, Laid u2 w' N mb mg bw gw ws)) := laid_any hcf ((HX.out.on HB2.out).words) HX.out.wl HX.out.wx HX.out.wb hN
  have HBG := Lib.hid hB
  obtain ⟨x0, x1, x2, x3, x4, x5, x6, x7, x8, x9, xb⟩ := HRC.out _ HB2.out
  clear H2 hB
  go_upto_region 6 with (go_at_call 11; refine HLA.out.mono ?_; rintro r u3 ⟨mb, bw, rfl, H3⟩; clear HLA)
  have HN : Hid (3 + b + 3 * a = (N : Int)) := hN
  have HBO : Hid (∃ mg gw ws z zd, ws.length = N ∧ okW ws ∧ zd.cs = cs ∧ Both w1 u3 bx z mb mg (newX a b c e t cs l th) ws false 0 bd zd bw gw (newX a b c e t cs l th) ws 0) := by
    obtain ⟨mg, gw, ws, q⟩ := H3.out
    obtain ⟨z, zd, k1, k2⟩ := both_new H1.out HBG.out (by show (-1 : Int) < 0; omega) q.mem q.wds q.bl q.am q.ag q.aw q.av q.sep
    exact ⟨mg, gw, ws, z, zd, q.len, q.ok, k1, k2⟩
  obtain ⟨mg, gw, ws, z, zd, hwl, hwo, hzd, hbo⟩ := HBO.out
  have HB3 := Lib.hid hbo
  have HW3 : Hid (ws.length = N ∧ okW ws) := ⟨hwl, hwo⟩
  clear H3 HBO hbo hwl hwo hN hcf hm HBG HB2 x0 x1 x2 x3 x4 x5 x6 x7 x8 x9 xb
  obtain ⟨x0, hx0⟩ : ∃ x0, x0 = newX a b c e t cs l th := ⟨_, rfl⟩
  obtain ⟨x0', x1', x2', x3', x4', x5', x6', x7', x8', x9', xb'⟩ := HRC.out _ HB3.out.below
  clear x0' x1' x2' x3' x4' x6' x7' x8' x9'
  have HBZ : Hid (Below W.heap.size W u3) := H0.out.1.trans (HB3.out.below.mono H0.out.1.size)
  by_cases ht2 : t = 2
  · have ht2' : (t == 2) = true := by simp [ht2]
    clear ht2
    go_wp2_with fail
    go_ret
    exact ⟨rfl, HBZ.out⟩
  have ht2' : (t == 2) = false := by simp [ht2]
  have HX0 : Hid (x0.m.fuel = c ∧ plW x0 = (N : Int) ∧ InX x0 ∧ x0.part = 1 ∧ x0.steps = 0 ∧ x0.cell < 0 ∧ x0.b = b ∧ x0.a = a ∧ Rest x0.m ∧ x0.m = newM a c e t cs l) := by
    rw [hx0]
    refine ⟨rfl, HN.out, HI.out, rfl, rfl, (by show (-1 : Int) < 0; omega), rfl, rfl, ?_, rfl⟩
    exact ⟨HI.out.inv, by show ¬ (0 : Int) ≤ -1; omega, (fun t ht => by cases ht), List.nodup_nil⟩
  have HGD : Hid (Md.cfgB a b c e = true ∧ k ≤ 8) := HGD0.out
  obtain ⟨an, han⟩ : ∃ an : Nat, a = (an : Int) := ⟨a.toNat, by have := HX0.out.2.2.1.ca; rw [HX0.out.2.2.2.2.2.2.2.1] at this; omega⟩
  have HBB : Hid (x0.b = b ∧ x0.a = a ∧ 1 ≤ b ∧ b ≤ 8 ∧ 1 ≤ a ∧ a ≤ 256 ∧ 3 + b + 3 * a = (N : Int) ∧ a = (an : Int)) := by
    have h1 := HX0.out.2.2.1.ca
    have h2 := HX0.out.2.2.1.cb
    rw [HX0.out.2.2.2.2.2.2.2.1] at h1
    rw [HX0.out.2.2.2.2.2.2.1] at h2
    exact ⟨HX0.out.2.2.2.2.2.2.1, HX0.out.2.2.2.2.2.2.2.1, h2.1, h2.2, h1.1, h1.2, HN.out, han⟩
  obtain ⟨ws0, hws0⟩ : ∃ ws0, ws0 = ws := ⟨_, rfl⟩
  rw [← hx0] at HB3
  rw [← hws0] at HB3 HW3
  obtain ⟨s, hs⟩ : ∃ s, s = seenL ws0 an b := ⟨_, rfl⟩
  have HS : Hid (okS s ∧ (∀ c, 0 ≤ c → c < x0.a → Sx.getV s c = seenW ws0 x0.b (wordAt ws0 2) c) ∧ s.length = an ∧ s.map fixB = s) := by
    rw [hs]
    refine ⟨seenL_ok HW3.out.2 _ _, fun c h0 h1 => ?_, seenL_len _ _ _, seenL_fix _ _ _⟩
    rw [HBB.out.1]
    exact seen_get h0 (by rw [← han, ← HBB.out.2.1]; exact h1)
  have HSS := Lib.hid hs
  clear hx0 HI HN H1 hs han hws0 HGD0
  have HMO : Hid (∀ u, Calls Tryz.prog 12 #[cfgV a b c e] u fun r w' => r = .returned (.int .i64 (c * 4 + 6)) ∧ Below u.heap.size u w') := fun u => most_any a b c e u ⟨by have := HFU.out; omega, by have := HFU.out; omega⟩
  obtain ⟨i0, hi, hz0, hz1, hz2⟩ := info_parts fInfo
  have HZI := Lib.hid (And.intro hi (And.intro hz0 (And.intro hz1 hz2)))
  clear hi hz0 hz1 hz2
  have HCD : Hid (∀ u, Both w1 u bx z mb mg x0 ws0 false 0 bd zd bw gw x0 ws0 0 → (u.cell? ⟨bd, 0, none⟩ = some (.int .i64 0) ∧ u.cell? ⟨bd, 1, none⟩ = some (.int .i64 1) ∧ u.cell? ⟨bd, 2, none⟩ = some (.int .i64 2) ∧ u.cell? ⟨bd, 3, none⟩ = some (.int .i64 3) ∧ u.cell? ⟨bd, 4, none⟩ = some (.int .i64 (3 + b)) ∧ u.cell? ⟨bd, 5, none⟩ = some (.int .i64 (N : Int)) ∧ bd < u.heap.size) ∧ (u.cell? ⟨bw, 0, none⟩ = some (.slice (some ⟨gw, 0, none⟩) N N) ∧ bw < u.heap.size ∧ gw < u.heap.size) ∧ u.cell? ⟨gw, 2, none⟩ = some (.int .u64 (ws0.getD 2 0))) := fun u q => by
    obtain ⟨qd, kd⟩ := q.draw
    have c0 := q.words.cell0
    rw [HW3.out.1] at c0
    have e4 : u.cell? ⟨bd, 4, none⟩ = some (.int .i64 (3 + b)) := by rw [← HBB.out.1]; exact (kd.cell 4).trans rfl
    have e5 : u.cell? ⟨bd, 5, none⟩ = some (.int .i64 (N : Int)) := by rw [← HX0.out.2.1]; exact (kd.cell 5).trans rfl
    exact ⟨⟨(kd.cell 0).trans rfl, (kd.cell 1).trans rfl, (kd.cell 2).trans rfl, (kd.cell 3).trans rfl, e4, e5, kd.ltB⟩, ⟨c0, q.words.ltB, q.words.ltG⟩, q.words.word (by rw [HW3.out.1]; have := HBB.out; omega)⟩
  go_upto_region 8 with fail
  clear x5' xb' ht2' HBZ
  go_wp2_with fail
  go_loopw [8, 9] (fun v8 vi wr => ∃ (i : Nat) (p' : Option Addr) (c' : Nat), vi = .int .i64 i ∧ v8 = .slice p' i c' ∧ i ≤ an ∧ Hid (GrF u3.heap.size u3 wr p' c' (s.take i))) (fun _ vi _ => an - (intOf vi).toNat)
  case atStart => exact ⟨0, none, 0, rfl, rfl, Nat.zero_le _, grf_nil (Below.refl _ _)⟩
  case round =>
    obtain ⟨i, p', c', rfl, rfl, hi, HR⟩ := hrel
    have HB := Lib.hid (HB3.out.on HR.out.below)
    obtain ⟨x0', x1', x2', x3', x4', x5', x6', x7', x8', x9', xb'⟩ := HRC.out _ HB.out.below
    have x0'' : wr.cell? ⟨W.heap.size, 0, none⟩ = some (.int .i64 (an : Int)) := by rw [← HBB.out.2.2.2.2.2.2.2]; exact x0'
    by_cases hlt : i < an
    · clear x0' x1' x2' x3' x4' x5' x6' x7' x8' x9'
      have hlt' : (i : Int) < (an : Int) := by omega
      have hab : an ≤ 256 := by have := HBB.out; omega
      have hPK := peek_seen (ws0 := ws0) (a := a) (b := b) (N := N) (k := i) HW3.out.1 HBB.out.2.2.2.2.2.2.1 ⟨HBB.out.2.2.1, HBB.out.2.2.2.1⟩ HBB.out.2.2.2.2.2.1 (by rw [HBB.out.2.2.2.2.2.2.2]; omega)
      have hpk := Md.Ce.cpeek_any HB.out.mem 0 1 2 3 (3 + b) (N : Int) (i : Int)
      rw [hPK.1, hPK.2 0, hPK.2 1, hPK.2 2] at hpk
      have HSE := Lib.hid (seen_at ws0 b i)
      obtain ⟨sp, hsp⟩ : ∃ sp, ws0.getD 2 0 = sp := ⟨_, rfl⟩
      rw [hsp] at HSE
      generalize wordAt ws0 (3 + b + 3 * (i : Int) + 0) = v0 at hpk HSE
      generalize wordAt ws0 (3 + b + 3 * (i : Int) + 1) = v1 at hpk HSE
      generalize wordAt ws0 (3 + b + 3 * (i : Int) + 2) = v2 at hpk HSE
      have HPE := Lib.hid hpk
      unfold Md.Ce.tripV Md.Ce.planV at HPE
      clear hPK hpk
      obtain ⟨⟨d0, d1, d2, d3, d4, d5, db⟩, _, _⟩ := HCD.out _ HB.out
      go_upto_region 15 with (go_at_call 28; refine HPE.out.mono ?_; rintro r u5 ⟨rfl, q⟩; have H5 := Lib.hid q; clear q HPE)
      obtain ⟨w9, hw9⟩ : ∃ w9, w9 = u5.alloc (.cells #[.int .u64 v0, .int .u64 v1, .int .u64 v2] 77) := ⟨_, rfl⟩
      have H9 : Hid (w9.heap[u5.heap.size]? = some (.cells #[.int .u64 v0, .int .u64 v1, .int .u64 v2] 77) ∧ Below wr.heap.size wr w9) := by rw [hw9]; exact ⟨heap_alloc_new _ _, H5.out.alloc H5.out.size _⟩
      rw [← hw9]
      clear hw9 d0 d1 d2 d3 d4 d5 db x0'' xb'
      have HG9 := Lib.hid (HR.out.on H9.out.2 HR.out.below.size)
      have HB9 := Lib.hid (HB.out.on H9.out.2)
      obtain ⟨⟨_, _, d2, _, _, _, db⟩, ⟨c0, cb, cg⟩, g2⟩ := HCD.out _ HB9.out
      rw [hsp] at g2
      have tc : w9.cell? ⟨u5.heap.size, 0, none⟩ = some (.int .u64 v0) ∧ w9.cell? ⟨u5.heap.size, 1, none⟩ = some (.int .u64 v1) ∧ w9.cell? ⟨u5.heap.size, 2, none⟩ = some (.int .u64 v2) ∧ u5.heap.size < w9.heap.size := ⟨(cell_of_row _ _ 0 _ _ _ H9.out.1).trans rfl, (cell_of_row _ _ 1 _ _ _ H9.out.1).trans rfl, (cell_of_row _ _ 2 _ _ _ H9.out.1).trans rfl, lt_of_block H9.out.1⟩
      obtain ⟨t0, t1, t2, tl⟩ := tc
      have hN2 : (2 : Int) < (N : Int) := by have := HBB.out; omega
      have HLEN := Lib.hid (show (s.take i).length = i by rw [List.length_take, HS.out.2.2.1]; omega)
      have HAT : Hid (∀ u, Calls Tryz.prog 29 #[.agg #[.int .u64 v0, .int .u64 v1, .int .u64 v2], .int .u64 sp] u fun e w' => e = .returned (.float .f64 (Md.Ce.atV v0 v1 v2 sp)) ∧ Below u.heap.size u w') := fun u => Md.Ce.cat_any v0 v1 v2 sp u
      rw [HSE.out] at HAT
      obtain ⟨y, hy⟩ : ∃ y, seenW ws0 b (wordAt ws0 2) (i : Int) = y := ⟨_, rfl⟩
      rw [hy] at HAT
      have HTK : Hid (s.take i ++ [y] = s.take (i + 1)) := by rw [HSS.out, ← hy]; exact seenL_take hlt
      have HWS : Hid (∀ u, Below w9.heap.size w9 u → (u.cell? ⟨bd, 2, none⟩ = some (.int .i64 2) ∧ u.cell? ⟨bw, 0, none⟩ = some (.slice (some ⟨gw, 0, none⟩) N N) ∧ u.cell? ⟨gw, 2, none⟩ = some (.int .u64 sp)) ∧ u.cell? ⟨u5.heap.size, 0, none⟩ = some (.int .u64 v0) ∧ u.cell? ⟨u5.heap.size, 1, none⟩ = some (.int .u64 v1) ∧ u.cell? ⟨u5.heap.size, 2, none⟩ = some (.int .u64 v2)) := fun u q => ⟨⟨(q.cell (p := ⟨bd, 2, none⟩) db).trans d2, (q.cell (p := ⟨bw, 0, none⟩) cb).trans c0, (q.cell (p := ⟨gw, 2, none⟩) cg).trans g2⟩, (q.cell (p := ⟨u5.heap.size, 0, none⟩) tl).trans t0, (q.cell (p := ⟨u5.heap.size, 1, none⟩) tl).trans t1, (q.cell (p := ⟨u5.heap.size, 2, none⟩) tl).trans t2⟩
      have HAP : Hid (∀ u, Below w9.heap.size w9 u → GrF u3.heap.size u3 u p' c' (s.take i)) := fun u q => HG9.out.on q (Nat.le_trans HR.out.below.size H9.out.2.size)
      have HSZ : Hid (u3.heap.size ≤ w9.heap.size) := Nat.le_trans HR.out.below.size H9.out.2.size
      have HNB : Hid (∀ g, (Value.slice p' i c').ownBlock = some g → g ≠ bd ∧ g ≠ bw ∧ g ≠ gw ∧ g ≠ u5.heap.size) := fun g hg => by
        have ho := HR.out.own
        rw [HLEN.out] at ho
        have l := ho.lt g hg
        obtain ⟨⟨_, _, _, _, _, _, b1⟩, ⟨_, b2, b3⟩, _⟩ := HCD.out _ HB3.out
        have h5 := H5.out.size
        refine ⟨?_, ?_, ?_, ?_⟩ <;> omega
      clear hy hsp HSE HR HB HB9 HG9 H9 H5
      refine wp_region_seq (fun u => (u.cell? ⟨bd, 2, none⟩ = some (.int .i64 2) ∧ u.cell? ⟨bw, 0, none⟩ = some (.slice (some ⟨gw, 0, none⟩) N N) ∧ u.cell? ⟨gw, 2, none⟩ = some (.int .u64 sp)) ∧ u.cell? ⟨u5.heap.size, 0, none⟩ = some (.int .u64 v0) ∧ u.cell? ⟨u5.heap.size, 1, none⟩ = some (.int .u64 v1) ∧ u.cell? ⟨u5.heap.size, 2, none⟩ = some (.int .u64 v2) )  ((0, true) :: (1, true) :: (2, true) :: (3, true) :: (4, true) :: (5, true) :: (6, true) :: (7, true) :: (8, true) :: (9, true) :: (10, true) :: (11, true) :: (12, true) :: (13, false) :: (14, false) :: (15, false) :: (16, true) :: [])  Md.Cv.follows13 (by kernel_rfl) (fun _ _ _ _ _ h => h)  ⟨⟨d2, c0, g2⟩, t0, t1, t2⟩ ?_
      (repeat (first | (refine wpSeq_take (v := ?_) rfl (by rfl) (fun wq hSq => ?_) ?_; rotate_left; (focus ((try dsimp only at hSq); go_simp; try with_reducible rfl)); simp only [Act.put, List.setIfInBounds_toArray, List.set_cons_zero, List.set_cons_succ]) | (refine wpSeq_skip rfl (by rfl) ?_; simp only [Act.put, List.setIfInBounds_toArray, List.set_cons_zero, List.set_cons_succ])))
      (refine wpSeq_do rfl (by rfl) (fun KK hK => ?_); go_simp)
      go_at_call 29
      refine (HAT.out _).mono ?_
      rintro r u6 ⟨rfl, q⟩
      have H6 : Hid (Below w9.heap.size w9 u6) := ((Same.drew w9).below _).trans q
      clear q
      refine hK.out _ _ (HWS.out _ H6.out) ?_
      (clear hK KK; try simp only [Act.put, List.setIfInBounds_toArray, List.set_cons_zero, List.set_cons_succ])
      (refine wpSeq_do rfl (by rfl) (fun KK hK => ?_); go_simp)
      refine hK.out _ _ (HWS.out _ (H6.out.alloc H6.out.size _)) ?_
      (clear hK KK; try simp only [Act.put, List.setIfInBounds_toArray, List.set_cons_zero, List.set_cons_succ])
      refine wpSeq_do rfl (by rfl) (fun KK hK => ?_)
      have HO := (HAP.out _ H6.out).own
      rw [HLEN.out] at HO
      refine wp_append_ex _ _ 27 27 rfl (.slice p' i c') (.slice (some ⟨u6.heap.size, 0, none⟩) 1 1) rfl rfl (run_append_own_at (P := Tryz.prog) (u6.alloc (.cells #[.float .f64 y] 71)) u3.heap.size 27 27 71 i0 (.float .f64 0) 1 8 Tryz.underlying27 HZI.out.1 HZI.out.2.1 HZI.out.2.2.1 HZI.out.2.2.2 rfl (by decide) _ i (fls (s.take i)) (World.ownsRow.alloc HO _) ⟨u6.heap.size, 0, none⟩ 1 1 [.float .f64 y] rfl (cell_one_new u6 _ _) (fun u hu => by simp at hu; subst hu; rfl) (by unfold maxLen; have := HBB.out; omega) (by have := HBB.out; omega) (by have := HSZ.out; have := H6.out.size; simp; omega)) ?_
      rintro v3 w3 ⟨hown3, hgrow3, hnil3, hat3⟩
      have hap := (HAP.out _ H6.out).app (v := v3) (w3 := w3) (x := y) (o := .cells #[.float .f64 y] 71) (Nat.le_trans HSZ.out H6.out.size) (by rw [HLEN.out]; exact hown3) (by rw [HLEN.out]; exact hgrow3)
      rw [HLEN.out, HTK.out] at hap
      obtain ⟨p2, c2, hv3, k1⟩ := hap
      subst hv3
      have HK1 := Lib.hid k1
      obtain ⟨⟨e1, e2, e3⟩, e4, e5, e6⟩ := HWS.out _ (H6.out.alloc H6.out.size (.cells #[.float .f64 y] 71))
      have sz6 : ∀ j, j < w9.heap.size → j < (u6.alloc (.cells #[.float .f64 y] 71)).heap.size := fun j hj => by have := H6.out.size; simp; omega
      have S3 := And.intro (And.intro ((cell_grown hgrow3 (sz6 bd db) (fun q => (HNB.out _ q).1 rfl) 2).trans e1) (And.intro ((cell_grown hgrow3 (sz6 bw cb) (fun q => (HNB.out _ q).2.1 rfl) 0).trans e2) ((cell_grown hgrow3 (sz6 gw cg) (fun q => (HNB.out _ q).2.2.1 rfl) 2).trans e3))) (And.intro ((cell_grown hgrow3 (sz6 _ tl) (fun q => (HNB.out _ q).2.2.2 rfl) 0).trans e4) (And.intro ((cell_grown hgrow3 (sz6 _ tl) (fun q => (HNB.out _ q).2.2.2 rfl) 1).trans e5) ((cell_grown hgrow3 (sz6 _ tl) (fun q => (HNB.out _ q).2.2.2 rfl) 2).trans e6)))
      clear e1 e2 e3 e4 e5 e6 sz6
      clear hown3 hgrow3 hnil3 hat3 k1 HAP HO
      refine hK.out _ _ S3 ?_
      (clear hK KK; try simp only [Act.put, List.setIfInBounds_toArray, List.set_cons_zero, List.set_cons_succ])
      (repeat (first | (refine wpSeq_take (v := ?_) rfl (by rfl) (fun wq hSq => ?_) ?_; rotate_left; (focus ((try dsimp only at hSq); go_simp; try with_reducible rfl)); simp only [Act.put, List.setIfInBounds_toArray, List.set_cons_zero, List.set_cons_succ]) | (refine wpSeq_skip rfl (by rfl) ?_; simp only [Act.put, List.setIfInBounds_toArray, List.set_cons_zero, List.set_cons_succ])))
      refine wpSeq_nil ?_
      go_wp2_with fail
      exact ⟨⟨i + 1, p2, c2, by first | rfl | (congr 1), rfl, by omega, HK1.out⟩, by simp [intOf]; omega⟩
    · obtain rfl : i = an := by omega
      have hlt' : ¬ (i : Int) < (i : Int) := by omega
      have HFL : Hid (FlAt wr p' s) := by
        have := HR.out.fl
        rw [List.take_of_length_le (by rw [HS.out.2.2.1]; exact Nat.le_refl _)] at this
        exact this
      have HOF : Hid (Calls Tryz.prog 30 #[.slice p' i c'] wr fun e w' => ∃ b F, e = .returned (.tuple #[.pointer (some ⟨b, 0, none⟩), .int .i64 0]) ∧ Sx.Cel 133 w' b F s ∧ Abv wr.heap.size F ∧ Below wr.heap.size wr w') := by
        have := ofF_any (c := c') HS.out.2.2.1 HFL.out (by unfold Sx.mayN; have := HBB.out; simp; omega)
        rw [HS.out.2.2.2] at this
        exact this
      obtain ⟨mE, hmE⟩ : ∃ mE, endM s x0.m = mE := ⟨_, rfl⟩
      have HRU : Hid (∀ u bs F, Below wr.heap.size wr u → Sx.Cel 133 u bs F s → Calls Tryz.prog 31 #[cfgV a b c e, .agg #[.int .i64 t, .slice ao n cap], .slice po k co, .pointer (some ⟨bs, 0, none⟩)] u fun r w' => ∃ R, r = .returned (.tuple #[resV R mE, .int .i64 0]) ∧ ResAt w' u.heap.size R mE ∧ Turn F F u w') := fun u bs F q1 q2 => by
        have hbl : Below w1.heap.size w1 u := HB.out.below.trans (q1.mono HB.out.below.size)
        have hx := HX.out.on hbl
        have hg : goodB a b c e s.length k = true := by
          unfold goodB
          rw [HS.out.2.2.1, HGD.out.1]
          have := HBB.out.2.2.2.2.2.2.2
          have := HGD.out.2
          simp
          omega
        refine (_root_.Go.Proofs.YtninicfnhoediaaGreatDoor.run_any (co := co) (cap := cap) hx.at_.sh hx.at_.hn hx.at_.hk hx.at_.code hx.at_.cx hx.at_.args hx.at_.lx (by have := hx.at_.nb; omega) q2 HS.out.1).mono ?_
        rintro r w' ⟨R, k1, k2, _, k4⟩
        have eR : runR a b c e t cs l s = mE := by
          unfold runR
          rw [hx.at_.hk, if_pos hg, ← hmE, HX0.out.2.2.2.2.2.2.2.2.2]
        rw [eR] at k1 k2
        unfold runE at k1
        rw [if_pos hg] at k1
        exact ⟨R, k1, k2, k4⟩
      have HME := Lib.hid hmE
      have HRB := Lib.hid HR.out.below
      clear hmE HR HFL hlt hi HZI HSS x0' x1' x2' x3' x4' x5' x6' x7' x8' x9'
      go_upto_region 20 with (first
        | (go_at_call 30; refine HOF.out.mono ?_; rintro r u4 ⟨bs, F, rfl, q1, q2, q3⟩; have H4 := Lib.hid (And.intro q1 (And.intro q2 q3)); obtain ⟨y0, y1, y2, y3, y4, y5, y6, y7, y8, y9, yb⟩ := HRC.out _ (HB.out.below.trans (q3.mono HB.out.below.size)); clear q1 q2 q3 HOF)
        | (go_at_call 31; refine (HRU.out _ _ _ H4.out.2.2 H4.out.1).mono ?_; rintro r u5 ⟨R, rfl, q1, q2⟩; have H5 := Lib.hid (And.intro q1 q2); clear q1 q2 HRU))
      obtain ⟨w6, hw6⟩ : ∃ w6, w6 = u5.alloc (.cells (resC R mE) 85) := ⟨_, rfl⟩
      have H6 : Hid (Below u3.heap.size u3 w6 ∧ w6.heap[u5.heap.size]? = some (.cells (resC R mE) 85) ∧ ResAt w6 u3.heap.size R mE ∧ u3.heap.size ≤ u5.heap.size) := by
        have b4 := HRB.out.trans (H4.out.2.2.mono HRB.out.size)
        have b5 : Below u3.heap.size u3 u5 := b4.trans (H5.out.2.below (fun i hi => Nat.le_trans HRB.out.size (H4.out.2.1 i hi)) b4.size)
        rw [hw6]
        have r6 := H5.out.1.on (below_alloc u5 (.cells (resC R mE) 85))
        exact ⟨b5.alloc b5.size _, heap_alloc_new _ _, ⟨r6.out, r6.reads, r6.writes, r6.ao.mono b4.size, r6.ar.mono b4.size, r6.aw.mono b4.size⟩, b5.size⟩
      rw [← hw6]
      clear hw6 H4 H5 HB HRB y0 y1 y2 y3 y4 y5 y6 y7 y8 y9 yb x0'' xb' hlt' HCD
      obtain ⟨L, hL⟩ : ∃ L, L = u5.heap.size :: (fpR R.po ++ fpR R.pr) := ⟨_, rfl⟩
      have HSO : Hid (Solo w1 w6 bx z mb mg x0 ws0 false 0 L) := HB3.out.solo H6.out.1 (fun i hi => by
        rw [hL] at hi
        simp only [List.mem_cons, List.mem_append] at hi
        rcases hi with hi | hi | hi
        · have := H6.out.2.2.2; omega
        · exact H6.out.2.2.1.ao i hi
        · exact H6.out.2.2.1.ar i hi) (fun i hi => by
        rw [hL] at hi
        simp only [List.mem_cons, List.mem_append] at hi
        rcases hi with hi | hi | hi
        · rw [hi]; exact lt_of_block H6.out.2.1
        · exact H6.out.2.2.1.out.blw i hi
        · exact H6.out.2.2.1.reads.blw i hi)
      have HKL : Hid (∀ u, Kept L w6 u → (u.heap[u5.heap.size]? = some (.cells (resC R mE) 85) ∧ u5.heap.size < u.heap.size) ∧ FlAt u R.po mE.out ∧ TlAt u R.pr mE.reads) := fun u q => by
        have e1 := q.2 u5.heap.size (by rw [hL]; simp)
        refine ⟨⟨e1.trans H6.out.2.1, lt_of_block (e1.trans H6.out.2.1)⟩, (H6.out.2.2.1.out.keep ⟨q.1, fun i hi => q.2 i (by rw [hL]; simp [hi])⟩).fl, (H6.out.2.2.1.reads.keep ⟨q.1, fun i hi => q.2 i (by rw [hL]; simp [hi])⟩).tl⟩
      have HLB : Hid (Blw w6 L) := by obtain ⟨_, _, _, _, _, q, _⟩ := HSO.out.ex; exact q
      clear hL HB3 H6
      go_wp2_with fail
      go_loopw [16] (fun vi wr => ∃ i : Nat, vi = .int .i64 i ∧ Hid (∃ x ws o n, QtI x0 x ws0 ws s N i n ∧ Solo w1 wr bx z mb mg x ws o n L ∧ Kept L w6 wr)) (fun vi _ => (c * 4 + 6).toNat - (intOf vi).toNat)
      case atStart => exact ⟨0, rfl, x0, ws0, false, 0, ⟨⟨HX0.out.2.2.1, by rw [HX0.out.2.2.2.1]; omega, HX0.out.2.2.2.2.1, Alike.refl _, HW3.out.2, HW3.out.1, by omega⟩, qt_new HX0.out.2.2.2.1 HX0.out.2.2.2.2.2.1 rfl⟩, HSO.out, ⟨Nat.le_refl _, fun _ _ => rfl⟩⟩
      case round =>
        obtain ⟨j, rfl, HR⟩ := hrel
        clear HSO
        obtain ⟨x, ws, o, n0, hI, hB, hkl⟩ := HR.out
        have HQ := Lib.hid hI
        have HB := Lib.hid hB
        have HK6 := Lib.hid hkl
        obtain ⟨x0', x1', x2', x3', x4', x5', x6', x7', x8', x9', xb'⟩ := HRC.out _ hB.below
        clear HR hI hB hkl x4' x5' x6' x7' x8' x9'
        have hb := HQ.out.wt.bound
        rw [HX0.out.1] at hb
        have hlt : (j : Int) < c * 4 + 6 := by omega
        obtain ⟨y, ws2, ac, hy⟩ : ∃ y ws2 ac, stepX x ws = (y, ws2, ac) := ⟨_, _, _, rfl⟩
        obtain ⟨n', hn'⟩ : ∃ n', (if ac then up n0 else n0) = n' := ⟨_, rfl⟩
        have HSP := Lib.hid (HQ.out.step (by rw [HX0.out.1]; exact HFU.out.2) HS.out.2.1 hy hn')
        have c4 : c ≤ 100000 := HFU.out.2
        by_cases hov : y.part = 4
        · have HST : Hid (∀ u, Solo w1 u bx z mb mg x ws o n0 L → Calls Tryz.prog 14 #[.pointer (some ⟨bx, 0, none⟩), .pointer (some ⟨mb, 0, none⟩)] u fun r w' => r = .returned (.tuple #[.bool true, .int .i64 0]) ∧ Solo w1 w' bx z mb mg y ws2 (!ac) n' L ∧ Kept L u w') := fun u q => q.step HX.out.at_.sh HQ.out.wt.inx HQ.out.wt.part (by rw [plW_alike HQ.out.wt.al, HX0.out.2.1, HQ.out.wt.len]; omega) HQ.out.wt.ok hy hn' (by rw [hov]; decide)
          have hm : y.m = mE := (HSP.out.2.2.1.ended HSP.out.1 hov HX0.out.2.2.2.2.2.2.2.2.1 HS.out.1).trans HME.out
          have hE : ∀ v : Int, endI y v = v := fun v => by unfold endI; rw [if_pos hov]
          obtain ⟨tg, htg⟩ : ∃ tg, y.tag = tg := ⟨_, rfl⟩
          obtain ⟨st, hst⟩ : ∃ st, y.steps = st := ⟨_, rfl⟩
          obtain ⟨ar, har⟩ : ∃ ar, y.args = ar := ⟨_, rfl⟩
          obtain ⟨na, hna⟩ : ∃ na, ar.length = na := ⟨_, rfl⟩
          obtain ⟨mk, hmk⟩ : ∃ mk, markV y = mk := ⟨_, rfl⟩
          have HDE : Hid (∀ u, Solo w1 u bx z mb mg y ws2 (!ac) n' L → Calls Tryz.prog 20 #[.pointer (some ⟨bx, 0, none⟩)] u fun r w' => ∃ D, r = .returned (.agg (dC tg na mE D mk mE.how mE.cod mE.err st)) ∧ DdAt w' u.heap.size D ar mE ∧ Below u.heap.size u w') := fun u q => q.deedF HSP.out.1.toIn0 htg hst har hna hm hmk (hE _) (hE _) (hE _)
          obtain ⟨nr, hnr⟩ : ∃ nr, mE.reads.length = nr := ⟨_, rfl⟩
          obtain ⟨no, hno⟩ : ∃ no, mE.out.length = no := ⟨_, rfl⟩
          have HSD : Hid (∀ u D, DdAt u 0 D ar mE → FlAt u R.po mE.out → TlAt u R.pr mE.reads → Calls Tryz.prog 32 #[.agg #[.int .i64 0, .int .i64 0, .int .i64 0, .int .i64 tg, .slice D.pa na D.ca, .int .i64 mk, .int .i64 0, .slice D.pr nr D.cr, .slice none 0 0, .slice D.po no D.co, .int .i64 mE.how, .int .i64 mE.cod, .int .i64 mE.err, .int .i64 0, .int .i64 0, .int .i64 st, .int .i64 0, .int .i64 0, .int .i64 0], .agg #[.int .i64 0, .int .i64 0, .int .i64 0, .int .i64 tg, .slice D.pa na D.ca, .int .i64 mk, .int .i64 0, .slice R.pr nr R.cr, .slice none 0 0, .slice R.po no R.co, .int .i64 mE.how, .int .i64 mE.cod, .int .i64 mE.err, .int .i64 0, .int .i64 0, .int .i64 st, .int .i64 0, .int .i64 0, .int .i64 0]] u fun e w' => e = .returned (.bool true) ∧ Below u.heap.size u w') := fun u D q1 q2 q3 => by
            have fl := few_lists HSP.out.1.toIn0
            rw [har, hm, hna, hnr, hno] at fl
            exact same_lists (D' := ⟨none, 0, R.pr, R.cr, none, 0, R.po, R.co⟩) q1.in_.a q1.in_.r q1.in_.o q3 q2 hna hnr hno fl.1 fl.2.1 fl.2.2.2 mE
          clear hy hn' hov hb hm hE htg hst har hna hmk
          go_upto_region 27 with (first
            | (go_at_call 12; refine (HMO.out _).mono ?_; rintro r u7 ⟨rfl, q⟩; have H7 := Lib.hid (And.intro (HB.out.on q) (kept_trans HK6.out (kept_below q (fun i hi => Nat.lt_of_lt_of_le (HLB.out i hi) HK6.out.1)))); clear q HMO)
            | (go_at_call 14; refine (HST.out _ H7.out.1).mono ?_; rintro r u8 ⟨rfl, q1, q2⟩; have H8 := Lib.hid (And.intro q1 (kept_trans H7.out.2 q2)); clear q1 q2 HST H7))
          clear x0' x1' x2' x3' xb' HB HK6 HQ hlt
          go_upto_region 28 with (first
            | (go_at_call 20; refine (HDE.out _ H8.out.1).mono ?_; rintro r u9 ⟨D, rfl, q1, q2⟩; have H9 : Hid (DdAt u9 0 D ar mE ∧ Kept L w6 u9 ∧ Below W.heap.size W u9) := ⟨q1.mono (Nat.zero_le _), kept_trans H8.out.2 (kept_below q2 (fun i hi => Nat.lt_of_lt_of_le (HLB.out i hi) H8.out.2.1)), H0.out.1.trans (((H8.out.1.on q2).below).mono H0.out.1.size)⟩; clear q1 q2 HDE)
            | (refine wpList_store_row rfl 61 _ _ rfl u9.heap.size (dC tg na mE D mk mE.how mE.cod mE.err st) rfl rfl _ _ (heap_alloc_new _ _) deedInfo rfl (deed_one _ _ _ _ _ _ _ _ _) ?_; rw [World.setRow_alloc_new]))
          obtain ⟨v1, hv1⟩ : ∃ v1, v1 = u9.alloc (dO tg na mE D mk mE.how mE.cod mE.err st) := ⟨_, rfl⟩
          have HV1 : Hid (v1.heap[u9.heap.size]? = some (dO tg na mE D mk mE.how mE.cod mE.err st) ∧ Below u9.heap.size u9 v1) := by rw [hv1]; exact ⟨heap_alloc_new _ _, below_alloc _ _⟩
          rw [← hv1]
          clear hv1
          have w8 : v1.cell? ⟨u9.heap.size, 8, none⟩ = some (.slice D.pw mE.buf.length D.cw) := (cell_of_row _ _ 8 _ _ _ HV1.out.1).trans rfl
          have w8f := frozen_of_row v1 u9.heap.size 8 _ _ HV1.out.1
          have w8l := lt_of_block HV1.out.1
          go_upto_region 29 with fail
          obtain ⟨v2, hv2⟩ : ∃ v2, v2 = v1.setCell ⟨u9.heap.size, 8, none⟩ (.slice none 0 0) := ⟨_, rfl⟩
          have HV2 : Hid (v2.heap[u9.heap.size]? = some (.cells #[.int .i64 0, .int .i64 0, .int .i64 0, .int .i64 tg, .slice D.pa na D.ca, .int .i64 mk, .int .i64 0, .slice D.pr nr D.cr, .slice none 0 0, .slice D.po no D.co, .int .i64 mE.how, .int .i64 mE.cod, .int .i64 mE.err, .int .i64 0, .int .i64 0, .int .i64 st, .int .i64 0, .int .i64 0, .int .i64 0] 61) ∧ Below u9.heap.size u9 v2) := by
            rw [hv2, ← hnr, ← hno]
            exact ⟨(heap_setCell_same _ _ 8 _ _ _ HV1.out.1).trans rfl, HV1.out.2.setCell (Nat.le_refl _) _⟩
          rw [← hv2]
          clear hv2 HV1 w8 w8f w8l
          obtain ⟨f0, f1, f2, e3, e4, e5, f6, f7, f8, f9, e10, e11, e12, f13, f14, e15, f16, f17, f18, el⟩ := cells19 HV2.out.1
          clear f0 f1 f2 f6 f7 f8 f9 f13 f14 f16 f17 f18
          obtain ⟨⟨hbx, hbl⟩, hf1, hf2⟩ := HKL.out _ (kept_trans H9.out.2.1 (kept_below HV2.out.2 (fun i hi => Nat.lt_of_lt_of_le (HLB.out i hi) H9.out.2.1.1)))
          have HF := Lib.hid (And.intro hf1 hf2)
          have r0 : v2.cell? ⟨u5.heap.size, 0, none⟩ = some (.int .i64 mE.how) := (cell_of_row _ _ 0 _ _ _ hbx).trans rfl
          have r1 : v2.cell? ⟨u5.heap.size, 1, none⟩ = some (.int .i64 mE.cod) := (cell_of_row _ _ 1 _ _ _ hbx).trans rfl
          have r2 : v2.cell? ⟨u5.heap.size, 2, none⟩ = some (.int .i64 mE.err) := (cell_of_row _ _ 2 _ _ _ hbx).trans rfl
          have r3 : v2.cell? ⟨u5.heap.size, 3, none⟩ = some (.slice R.po no R.co) := by rw [← hno]; exact (cell_of_row _ _ 3 _ _ _ hbx).trans rfl
          have r4 : v2.cell? ⟨u5.heap.size, 4, none⟩ = some (.slice R.pr nr R.cr) := by rw [← hnr]; exact (cell_of_row _ _ 4 _ _ _ hbx).trans rfl
          clear hbx hf1 hf2 hnr hno
          have HSF := Lib.hid (HSD.out v2 D (H9.out.1.on HV2.out.2) HF.out.1 HF.out.2)
          have HZ : Hid (Below W.heap.size W v2) := H9.out.2.2.trans (HV2.out.2.mono H9.out.2.2.size)
          have hee := fun w => end_eq mE.how mE.cod mE.err w
          clear HSD H9 HF HKL HLB H8
          go_wp2_with (first
            | (go_at_call 32; refine HSF.out.mono ?_; rintro r v3 ⟨rfl, q⟩; have H3 : Hid (Below W.heap.size W v3) := HZ.out.trans (q.mono HZ.out.size); clear q)
            | (refine wpList_wanted (by rfl) (wp_load_row 61 _ rfl u9.heap.size rfl _ _ _ _ HV2.out.1 Tryz.underlying61 rfl deedInfo ?_)))
          go_ret
          exact ⟨rfl, H3.out⟩
        · have HST : Hid (∀ u, Solo w1 u bx z mb mg x ws o n0 L → Calls Tryz.prog 14 #[.pointer (some ⟨bx, 0, none⟩), .pointer (some ⟨mb, 0, none⟩)] u fun r w' => r = .returned (.tuple #[.bool false, .int .i64 0]) ∧ Solo w1 w' bx z mb mg y ws2 (!ac) n' L ∧ Kept L u w') := fun u q => q.step HX.out.at_.sh HQ.out.wt.inx HQ.out.wt.part (by rw [plW_alike HQ.out.wt.al, HX0.out.2.1, HQ.out.wt.len]; omega) HQ.out.wt.ok hy hn' (decide_eq_false (by omega))
          have HN := Lib.hid (HSP.out.2.2.2 hov)
          clear hy hn' hov hb
          go_wp2_with (first
            | (go_at_call 12; refine (HMO.out _).mono ?_; rintro r u7 ⟨rfl, q⟩; have H7 := Lib.hid (And.intro (HB.out.on q) (kept_trans HK6.out (kept_below q (fun i hi => Nat.lt_of_lt_of_le (HLB.out i hi) HK6.out.1)))); clear q HMO)
            | (go_at_call 14; refine (HST.out _ H7.out.1).mono ?_; rintro r u8 ⟨rfl, q1, q2⟩; have H8 := Lib.hid (And.intro q1 (kept_trans H7.out.2 q2)); clear q1 q2 HST H7))
          exact ⟨⟨j + 1, by first | rfl | (congr 1), y, ws2, _, n', HN.out, H8.out.1, H8.out.2⟩, by simp [intOf]; omega⟩
end
end Go.Proofs.YtninicfnhoediaaGreatDoor.Rr
