import Derived.Test.YtpimfhkigbcniaaW7
namespace Go.Proofs.Ytpimfhkigbcniaa.Bo
open Go.ChangeShapes Go.WideShapes Go.ChangeAt Go.RowKit Go.Shelf Md En

/-! the document's Late -/
def lateB (rd wt : Int) (d : Dn) : Bool := if d.tag = 2 then decide (0 ≤ d.mark) && decide (wrap64 (wrap64 (d.ahead + 1) * wt) < wrap64 (d.til - d.frm)) else decide (rd < d.steps)
def rfst (rd wt : Int) : Nat → List Dn → Int
  | _, [] => -1
  | k, d :: ds => if lateB rd wt d then (k : Int) else rfst rd wt (k + 1) ds
def okD (d : Dn) : Bool := allD (cn4 d)
theorem inD_iff {x : Int} : inD x = true ↔ 0 ≤ x ∧ x ≤ 1099511627776 := by simp [inD]
theorem late_one {rd wt : Int} {d : Dn} (h : okD d = true) (hr : 0 ≤ rd ∧ rd ≤ 100000) (hw : 0 ≤ wt ∧ wt ≤ 100000) : lateB rd wt d = (!skB d && decide (0 < exc rd wt d)) := by
  have h' : inD d.steps = true ∧ inD d.ahead = true ∧ inD d.frm = true ∧ inD d.til = true := by simpa [okD, allD, cn4] using h
  obtain ⟨s, a, f, t⟩ := h'
  rw [inD_iff] at s a f t
  have m1 : (d.ahead + 1) * wt ≤ 1099511627777 * 100000 := Int.mul_le_mul (by omega) hw.2 hw.1 (by omega)
  have m0 : 0 ≤ (d.ahead + 1) * wt := Int.mul_nonneg (by omega) hw.1
  have w1 : wrap64 (d.ahead + 1) = d.ahead + 1 := Go.IntWalk.wrap64_in _ ⟨by omega, by omega⟩
  have w2 : wrap64 ((d.ahead + 1) * wt) = (d.ahead + 1) * wt := Go.IntWalk.wrap64_in _ ⟨by omega, by omega⟩
  have w3 : wrap64 (d.til - d.frm) = d.til - d.frm := Go.IntWalk.wrap64_in _ ⟨by omega, by omega⟩
  have w4 : wrap64 (d.til - d.frm - (d.ahead + 1) * wt) = d.til - d.frm - (d.ahead + 1) * wt := Go.IntWalk.wrap64_in _ ⟨by omega, by omega⟩
  have w5 : wrap64 (d.steps - rd) = d.steps - rd := Go.IntWalk.wrap64_in _ ⟨by omega, by omega⟩
  unfold lateB skB exc
  rw [Bool.eq_iff_iff]
  by_cases h2 : d.tag = 2
  · rw [if_pos h2, if_pos h2, w1, w2, w3, w4]
    simp [h2]
  · rw [if_neg h2, if_neg h2, w5]
    simp [h2]
theorem late_same {rd wt : Int} (hr : 0 ≤ rd ∧ rd ≤ 100000) (hw : 0 ≤ wt ∧ wt ≤ 100000) : ∀ (ds : List Dn) (k : Nat), (∀ d ∈ ds, okD d = true) → fst0 (exF rd wt k ds) = rfst rd wt k ds
  | [], _, _ => rfl
  | d :: ds, k, h => by
    have e := late_one (h d (by simp)) hr hw
    have ih := late_same hr hw ds (k + 1) (fun d' hd => h d' (by simp [hd]))
    show fst0 (ex1 rd wt k d ++ exF rd wt (k + 1) ds) = if lateB rd wt d then (k : Int) else rfst rd wt (k + 1) ds
    rw [e, ← ih]
    unfold ex1
    cases hs : skB d
    · simp only [Bool.false_eq_true, if_false, Bool.not_false, Bool.true_and, decide_eq_true_eq]
      rfl
    · simp
theorem okD_all {ds : List Dn} (h : allD (cnL ds) = true) : ∀ d ∈ ds, okD d = true := by
  intro d hd
  unfold okD allD cnL at *
  rw [List.all_eq_true] at *
  exact fun x hx => h x (List.mem_flatMap.2 ⟨d, hd, hx⟩)
theorem rfst_none {rd wt : Int} : ∀ (l : List Dn) (k : Nat), (∀ d ∈ l, lateB rd wt d = false) → rfst rd wt k l = -1
  | [], _, _ => rfl
  | d :: l, k, h => by
    show (if lateB rd wt d then (k : Int) else rfst rd wt (k + 1) l) = _
    rw [h d (by simp), if_neg Bool.false_ne_true]
    exact rfst_none l (k + 1) (fun x hx => h x (by simp [hx]))
theorem rfst_some {rd wt : Int} {d : Dn} : ∀ (l m : List Dn) (k : Nat), (∀ d ∈ l, lateB rd wt d = false) → lateB rd wt d = true → rfst rd wt k (l ++ d :: m) = ((k + l.length : Nat) : Int)
  | [], m, k, _, h => by
    show (if lateB rd wt d then (k : Int) else _) = _
    rw [h, if_pos rfl]
    rfl
  | x :: l, m, k, h, h2 => by
    show (if lateB rd wt x then (k : Int) else rfst rd wt (k + 1) (l ++ d :: m)) = _
    rw [h x (by simp), if_neg Bool.false_ne_true, rfst_some l m (k + 1) (fun y hy => h y (by simp [hy])) h2, List.length_cons]
    congr 1
    omega
/-- none of the first k is late -/
def noL (rd wt : Int) (ds : List Dn) (k : Nat) : Prop := ∀ d ∈ ds.take k, lateB rd wt d = false
theorem noL_next {rd wt : Int} {ds : List Dn} {k : Nat} {d : Dn} (h : noL rd wt ds k) (hd : ds[k]? = some d) (hl : lateB rd wt d = false) : noL rd wt ds (k + 1) := by
  unfold noL at *
  rw [List.take_add_one, hd]
  intro x hx
  rcases List.mem_append.1 hx with h1 | h1
  · exact h x h1
  · simp at h1; subst h1; exact hl
theorem noL_hit {rd wt : Int} {ds : List Dn} {k : Nat} {d : Dn} (h : noL rd wt ds k) (hd : ds[k]? = some d) (hl : lateB rd wt d = true) : rfst rd wt 0 ds = (k : Int) := by
  have hk := (List.getElem?_eq_some_iff.1 hd).1
  have e : ds = ds.take k ++ d :: ds.drop (k + 1) := by
    have h1 := List.take_append_drop k ds
    rw [List.drop_eq_getElem_cons hk, (List.getElem?_eq_some_iff.1 hd).2] at h1
    exact h1.symm
  rw [e, rfst_some _ _ 0 h hl, List.length_take]
  congr 1
  omega
theorem noL_end {rd wt : Int} {ds : List Dn} (h : noL rd wt ds ds.length) : rfst rd wt 0 ds = -1 := rfst_none ds 0 (fun d hd => h d (by rw [List.take_length]; exact hd))
/-- what the document's Late answers of a config that may be -/
def rlV (rd wt : Int) (ds : List Dn) : Value := if allD (cnL ds) then okV (rfst rd wt 0 ds) else noV 170
theorem rlV_bad {rd wt : Int} {ds : List Dn} {k : Nat} {d : Dn} {x : Int} (hd : ds[k]? = some d) (hx : x ∈ cn4 d) (h : inD x = false) : rlV rd wt ds = noV 170 := by
  have : allD (cnL ds) = false := by
    unfold allD cnL
    rw [List.all_eq_false]
    exact ⟨x, List.mem_flatMap.2 ⟨d, List.mem_of_getElem? hd, hx⟩, by rw [h]; exact Bool.false_ne_true⟩
  unfold rlV
  rw [this, if_neg Bool.false_ne_true]
theorem allD_next {ds : List Dn} {k : Nat} {d : Dn} (h : allD (cnL (ds.take k)) = true) (hd : ds[k]? = some d) (hx : okD d = true) : allD (cnL (ds.take (k + 1))) = true := by
  rw [cnL_snoc hd]
  unfold okD allD at *
  rw [List.all_append, h, hx]
  rfl
theorem cn4_next {d : Dn} {j : Nat} {x : Int} (h : allD ((cn4 d).take j) = true) (hx : (cn4 d)[j]? = some x) (hi : inD x = true) : allD ((cn4 d).take (j + 1)) = true := by
  rw [List.take_add_one, hx]
  exact allD_yes hi h
section
variable (a b c e : Int) (p : Option Addr) (len cap : Nat) (w : World)
set_option maxRecDepth 100000 in
theorem rlate_cfg (hc : cfgB a b c e = false) : Calls Try.prog 12 #[cfgV a b c e, .slice p len cap] w fun r w' => r = .returned (noV 1) ∧ Below w.heap.size w w' := by
  have HR := Lib.hid (fun W => rreader_no a b c e W hc)
  clear hc
  go_enter Try.func12, Try.ntmps12
  go_wp2_with (go_at_call 8; refine (HR.out _).mono ?_; rintro r w1 ⟨rfl, hb⟩; have HB := Lib.hid hb; clear hb)
  refine bodyPost_ret (v := noV 1) (by simp [results, Try.results12, go_sem]) rfl ?_
  exact ⟨rfl, below_chain ((Below.refl _ _).alloc (Nat.le_refl _) _) HB.out⟩
set_option maxRecDepth 100000 in
set_option maxHeartbeats 1200000 in
theorem rlate_ok (hc : cfgB a b c e = true) (ds : List Dn) (bb off : Nat) (hmx : ds.length ≤ 9223372036854775807) (hD : DnsAt w.heap.size w bb off ds) :
    Calls Try.prog 12 #[cfgV a b c e, .slice (some ⟨bb, off, none⟩) ds.length cap] w fun r w' => r = .returned (rlV (rdN c) (wrN b c e) ds) ∧ Below w.heap.size w w' := by
  have HR := Lib.hid (fun W => rreader_yes a b c e W hc)
  have HW := Lib.hid (fun W => rwriter_yes a b c e W hc)
  have HD := Lib.hid hD
  clear hc hD
  go_enter Try.func12, Try.ntmps12
  go_wp2_with (first
    | (go_at_call 8; refine (HR.out _).mono ?_; clear HR; rintro r w1 ⟨rfl, hb⟩; have HX1 := Lib.hid (bcells4 hb (heap_alloc_new w _)); have HB1 := Lib.hid (below_chain ((Below.refl _ w).alloc (Nat.le_refl _) _) hb); obtain ⟨q0, q1, q2, q3, q4⟩ := cells4 HX1.out; clear hb)
    | (go_at_call 10; refine (HW.out _).mono ?_; clear HW; rintro r w2 ⟨rfl, hb⟩; have HB2 := Lib.hid (below_chain HB1.out hb); clear hb q0 q1 q2 q3))
  go_loopw [31] (fun i wr => ∃ k : Nat, k ≤ ds.length ∧ i = .int .i64 k ∧ allD (cnL (ds.take k)) = true ∧ Below w.heap.size w wr) (fun i _ => ds.length - (intOf i).toNat)
  case atStart => exact ⟨0, Nat.zero_le _, rfl, rfl, HB2.out⟩
  case round =>
    obtain ⟨k, hk, rfl, hal, hB⟩ := hrel
    by_cases hlt : k < ds.length
    · have hd : ds[k]? = some ds[k] := List.getElem?_eq_getElem hlt
      obtain ⟨dk, hdk⟩ : ∃ dk, ds[k] = dk := ⟨_, rfl⟩
      rw [hdk] at hd
      obtain ⟨cs, hcc, hcd⟩ := (HD.out.below hB).2 k _ hd
      have HC := Lib.hid hcc
      have HD' := Lib.hid hcd
      obtain ⟨q3, q5, q15, q16, q17, q18⟩ := box_cells hcd (heap_alloc_new wr (.cells cs 38))
      clear hcc hcd q3 q5
      go_wp2_with (first
        | (refine wpList_load_at rfl 38 _ rfl bb (off + k * 19) rfl cs _ (fun j hj => HC.out j (by rw [HD'.out.size] at hj; exact hj)) Try.underlying38 rfl (by rw [HD'.out.size]; exact deedInfo) ?_; simp only [Act.put, List.setIfInBounds_toArray, List.set_cons_zero, List.set_cons_succ])
        | (refine wpList_store_row rfl 38 _ _ rfl wr.heap.size cs rfl rfl _ _ (heap_alloc_new _ _) (by rw [HD'.out.size]; exact deedInfo) (by rw [HD'.out.size]; rfl) HD'.out.one ?_; rw [World.setRow_alloc_new]; simp only [Act.put]))
      have hz := heap_alloc_new (wr.alloc (.cells cs 38)) (.cells #[.int .i64 dk.steps, .int .i64 dk.ahead, .int .i64 dk.frm, .int .i64 dk.til] 3)
      rw [World.size_alloc] at hz
      obtain ⟨z0, z1, z2, z3, z4⟩ := cells4 hz
      have HBz := Lib.hid ((hB.alloc hB.size (.cells cs 38)).alloc (by have := hB.size; simp; omega) (.cells #[.int .i64 dk.steps, .int .i64 dk.ahead, .int .i64 dk.frm, .int .i64 dk.til] 3))
      obtain ⟨wz, hwz⟩ : ∃ wz, (wr.alloc (.cells cs 38)).alloc (.cells #[.int .i64 dk.steps, .int .i64 dk.ahead, .int .i64 dk.frm, .int .i64 dk.til] 3) = wz := ⟨_, rfl⟩
      rw [hwz] at z0 z1 z2 z3 z4 HBz ⊢
      clear hz hwz q15 q16 q17 q18
      go_loopw [45] (fun i wq => ∃ j : Nat, j ≤ 4 ∧ i = .int .i64 j ∧ wq = wz ∧ allD ((cn4 dk).take j) = true) (fun i _ => 4 - (intOf i).toNat)
      case atStart => exact ⟨0, by omega, rfl, rfl, rfl⟩
      case round =>
        obtain ⟨j, hj, rfl, rfl, haj⟩ := hrel
        have HA := Lib.hid haj
        clear haj
        match j, hj with
        | 0, _ =>
          by_cases g1 : dk.steps < 0
          · go_wp2
            refine bodyPost_ret (v := noV 170) (by simp [results, Try.results12, go_sem]) rfl ?_
            exact ⟨by rw [rlV_bad hd (x := dk.steps) (by simp [cn4]) (inD_lo g1)], HBz.out⟩
          by_cases g2 : 1099511627776 < dk.steps
          · go_wp2
            refine bodyPost_ret (v := noV 170) (by simp [results, Try.results12, go_sem]) rfl ?_
            exact ⟨by rw [rlV_bad hd (x := dk.steps) (by simp [cn4]) (inD_hi g2)], HBz.out⟩
          go_wp2
          go_roundw
          case rel => exact ⟨0 + 1, by omega, rfl, trivial, cn4_next HA.out rfl (inD_ok (x := dk.steps) (by omega) (by omega))⟩
          case measure => simp [intOf]
        | 1, _ =>
          by_cases g1 : dk.ahead < 0
          · go_wp2
            refine bodyPost_ret (v := noV 170) (by simp [results, Try.results12, go_sem]) rfl ?_
            exact ⟨by rw [rlV_bad hd (x := dk.ahead) (by simp [cn4]) (inD_lo g1)], HBz.out⟩
          by_cases g2 : 1099511627776 < dk.ahead
          · go_wp2
            refine bodyPost_ret (v := noV 170) (by simp [results, Try.results12, go_sem]) rfl ?_
            exact ⟨by rw [rlV_bad hd (x := dk.ahead) (by simp [cn4]) (inD_hi g2)], HBz.out⟩
          go_wp2
          go_roundw
          case rel => exact ⟨1 + 1, by omega, rfl, trivial, cn4_next HA.out rfl (inD_ok (x := dk.ahead) (by omega) (by omega))⟩
          case measure => simp [intOf]
        | 2, _ =>
          by_cases g1 : dk.frm < 0
          · go_wp2
            refine bodyPost_ret (v := noV 170) (by simp [results, Try.results12, go_sem]) rfl ?_
            exact ⟨by rw [rlV_bad hd (x := dk.frm) (by simp [cn4]) (inD_lo g1)], HBz.out⟩
          by_cases g2 : 1099511627776 < dk.frm
          · go_wp2
            refine bodyPost_ret (v := noV 170) (by simp [results, Try.results12, go_sem]) rfl ?_
            exact ⟨by rw [rlV_bad hd (x := dk.frm) (by simp [cn4]) (inD_hi g2)], HBz.out⟩
          go_wp2
          go_roundw
          case rel => exact ⟨2 + 1, by omega, rfl, trivial, cn4_next HA.out rfl (inD_ok (x := dk.frm) (by omega) (by omega))⟩
          case measure => simp [intOf]
        | 3, _ =>
          by_cases g1 : dk.til < 0
          · go_wp2
            refine bodyPost_ret (v := noV 170) (by simp [results, Try.results12, go_sem]) rfl ?_
            exact ⟨by rw [rlV_bad hd (x := dk.til) (by simp [cn4]) (inD_lo g1)], HBz.out⟩
          by_cases g2 : 1099511627776 < dk.til
          · go_wp2
            refine bodyPost_ret (v := noV 170) (by simp [results, Try.results12, go_sem]) rfl ?_
            exact ⟨by rw [rlV_bad hd (x := dk.til) (by simp [cn4]) (inD_hi g2)], HBz.out⟩
          go_wp2
          go_roundw
          case rel => exact ⟨3 + 1, by omega, rfl, trivial, cn4_next HA.out rfl (inD_ok (x := dk.til) (by omega) (by omega))⟩
          case measure => simp [intOf]
        | 4, _ =>
          go_wp2
          exact ⟨⟨k + 1, by omega, by simp, allD_next hal hd HA.out, HBz.out⟩, by simp [intOf]; omega⟩
    · obtain rfl : k = ds.length := by omega
      rw [List.take_length] at hal
      have HB := Lib.hid hB
      obtain ⟨rd, hrd⟩ : ∃ rd, rdN c = rd := ⟨_, rfl⟩
      obtain ⟨wt, hwt⟩ : ∃ wt, wrN b c e = wt := ⟨_, rfl⟩
      have HV : Hid (rlV (rdN c) (wrN b c e) ds = okV (rfst rd wt 0 ds)) := Lib.hid (by unfold rlV; rw [hal, if_pos rfl, hrd, hwt])
      rw [hrd, hwt]
      clear hal hB hrd hwt HB1 HX1
      go_wp2
      go_loopw [59] (fun i wq => ∃ k : Nat, k ≤ ds.length ∧ i = .int .i64 k ∧ noL rd wt ds k ∧ Below w.heap.size w wq) (fun i _ => ds.length - (intOf i).toNat)
      case atStart => exact ⟨0, Nat.zero_le _, rfl, (fun d hd => by cases hd), HB.out⟩
      case round =>
        obtain ⟨k, hk, rfl, hal, hB⟩ := hrel
        by_cases hlt : k < ds.length
        · have hd : ds[k]? = some ds[k] := List.getElem?_eq_getElem hlt
          obtain ⟨dk, hdk⟩ : ∃ dk, ds[k] = dk := ⟨_, rfl⟩
          rw [hdk] at hd
          obtain ⟨cs, hcc, hcd⟩ := (HD.out.below hB).2 k _ hd
          have HC := Lib.hid hcc
          have HD' := Lib.hid hcd
          obtain ⟨q3, q5, q15, q16, q17, q18⟩ := box_cells hcd (heap_alloc_new wr (.cells cs 38))
          have HBn := Lib.hid (hB.alloc hB.size (.cells cs 38))
          have HC1 : ∀ j, j < cs.size → wr.cell? ⟨bb, off + k * 19 + j, none⟩ = cs[j]? := fun j hj => hcc j (by rw [hcd.size] at hj; exact hj)
          have HI1 : (Try.prog.info? 38).map (·.size) = some cs.size := by rw [hcd.size]; exact deedInfo
          have HS1 : Hid (19 = cs.size) := Lib.hid hcd.size.symm
          have HO1 := hcd.one
          clear hcc hcd
          have HN := Lib.hid hal
          clear hal
          cases hl : lateB rd wt dk
          · have HL := Lib.hid hl
            by_cases h2 : dk.tag = 2
            · have hl' : dk.mark < 0 ∨ (0 ≤ dk.mark ∧ wrap64 (dk.til - dk.frm) ≤ wrap64 (wrap64 (dk.ahead + 1) * wt)) := by
                unfold lateB at hl
                rw [if_pos h2] at hl
                simp at hl
                omega
              clear hl
              rw [h2] at q3
              rcases hl' with g | ⟨g1, g2⟩
              · go_wp2_with (first
                  | (refine wpList_load_at rfl 38 _ rfl bb (off + k * 19) rfl cs _ HC1 Try.underlying38 rfl HI1 ?_; clear HC1; simp only [Act.put, List.setIfInBounds_toArray, List.set_cons_zero, List.set_cons_succ])
                  | (refine wpList_store_row rfl 38 _ _ rfl wr.heap.size cs rfl rfl _ _ (heap_alloc_new _ _) HI1 HS1.out HO1 ?_; clear HS1 HI1 HO1; rw [World.setRow_alloc_new]; simp only [Act.put]; refine Hid.out ?_))
                refine Lib.hid ?_
                go_wp2
                go_roundw
                case rel => exact ⟨k + 1, by omega, by simp, noL_next HN.out hd HL.out, HBn.out⟩
                case measure => simp [intOf]; omega
              · go_wp2_with (first
                  | (refine wpList_load_at rfl 38 _ rfl bb (off + k * 19) rfl cs _ HC1 Try.underlying38 rfl HI1 ?_; clear HC1; simp only [Act.put, List.setIfInBounds_toArray, List.set_cons_zero, List.set_cons_succ])
                  | (refine wpList_store_row rfl 38 _ _ rfl wr.heap.size cs rfl rfl _ _ (heap_alloc_new _ _) HI1 HS1.out HO1 ?_; clear HS1 HI1 HO1; rw [World.setRow_alloc_new]; simp only [Act.put]; refine Hid.out ?_))
                refine Lib.hid ?_
                go_wp2
                go_roundw
                case rel => exact ⟨k + 1, by omega, by simp, noL_next HN.out hd HL.out, HBn.out⟩
                case measure => simp [intOf]; omega
            · have hl' : dk.steps ≤ rd := by
                unfold lateB at hl
                rw [if_neg h2] at hl
                simpa using hl
              clear hl
              go_wp2_with (first
                  | (refine wpList_load_at rfl 38 _ rfl bb (off + k * 19) rfl cs _ HC1 Try.underlying38 rfl HI1 ?_; clear HC1; simp only [Act.put, List.setIfInBounds_toArray, List.set_cons_zero, List.set_cons_succ])
                  | (refine wpList_store_row rfl 38 _ _ rfl wr.heap.size cs rfl rfl _ _ (heap_alloc_new _ _) HI1 HS1.out HO1 ?_; clear HS1 HI1 HO1; rw [World.setRow_alloc_new]; simp only [Act.put]; refine Hid.out ?_))
              refine Lib.hid ?_
              go_wp2
              go_roundw
              case rel => exact ⟨k + 1, by omega, by simp, noL_next HN.out hd HL.out, HBn.out⟩
              case measure => simp [intOf]; omega
          · have HL := Lib.hid hl
            by_cases h2 : dk.tag = 2
            · have hl' : 0 ≤ dk.mark ∧ wrap64 (wrap64 (dk.ahead + 1) * wt) < wrap64 (dk.til - dk.frm) := by
                unfold lateB at hl
                rw [if_pos h2] at hl
                simpa using hl
              clear hl
              rw [h2] at q3
              obtain ⟨g1, g2⟩ := hl'
              go_wp2_with (first
                  | (refine wpList_load_at rfl 38 _ rfl bb (off + k * 19) rfl cs _ HC1 Try.underlying38 rfl HI1 ?_; clear HC1; simp only [Act.put, List.setIfInBounds_toArray, List.set_cons_zero, List.set_cons_succ])
                  | (refine wpList_store_row rfl 38 _ _ rfl wr.heap.size cs rfl rfl _ _ (heap_alloc_new _ _) HI1 HS1.out HO1 ?_; clear HS1 HI1 HO1; rw [World.setRow_alloc_new]; simp only [Act.put]; refine Hid.out ?_))
              refine Lib.hid ?_
              go_wp2
              refine bodyPost_ret (v := okV (k : Int)) (by simp [results, Try.results12, go_sem]) rfl ?_
              exact ⟨by rw [HV.out, noL_hit HN.out hd HL.out], HBn.out⟩
            · have hl' : rd < dk.steps := by
                unfold lateB at hl
                rw [if_neg h2] at hl
                simpa using hl
              clear hl
              go_wp2_with (first
                  | (refine wpList_load_at rfl 38 _ rfl bb (off + k * 19) rfl cs _ HC1 Try.underlying38 rfl HI1 ?_; clear HC1; simp only [Act.put, List.setIfInBounds_toArray, List.set_cons_zero, List.set_cons_succ])
                  | (refine wpList_store_row rfl 38 _ _ rfl wr.heap.size cs rfl rfl _ _ (heap_alloc_new _ _) HI1 HS1.out HO1 ?_; clear HS1 HI1 HO1; rw [World.setRow_alloc_new]; simp only [Act.put]; refine Hid.out ?_))
              refine Lib.hid ?_
              go_wp2
              refine bodyPost_ret (v := okV (k : Int)) (by simp [results, Try.results12, go_sem]) rfl ?_
              exact ⟨by rw [HV.out, noL_hit HN.out hd HL.out], HBn.out⟩
        · obtain rfl : k = ds.length := by omega
          go_wp2
          refine bodyPost_ret (v := okV (-1)) (by simp [results, Try.results12, go_sem]) rfl ?_
          exact ⟨by rw [HV.out, noL_end hal], hB⟩
set_option maxRecDepth 100000 in
set_option maxHeartbeats 1200000 in
theorem rlate_nil (hc : cfgB a b c e = true) : Calls Try.prog 12 #[cfgV a b c e, .slice p 0 cap] w fun r w' => r = .returned (okV (-1)) ∧ Below w.heap.size w w' := by
  have HR := Lib.hid (fun W => rreader_yes a b c e W hc)
  have HW := Lib.hid (fun W => rwriter_yes a b c e W hc)
  clear hc
  go_enter Try.func12, Try.ntmps12
  go_wp2_with (first
    | (go_at_call 8; refine (HR.out _).mono ?_; clear HR; rintro r w1 ⟨rfl, hb⟩; have HX1 := Lib.hid (bcells4 hb (heap_alloc_new w _)); have HB1 := Lib.hid (below_chain ((Below.refl _ w).alloc (Nat.le_refl _) _) hb); obtain ⟨q0, q1, q2, q3, q4⟩ := cells4 HX1.out; clear hb)
    | (go_at_call 10; refine (HW.out _).mono ?_; clear HW; rintro r w2 ⟨rfl, hb⟩; have HB2 := Lib.hid (below_chain HB1.out hb); clear hb q0 q1 q2 q3))
  go_loopw [31] (fun i wr => i = .int .i64 0 ∧ wr = w2) (fun _ _ => 0)
  case atStart => exact ⟨rfl, rfl⟩
  case round =>
    obtain ⟨rfl, rfl⟩ := hrel
    go_wp2
    go_loopw [59] (fun i wq => i = .int .i64 0 ∧ wq = wr) (fun _ _ => 0)
    case atStart => exact ⟨rfl, rfl⟩
    case round =>
      obtain ⟨rfl, rfl⟩ := hrel
      go_wp2
      refine bodyPost_ret (v := okV (-1)) (by simp [results, Try.results12, go_sem]) rfl ?_
      exact ⟨rfl, HB2.out⟩
end
/-- both answer the same -/
theorem late_both (a b c e : Int) (p : Option Addr) (len cap : Nat) (w : World) (ds : List Dn) (hl : len = ds.length) (hmx : ds.length ≤ 9223372036854775807) (hD : DnL w.heap.size w (.slice p len cap) ds) :
    ∃ V k : Int, (∀ u, Below w.heap.size w u → Calls Try.prog 11 #[cfgV a b c e, .slice p len cap] u fun r w' => r = .returned (.tuple #[.int .i64 V, .int .i64 k]) ∧ Below u.heap.size u w') ∧
      (∀ u, Below w.heap.size w u → Calls Try.prog 12 #[cfgV a b c e, .slice p len cap] u fun r w' => r = .returned (.tuple #[.int .i64 V, .int .i64 k]) ∧ Below u.heap.size u w') := by
  cases hc : cfgB a b c e with
  | false => exact ⟨0, 1, fun u _ => late_cfg a b c e p len cap u hc, fun u _ => rlate_cfg a b c e p len cap u hc⟩
  | true =>
    have hr : 0 ≤ rdN c ∧ rdN c ≤ 100000 := by
      obtain ⟨⟨_, _⟩, ⟨_, _⟩, ⟨_, _⟩, ⟨_, _⟩⟩ := cfgB_iff.1 hc
      unfold rdN
      omega
    have hw : 0 ≤ wrN b c e ∧ wrN b c e ≤ 100000 := by
      obtain ⟨⟨_, _⟩, ⟨_, _⟩, ⟨_, _⟩, ⟨_, _⟩⟩ := cfgB_iff.1 hc
      unfold wrN rdN
      omega
    have on : ∀ u, Below w.heap.size w u → DnL u.heap.size u (.slice p len cap) ds := fun u hu => (hD.below hu).mono hu.size
    cases hz : allD (cnL ds) with
    | false =>
      refine ⟨0, 170, fun u hu => late_his a b c e p len cap u hc ds hmx (on u hu) hz, fun u hu => ?_⟩
      rcases on u hu with ⟨rfl, _⟩ | ⟨bb, off, c', e', h⟩
      · cases hz
      · simp only [Value.slice.injEq] at e'
        obtain ⟨rfl, _, rfl⟩ := e'
        subst hl
        have h2 := rlate_ok a b c e cap u hc ds bb off hmx h
        unfold rlV at h2
        rw [hz, if_neg Bool.false_ne_true] at h2
        exact h2
    | true =>
      refine ⟨rfst (rdN c) (wrN b c e) 0 ds, 0, fun u hu => ?_, fun u hu => ?_⟩
      · have h1 := late_ok a b c e p len cap u hc ds hmx (on u hu) hz
        rw [late_same hr hw ds 0 (okD_all hz)] at h1
        exact h1
      · rcases on u hu with ⟨rfl, _⟩ | ⟨bb, off, c', e', h⟩
        · subst hl
          exact rlate_nil a b c e p cap u hc
        · simp only [Value.slice.injEq] at e'
          obtain ⟨rfl, _, rfl⟩ := e'
          subst hl
          have h2 := rlate_ok a b c e cap u hc ds bb off hmx h
          unfold rlV at h2
          rw [hz, if_pos rfl] at h2
          exact h2
end Go.Proofs.Ytpimfhkigbcniaa.Bo
