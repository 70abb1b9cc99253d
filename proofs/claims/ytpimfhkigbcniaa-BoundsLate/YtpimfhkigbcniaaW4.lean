import Derived.Test.YtpimfhkigbcniaaW3
namespace Go.Proofs.Ytpimfhkigbcniaa.Bo
open Go.ChangeShapes Go.WideShapes Go.ChangeAt Go.RowKit Go.Shelf Md En
attribute [local go_sem] Oper.semAt_some

/-- by how much a deed is beyond its bound, as the program reckons it -/
def exc (rd wr : Int) (d : Dn) : Int := if d.tag = 2 then wrap64 (wrap64 (d.til - d.frm) - wrap64 (wrap64 (d.ahead + 1) * wr)) else wrap64 (d.steps - rd)
def skB (d : Dn) : Bool := decide (d.tag = 2) && decide (d.mark < 0)
def ex1 (rd wr : Int) (k : Nat) (d : Dn) : List (Int × Int) := if skB d then [] else [((k : Int), exc rd wr d)]
def exF (rd wr : Int) : Nat → List Dn → List (Int × Int)
  | _, [] => []
  | k, d :: ds => ex1 rd wr k d ++ exF rd wr (k + 1) ds
theorem exF_append (rd wr : Int) : ∀ (l m : List Dn) (k : Nat), exF rd wr k (l ++ m) = exF rd wr k l ++ exF rd wr (k + l.length) m
  | [], m, k => by simp [exF]
  | d :: l, m, k => by
    show ex1 rd wr k d ++ exF rd wr (k + 1) (l ++ m) = ex1 rd wr k d ++ exF rd wr (k + 1) l ++ _
    rw [exF_append rd wr l m (k + 1), List.append_assoc, List.length_cons, show k + 1 + l.length = k + (l.length + 1) by omega]
theorem exF_snoc {rd wr : Int} {ds : List Dn} {k : Nat} {d : Dn} (h : ds[k]? = some d) : exF rd wr 0 (ds.take (k + 1)) = exF rd wr 0 (ds.take k) ++ ex1 rd wr k d := by
  have hl : (ds.take k).length = k := by
    have := (List.getElem?_eq_some_iff.1 h).1
    rw [List.length_take]
    omega
  rw [List.take_add_one, h, exF_append, hl]
  simp [exF]
theorem exF_pre {rd wr : Int} (ds : List Dn) (k : Nat) : exF rd wr 0 (ds.take k) <+: exF rd wr 0 ds := by
  have h : exF rd wr 0 ds = exF rd wr 0 (ds.take k ++ ds.drop k) := by rw [List.take_append_drop]
  rw [h, exF_append]
  exact List.prefix_append _ _
theorem exF_len (rd wr : Int) : ∀ (l : List Dn) (k : Nat), (exF rd wr k l).length ≤ l.length
  | [], _ => Nat.le_refl _
  | d :: l, k => by
    have ih := exF_len rd wr l (k + 1)
    show (ex1 rd wr k d ++ exF rd wr (k + 1) l).length ≤ _
    have h1 : (ex1 rd wr k d).length ≤ 1 := by unfold ex1; split <;> simp
    simp only [List.length_append, List.length_cons]
    omega
set_option maxRecDepth 100000 in
theorem excessOf_any {cs : Array Value} {d : Dn} (hd : DnC cs d) (rd wr : Int) (w : World) : Calls Try.prog 21 #[.agg cs, .int .i64 rd, .int .i64 wr] w fun e w' => e = .returned (.int .i64 (exc rd wr d)) ∧ w' = w.alloc (.cells cs 38) := by
  have b1 := box_cells hd (heap_alloc_new w (.cells cs 38))
  obtain ⟨q3, q5, q15, q16, q17, q18⟩ := b1
  by_cases h2 : d.tag = 2
  · have e1 : exc rd wr d = wrap64 (wrap64 (d.til - d.frm) - wrap64 (wrap64 (d.ahead + 1) * wr)) := if_pos h2
    rw [e1]
    rw [h2] at q3
    clear e1 h2 q5 hd
    go_enter Try.func21, Try.ntmps21
    go_wp2
    go_ret
    exact ⟨rfl, rfl⟩
  · have e1 : exc rd wr d = wrap64 (d.steps - rd) := if_neg h2
    rw [e1]
    go_enter Try.func21, Try.ntmps21
    go_wp2
    go_ret
    exact ⟨rfl, rfl⟩
set_option maxRecDepth 100000 in
set_option maxHeartbeats 4000000 in
theorem excesses1_in (n : Nat) (hn : 1 ≤ n) (l Bl Br Bw B b off len cap : Nat) (rd wt : Int) (ds : List Dn) (hlen : len = ds.length) (hmx : len ≤ 9223372036854775807) (R : Nat → Prop) (J Jx : List (Int × Int) → World → Prop) (B0 : Nat) (hJ : AbidesFrom B0 J)
    (hY : ∀ pre x W, J pre W → pre.length < ds.length → YieldAt Fence.wide (n - 1) Try.prog l #[.int .i64 x.1, .int .i64 x.2] W fun e W' =>
      (e = .returned (.bool true) ∧ J (pre ++ [x]) W' ∧ KC R W W') ∨ (e = .returned (.bool false) ∧ Jx (pre ++ [x]) W'))
    (W : World) (hr : ∀ x, R x → B ≤ x ∧ x < W.heap.size) (hrr : ¬ R Br) (hrw : ¬ R Bw) (hBl : W.cell? ⟨Bl, 0, none⟩ = some (.slice (some ⟨b, off, none⟩) len cap)) (hBr : W.cell? ⟨Br, 0, none⟩ = some (.int .i64 rd)) (hBw : W.cell? ⟨Bw, 0, none⟩ = some (.int .i64 wt)) (hD : DnsAt B W b off ds) (h0 : J [] W) :
    CallsIn Fence.wide n Try.prog 20 #[.func (.yield l) #[] #[], .pointer (some ⟨Bl, 0, none⟩), .pointer (some ⟨Br, 0, none⟩), .pointer (some ⟨Bw, 0, none⟩)] W fun e W' => (∃ v, e = .returned v) ∧
      ((∃ ys, ys = exF rd wt 0 ds ∧ J ys W') ∨ (∃ pre, pre <+: exF rd wt 0 ds ∧ Jx pre W')) := by
  refine callsIn_of_wp Try.func20 rfl trivial ?_ rfl
  simp only [Try.ntmps20, List.size_toArray, List.length_cons, List.length_nil, Nat.reduceAdd, Nat.reduceSub, Array.replicate_succ, Array.replicate_zero, List.push_toArray, List.append_toArray, List.nil_append, List.cons_append]
  gi_wp2
  gi_loopw [9] (fun i wr' => ∃ k : Nat, k ≤ len ∧ i = .int .i64 k ∧ J (exF rd wt 0 (ds.take k)) wr' ∧ KC R W wr')
    (fun i _ => len - (intOf i).toNat)
  case atStart => exact ⟨0, Nat.zero_le _, rfl, h0, KC.refl _ _⟩
  case round =>
    obtain ⟨k, hk, rfl, hJs, hnx⟩ := hrel
    by_cases hlt : k < len
    · have hd : ds[k]? = some ds[k] := List.getElem?_eq_getElem (by omega)
      obtain ⟨cs, hc, hcd⟩ := (hD.kc hnx (fun x h => (hr x h).1)).2 k _ hd
      have hpl : (exF rd wt 0 (ds.take k)).length ≤ k := Nat.le_trans (exF_len _ _ _ _) (by rw [List.length_take]; omega)
      obtain ⟨dk, hdk⟩ : ∃ dk, ds[k] = dk := ⟨_, rfl⟩
      rw [hdk] at hd hcd
      have nr : ¬ R wr.heap.size := fun h => by have h1 := (hr _ h).2; have h2 := hnx.size; omega
      have J1 := abides_alloc hJ hJs (.cells cs 38)
      have HC := Lib.hid hc
      have HD := Lib.hid hcd
      have b1 := box_cells hcd (heap_alloc_new wr (.cells cs 38))
      obtain ⟨q3, q5, q15, q16, q17, q18⟩ := b1
      have r1 := cell_al (.cells cs 38) (hnx.cell (a := ⟨Br, 0, none⟩) hrr hBr)
      have r2 := cell_al (.cells cs 38) (hnx.cell (a := ⟨Bw, 0, none⟩) hrw hBw)
      clear hc hcd q15 q16 q17 q18
      by_cases h2 : dk.tag = 2
      · rw [h2] at q3
        by_cases hm : dk.mark < 0
        · gi_wp2_with (first 
        | (refine wpListIn_load_at rfl 38 _ rfl b (off + k * 19) rfl cs _ (fun j hj => HC.out j (by rw [HD.out.size] at hj; exact hj)) Try.underlying38 rfl (by rw [HD.out.size]; exact deedInfo) ?_)
        | (refine wpListIn_load_at rfl 38 _ rfl wr.heap.size 0 rfl cs _ (fun j _ => by rw [cell_of_row _ _ _ _ _ _ (heap_alloc_new wr (.cells cs 38)), Nat.zero_add]) Try.underlying38 rfl (by rw [HD.out.size]; exact deedInfo) ?_)
        | (refine wpListIn_store_at rfl 38 _ _ rfl wr.heap.size cs rfl rfl _ _ (heap_alloc_new _ _) (by rw [HD.out.size]; exact deedInfo) (by rw [HD.out.size]; rfl) HD.out.one ?_; rw [World.setRow_alloc_new])
        | (refine ⟨trivial, ?_⟩; gi_at_call 21; refine (callsIn_wide.2 (excessOf_any HD.out rd wt _)).mono ?_; rintro e w2 ⟨rfl, rfl⟩))
          go_roundw
          case rel => exact ⟨k + 1, by omega, by simp, by rw [exF_snoc hd, show ex1 rd wt k dk = [] by simp [ex1, skB, h2, hm], List.append_nil]; exact J1, hnx.alloc _⟩
          case measure => simp [intOf]; omega
        · have ek : ex1 rd wt k dk = [((k : Int), exc rd wt dk)] := by simp [ex1, skB, h2, hm]
          have J2 := abides_alloc hJ J1 (.cells cs 38)
          obtain ⟨f1, t1, as1, bd1, hy1, hR1⟩ := hY _ ((k : Int), exc rd wt dk) _ J2 (by omega)
          dsimp only at hy1
          gi_wp2_with (first 
        | (refine wpListIn_load_at rfl 38 _ rfl b (off + k * 19) rfl cs _ (fun j hj => HC.out j (by rw [HD.out.size] at hj; exact hj)) Try.underlying38 rfl (by rw [HD.out.size]; exact deedInfo) ?_)
        | (refine wpListIn_load_at rfl 38 _ rfl wr.heap.size 0 rfl cs _ (fun j _ => by rw [cell_of_row _ _ _ _ _ _ (heap_alloc_new wr (.cells cs 38)), Nat.zero_add]) Try.underlying38 rfl (by rw [HD.out.size]; exact deedInfo) ?_)
        | (refine wpListIn_store_at rfl 38 _ _ rfl wr.heap.size cs rfl rfl _ _ (heap_alloc_new _ _) (by rw [HD.out.size]; exact deedInfo) (by rw [HD.out.size]; rfl) HD.out.one ?_; rw [World.setRow_alloc_new])
        | (refine ⟨trivial, ?_⟩; gi_at_call 21; refine (callsIn_wide.2 (excessOf_any HD.out rd wt _)).mono ?_; rintro e w2 ⟨rfl, rfl⟩))
          refine hR1.mono ?_
          rintro e W1 (⟨rfl, J3, k1⟩ | ⟨rfl, x1⟩)
          · gi_wp2
            go_roundw
            case rel => exact ⟨k + 1, by omega, by simp, by rw [exF_snoc hd, ek]; exact J3, ((hnx.alloc _).alloc _).trans k1⟩
            case measure => simp [intOf]; omega
          · gi_wp2
            refine bodyPost_ret (results_none rfl _ _ _) rfl ?_
            refine ⟨⟨_, rfl⟩, .inr ⟨_, ?_, x1⟩⟩
            have := exF_pre (rd := rd) (wr := wt) ds (k + 1)
            rwa [exF_snoc hd, ek] at this
      · have ek : ex1 rd wt k dk = [((k : Int), exc rd wt dk)] := by simp [ex1, skB, h2]
        have J2 := abides_alloc hJ J1 (.cells cs 38)
        obtain ⟨f1, t1, as1, bd1, hy1, hR1⟩ := hY _ ((k : Int), exc rd wt dk) _ J2 (by omega)
        dsimp only at hy1
        gi_wp2_with (first 
      | (refine wpListIn_load_at rfl 38 _ rfl b (off + k * 19) rfl cs _ (fun j hj => HC.out j (by rw [HD.out.size] at hj; exact hj)) Try.underlying38 rfl (by rw [HD.out.size]; exact deedInfo) ?_)
      | (refine wpListIn_load_at rfl 38 _ rfl wr.heap.size 0 rfl cs _ (fun j _ => by rw [cell_of_row _ _ _ _ _ _ (heap_alloc_new wr (.cells cs 38)), Nat.zero_add]) Try.underlying38 rfl (by rw [HD.out.size]; exact deedInfo) ?_)
      | (refine wpListIn_store_at rfl 38 _ _ rfl wr.heap.size cs rfl rfl _ _ (heap_alloc_new _ _) (by rw [HD.out.size]; exact deedInfo) (by rw [HD.out.size]; rfl) HD.out.one ?_; rw [World.setRow_alloc_new])
      | (refine ⟨trivial, ?_⟩; gi_at_call 21; refine (callsIn_wide.2 (excessOf_any HD.out rd wt _)).mono ?_; rintro e w2 ⟨rfl, rfl⟩))
        refine hR1.mono ?_
        rintro e W1 (⟨rfl, J3, k1⟩ | ⟨rfl, x1⟩)
        · gi_wp2
          go_roundw
          case rel => exact ⟨k + 1, by omega, by simp, by rw [exF_snoc hd, ek]; exact J3, ((hnx.alloc _).alloc _).trans k1⟩
          case measure => simp [intOf]; omega
        · gi_wp2
          refine bodyPost_ret (results_none rfl _ _ _) rfl ?_
          refine ⟨⟨_, rfl⟩, .inr ⟨_, ?_, x1⟩⟩
          have := exF_pre (rd := rd) (wr := wt) ds (k + 1)
          rwa [exF_snoc hd, ek] at this
    · obtain rfl : k = len := by omega
      gi_wp2
      go_end0
      refine ⟨⟨_, rfl⟩, .inl ⟨_, ?_, hJs⟩⟩
      rw [hlen, List.take_length]
end Go.Proofs.Ytpimfhkigbcniaa.Bo
