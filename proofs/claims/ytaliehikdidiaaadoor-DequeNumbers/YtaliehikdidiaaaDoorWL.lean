/- stage 22 (deque): Room, Make -/
import Derived.Test.YtaliehikdidiaaaDoorWK
namespace Go.Proofs.YtaliehikdidiaaaDoor.Dq
open Go.ChangeShapes Go.WideShapes Go.ChangeAt Go.RowKit Num Go.Maps As
open Go.ChangeMaps Go.MapKept
attribute [local go_sem] run_store_float frombits_run bits_run

/-- P22.1 -/
def roomV (c : Int) : Int := if c < 3 then 0 else if 18 ≤ c then 16 else c - 2
theorem roomV_in (c : Int) : 0 ≤ roomV c ∧ roomV c ≤ 16 := by
  unfold roomV
  split
  · omega
  · split <;> omega
set_option maxRecDepth 100000 in
theorem room_any (c : Int) (hc : c ≤ 9223372036854775807) (w : World) : Calls Tryd.prog 5 #[.int .i64 c] w fun e w' => e = .returned (.int .i64 (roomV c)) ∧ w' = w := by
  unfold roomV
  by_cases h : c < 3
  · rw [if_pos h]
    have h2 : c ≤ 2 := by omega
    go_enter Tryd.func5, Tryd.ntmps5
    go_wp2
    go_ret
    exact ⟨rfl, rfl⟩
  · rw [if_neg h]
    have h0 : ¬ c ≤ 2 := by omega
    have h1 : wrap64 (c - 2) = c - 2 := by unfold wrap64; omega
    by_cases h3 : 18 ≤ c
    · rw [if_pos h3]
      have h4 : 16 ≤ c - 2 := by omega
      have h5 : ¬ c - 2 < 16 := by omega
      go_enter Tryd.func5, Tryd.ntmps5
      go_wp2
      go_ret
      refine ⟨?_, rfl⟩
      first | rfl | (congr 2; omega)
    · rw [if_neg h3]
      have h4 : ¬ 16 ≤ c - 2 := by omega
      have h5 : c - 2 < 16 := by omega
      go_enter Tryd.func5, Tryd.ntmps5
      go_wp2
      go_ret
      refine ⟨?_, rfl⟩
      first | rfl | (congr 2; omega)
abbrev dqZ : Obj := .cells #[.int .i64 0, .slice none 0 0, .int .i64 0, .slice none 0 0, .int .i64 0, .slice none 0 0, .int .i64 0, .slice none 0 0, .int .i64 0, .slice none 0 0, .int .i64 0, .slice none 0 0, .int .i64 0, .slice none 0 0] 26
/-- programs that were made, the latest first -/
structure PAcc (W u : World) (L : List (Option Addr × Nat × Nat × List Ins)) : Prop where
  bl : Below W.heap.size W u
  it : ∀ q ∈ L, q.2.1 = q.2.2.2.length ∧ RowW 63 3 u q.1 q.2.2.1 q.2.1 (codC q.2.2.2)
theorem PAcc.more {W u u' : World} {L : List (Option Addr × Nat × Nat × List Ins)} {cs : List Ins} (h : PAcc W u L) (q : Option Addr × Nat × Nat) (k : q.2.1 = cs.length ∧ RowW 63 3 u' q.1 q.2.2 q.2.1 (codC cs) ∧ Below u.heap.size u u') : PAcc W u' ((q.1, q.2.1, q.2.2, cs) :: L) :=
  ⟨h.bl.trans (k.2.2.mono h.bl.size), fun x hx => by
    rcases List.mem_cons.1 hx with rfl | hx
    · exact ⟨k.1, k.2.1⟩
    · exact ⟨(h.it x hx).1, (h.it x hx).2.keep (kept_below k.2.2 (h.it x hx).2.blw)⟩⟩
/-- the seven programs in memory -/
structure Ptr where
  p : Option Addr
  n : Nat
  c : Nat
def pick7 (a0 a1 a2 a3 a4 a5 a6 : Ptr) : Nat → Ptr
  | 0 => a0
  | 1 => a1
  | 2 => a2
  | 3 => a3
  | 4 => a4
  | 5 => a5
  | _ => a6
abbrev dqA (q : Nat → Ptr) : Array Value := #[.int .i64 2, .slice (q 0).p (q 0).n (q 0).c, .int .i64 2, .slice (q 1).p (q 1).n (q 1).c, .int .i64 2, .slice (q 2).p (q 2).n (q 2).c, .int .i64 2, .slice (q 3).p (q 3).n (q 3).c, .int .i64 1, .slice (q 4).p (q 4).n (q 4).c, .int .i64 1, .slice (q 5).p (q 5).n (q 5).c, .int .i64 1, .slice (q 6).p (q 6).n (q 6).c]
def dequeV (q : Nat → Ptr) : Value := .agg (dqA q)
def deque0 : Value := .agg #[.int .i64 0, .slice none 0 0, .int .i64 0, .slice none 0 0, .int .i64 0, .slice none 0 0, .int .i64 0, .slice none 0 0, .int .i64 0, .slice none 0 0, .int .i64 0, .slice none 0 0, .int .i64 0, .slice none 0 0]
theorem dqInfo : (Tryd.prog.info? 26).map (·.size) = some 14 := by kernel_rfl
theorem dq_one (q : Nat → Ptr) : (dqA q).all (·.oneCell') = true := by simp [Value.oneCell']
structure DqAt (w : World) (B R : Int) (q : Nat → Ptr) : Prop where
  row : ∀ k, k < 7 → (q k).n = (codeOf B R k).length ∧ RowW 63 3 w (q k).p (q k).c (q k).n (codC (codeOf B R k))
theorem DqAt.on {w w' : World} {B R : Int} {q : Nat → Ptr} (h : DqAt w B R q) (k : Below w.heap.size w w') : DqAt w' B R q := ⟨fun i hi => ⟨(h.row i hi).1, (h.row i hi).2.keep (kept_below k (h.row i hi).2.blw)⟩⟩
theorem deque_back {fn : Func} {p r : Tmp} (h : fn.results = #[.cell p 26, .tmp r]) {Q : Ending → World → Prop} {a : Act} {w : World} (g : Nat) (e : Int) {arr : Array Value} (hp : a.tmps.getD p undef = .pointer (some ⟨g, 0, none⟩)) (hu : a.tmps.getD r undef = .int .i64 e)
    (hg : w.heap[g]? = some (.cells arr 26 (0, 0))) (ha : arr.size = 14) (hd : a.defers = []) (hR : Q (.returned (.tuple #[.agg arr, .int .i64 e])) w) : bodyPost Tryd.prog fn Q .ret a w := by
  refine bodyPost_ret (v := .tuple #[.agg arr, .int .i64 e]) ?_ hd hR
  rw [results_cell_tmp h, hp, hu]
  have hl := run_loadVar_row (P := Tryd.prog) w g 26 26 arr (0, 0) _ hg Tryd.underlying26 rfl (by rw [ha]; kernel_rfl)
  simp [asAddr, hl, Result.andThen]
/-- the row's box, beside the answer's -/
structure Mkw (w u : World) (n : Nat) (f : Nat → Nat × Array Value) (b r : Int) : Prop where
  bl : Below w.heap.size w u
  lt : w.heap.size < n
  row : u.heap[n]? = some (rwB f)
  box : u.heap[w.heap.size]? = some dqZ
  at_ : RwAt u f b r
theorem mkw_of {w u0 : World} {f : Nat → Nat × Array Value} {b r : Int} (h : RwAt u0 f b r) (k : Below (w.alloc dqZ).heap.size (w.alloc dqZ) u0) : Mkw w ((u0.alloc rwZ).setRow u0.heap.size (rwA f)) u0.heap.size f b r := by
  have hs : w.heap.size < u0.heap.size := by have := k.size; simp at this; omega
  have kb : Below u0.heap.size u0 ((u0.alloc rwZ).setRow u0.heap.size (rwA f)) := (bl1 u0 rwZ).trans ⟨rfl, rfl, rfl, by simp, fun k hk => setRow_other _ _ k _ (by omega)⟩
  have e0 := (k.block _ (by simp)).trans (heap_alloc_new w dqZ)
  exact ⟨((bl1 w dqZ).trans (k.mono (by simp))).trans (kb.mono (Nat.le_of_lt hs)), hs, setRow_heap _ _ _ _ _ _ (heap_alloc_new u0 rwZ), (kb.block _ hs).trans e0, h.on kb⟩
theorem Mkw.on {w u v : World} {n : Nat} {f : Nat → Nat × Array Value} {b r : Int} (h : Mkw w u n f b r) (k : Below u.heap.size u v) : Mkw w v n f b r :=
  ⟨h.bl.trans (k.mono h.bl.size), h.lt, (k.block _ (lt_of_block h.row)).trans h.row, (k.block _ (lt_of_block h.box)).trans h.box, h.at_.on k⟩
section
variable {w : World}
set_option maxRecDepth 100000 in
set_option maxHeartbeats 1000000 in
theorem make_yes (hT : Shaped5 w) {b c : Int} (hc : c ≤ 9223372036854775807) (h7 : 3 ≤ c) (h0 : 0 ≤ b) (hf : b + c ≤ 256) : Calls Tryd.prog 4 #[.int .i64 b, .int .i64 c] w fun e w' => ∃ q, e = .returned (.tuple #[dequeV q, .int .i64 0]) ∧ Hid (DqAt w' b (roomV c) q ∧ Below w.heap.size w w') := by
  have HR := Lib.hid (room_any c hc)
  have hr0 := roomV_in c
  have hr1 : roomV c ≠ 0 := by unfold roomV; rw [if_neg (by omega)]; split <;> omega
  obtain ⟨r, hr⟩ : ∃ r, roomV c = r := ⟨_, rfl⟩
  rw [hr] at HR hr0 hr1
  have hB : 0 ≤ b ∧ b ≤ 256 := by omega
  have hR : 0 ≤ r ∧ r ≤ 16 := hr0
  have e0 : (r == 0) = false := by simpa using hr1
  have e1 : ¬ b < 0 := by omega
  have e2 : wrap64 (256 - c) = 256 - c := by unfold wrap64; omega
  have e3 : ¬ 256 - c < b := by omega
  have HRA := Lib.hid (c_rowAt hB hR (w.alloc dqZ))
  have HT0 := Lib.hid hT
  rw [hr]
  clear hT hr hr0 hr1 h7 h0 hf hc hB hR
  go_enter Tryd.func4, Tryd.ntmps4
  go_upto_region 5 with (first
    | (go_at_call 5; refine (HR.out _).mono ?_; rintro e u ⟨rfl, hu⟩; subst u; clear HR)
    | (go_at_call 6; refine HRA.out.mono ?_; rintro e u0 ⟨f, rfl, h⟩; have HF := Lib.hid h.out; clear h HRA)
    | (refine wpList_store_row rfl 37 _ _ rfl u0.heap.size (rwA f) rfl rfl _ _ (heap_alloc_new u0 rwZ) rowInfo rfl (rw_one _) ?_))
  have hM := mkw_of HF.out.1 HF.out.2
  obtain ⟨u1, hu1⟩ : ∃ u1, (u0.alloc rwZ).setRow u0.heap.size (rwA f) = u1 := ⟨_, rfl⟩
  obtain ⟨nb, hnb⟩ : ∃ nb, u0.heap.size = nb := ⟨_, rfl⟩
  rw [hu1, hnb] at hM
  rw [hnb] at hu1
  rw [hnb, hu1]
  have HM : Hid (∀ u, Below u1.heap.size u1 u → Mkw w u nb f b r) := fun u k => hM.on k
  have HT : Hid (∀ u, Below u1.heap.size u1 u → Shaped5 u) := fun u k => (HT0.out.on hM.bl).on k
  have A : Hid (PAcc u1 u1.drew []) := ⟨(Same.drew _).below _, fun q hq => by cases hq⟩
  clear hM hu1 hnb HF HT0
  refine wp_region_seq (Sr nb f) ((0, true) :: (2, true) :: (4, true) :: (6, true) :: (8, true) :: (10, true) :: (12, true) :: (1, false) :: (3, false) :: (5, false) :: (7, false) :: (9, false) :: (11, false) :: (13, false) :: (14, true) :: (15, false) :: (16, true) :: []) follows (by kernel_rfl) (fun _ _ _ _ _ h => h) (sr_of (HM.out _ A.out.bl).row) ?_
  (repeat (first | (refine wpSeq_take (v := ?_) rfl (by rfl) (fun wq hSq => ?_) ?_; rotate_left; (focus ((try dsimp only at hSq); go_simp; try with_reducible rfl)); simp only [Act.put, List.setIfInBounds_toArray, List.set_cons_zero, List.set_cons_succ]) | (refine wpSeq_skip rfl (by rfl) ?_; simp only [Act.put, List.setIfInBounds_toArray, List.set_cons_zero, List.set_cons_succ])))
  (refine wpSeq_do rfl (by rfl) (fun KK hK => ?_); go_simp)
  refine (g_pushFront (HM.out _ A.out.bl).at_ (HT.out _ A.out.bl)).mono ?_
  rintro e v0 ⟨p0, n0, c0, rfl, h⟩
  replace A := Lib.hid (A.out.more ⟨p0, n0, c0⟩ h.out)
  clear h
  refine hK.out _ _ (sr_of (HM.out _ A.out.bl).row) ?_
  (clear hK KK; try simp only [Act.put, List.setIfInBounds_toArray, List.set_cons_zero, List.set_cons_succ])
  (repeat (first | (refine wpSeq_take (v := ?_) rfl (by rfl) (fun wq hSq => ?_) ?_; rotate_left; (focus ((try dsimp only at hSq); go_simp; try with_reducible rfl)); simp only [Act.put, List.setIfInBounds_toArray, List.set_cons_zero, List.set_cons_succ]) | (refine wpSeq_skip rfl (by rfl) ?_; simp only [Act.put, List.setIfInBounds_toArray, List.set_cons_zero, List.set_cons_succ])))
  (refine wpSeq_do rfl (by rfl) (fun KK hK => ?_); go_simp)
  refine (g_pushBack (HM.out _ A.out.bl).at_ (HT.out _ A.out.bl)).mono ?_
  rintro e v1 ⟨p1, n1, c1, rfl, h⟩
  replace A := Lib.hid (A.out.more ⟨p1, n1, c1⟩ h.out)
  clear h
  refine hK.out _ _ (sr_of (HM.out _ A.out.bl).row) ?_
  (clear hK KK; try simp only [Act.put, List.setIfInBounds_toArray, List.set_cons_zero, List.set_cons_succ])
  (repeat (first | (refine wpSeq_take (v := ?_) rfl (by rfl) (fun wq hSq => ?_) ?_; rotate_left; (focus ((try dsimp only at hSq); go_simp; try with_reducible rfl)); simp only [Act.put, List.setIfInBounds_toArray, List.set_cons_zero, List.set_cons_succ]) | (refine wpSeq_skip rfl (by rfl) ?_; simp only [Act.put, List.setIfInBounds_toArray, List.set_cons_zero, List.set_cons_succ])))
  (refine wpSeq_do rfl (by rfl) (fun KK hK => ?_); go_simp)
  refine (g_popFront (HM.out _ A.out.bl).at_ (HT.out _ A.out.bl)).mono ?_
  rintro e v2 ⟨p2, n2, c2, rfl, h⟩
  replace A := Lib.hid (A.out.more ⟨p2, n2, c2⟩ h.out)
  clear h
  refine hK.out _ _ (sr_of (HM.out _ A.out.bl).row) ?_
  (clear hK KK; try simp only [Act.put, List.setIfInBounds_toArray, List.set_cons_zero, List.set_cons_succ])
  (repeat (first | (refine wpSeq_take (v := ?_) rfl (by rfl) (fun wq hSq => ?_) ?_; rotate_left; (focus ((try dsimp only at hSq); go_simp; try with_reducible rfl)); simp only [Act.put, List.setIfInBounds_toArray, List.set_cons_zero, List.set_cons_succ]) | (refine wpSeq_skip rfl (by rfl) ?_; simp only [Act.put, List.setIfInBounds_toArray, List.set_cons_zero, List.set_cons_succ])))
  (refine wpSeq_do rfl (by rfl) (fun KK hK => ?_); go_simp)
  refine (g_popBack (HM.out _ A.out.bl).at_ (HT.out _ A.out.bl)).mono ?_
  rintro e v3 ⟨p3, n3, c3, rfl, h⟩
  replace A := Lib.hid (A.out.more ⟨p3, n3, c3⟩ h.out)
  clear h
  refine hK.out _ _ (sr_of (HM.out _ A.out.bl).row) ?_
  (clear hK KK; try simp only [Act.put, List.setIfInBounds_toArray, List.set_cons_zero, List.set_cons_succ])
  (repeat (first | (refine wpSeq_take (v := ?_) rfl (by rfl) (fun wq hSq => ?_) ?_; rotate_left; (focus ((try dsimp only at hSq); go_simp; try with_reducible rfl)); simp only [Act.put, List.setIfInBounds_toArray, List.set_cons_zero, List.set_cons_succ]) | (refine wpSeq_skip rfl (by rfl) ?_; simp only [Act.put, List.setIfInBounds_toArray, List.set_cons_zero, List.set_cons_succ])))
  (refine wpSeq_do rfl (by rfl) (fun KK hK => ?_); go_simp)
  refine (g_at (HM.out _ A.out.bl).at_ (HT.out _ A.out.bl)).mono ?_
  rintro e v4 ⟨p4, n4, c4, rfl, h⟩
  replace A := Lib.hid (A.out.more ⟨p4, n4, c4⟩ h.out)
  clear h
  refine hK.out _ _ (sr_of (HM.out _ A.out.bl).row) ?_
  (clear hK KK; try simp only [Act.put, List.setIfInBounds_toArray, List.set_cons_zero, List.set_cons_succ])
  (repeat (first | (refine wpSeq_take (v := ?_) rfl (by rfl) (fun wq hSq => ?_) ?_; rotate_left; (focus ((try dsimp only at hSq); go_simp; try with_reducible rfl)); simp only [Act.put, List.setIfInBounds_toArray, List.set_cons_zero, List.set_cons_succ]) | (refine wpSeq_skip rfl (by rfl) ?_; simp only [Act.put, List.setIfInBounds_toArray, List.set_cons_zero, List.set_cons_succ])))
  (refine wpSeq_do rfl (by rfl) (fun KK hK => ?_); go_simp)
  refine (g_len (HM.out _ A.out.bl).at_ (HT.out _ A.out.bl)).mono ?_
  rintro e v5 ⟨p5, n5, c5, rfl, h⟩
  replace A := Lib.hid (A.out.more ⟨p5, n5, c5⟩ h.out)
  clear h
  refine hK.out _ _ (sr_of (HM.out _ A.out.bl).row) ?_
  (clear hK KK; try simp only [Act.put, List.setIfInBounds_toArray, List.set_cons_zero, List.set_cons_succ])
  (repeat (first | (refine wpSeq_take (v := ?_) rfl (by rfl) (fun wq hSq => ?_) ?_; rotate_left; (focus ((try dsimp only at hSq); go_simp; try with_reducible rfl)); simp only [Act.put, List.setIfInBounds_toArray, List.set_cons_zero, List.set_cons_succ]) | (refine wpSeq_skip rfl (by rfl) ?_; simp only [Act.put, List.setIfInBounds_toArray, List.set_cons_zero, List.set_cons_succ])))
  (refine wpSeq_do rfl (by rfl) (fun KK hK => ?_); go_simp)
  refine (g_all (HM.out _ A.out.bl).at_ (HT.out _ A.out.bl)).mono ?_
  rintro e v6 ⟨p6, n6, c6, rfl, h⟩
  replace A := Lib.hid (A.out.more ⟨p6, n6, c6⟩ h.out)
  clear h
  refine hK.out _ _ (sr_of (HM.out _ A.out.bl).row) ?_
  (clear hK KK; try simp only [Act.put, List.setIfInBounds_toArray, List.set_cons_zero, List.set_cons_succ])
  (repeat (first | (refine wpSeq_take (v := ?_) rfl (by rfl) (fun wq hSq => ?_) ?_; rotate_left; (focus ((try dsimp only at hSq); go_simp; try with_reducible rfl)); simp only [Act.put, List.setIfInBounds_toArray, List.set_cons_zero, List.set_cons_succ]) | (refine wpSeq_skip rfl (by rfl) ?_; simp only [Act.put, List.setIfInBounds_toArray, List.set_cons_zero, List.set_cons_succ])))
  have hb := (HM.out _ A.out.bl).box
  refine wpSeq_do rfl (by rfl) (fun KK hK => ?_)
  refine wp_store_row 26 _ _ rfl w.heap.size (dqA (pick7 ⟨p0, n0, c0⟩ ⟨p1, n1, c1⟩ ⟨p2, n2, c2⟩ ⟨p3, n3, c3⟩ ⟨p4, n4, c4⟩ ⟨p5, n5, c5⟩ ⟨p6, n6, c6⟩)) rfl rfl _ _ hb dqInfo rfl (dq_one _) ?_
  refine hK.out _ _ (sr_of ((setRow_other _ _ nb _ (fun e => by have := (HM.out _ A.out.bl).lt; omega)).trans (HM.out _ A.out.bl).row)) ?_
  (clear hK KK; try simp only [Act.put])
  (repeat (first | (refine wpSeq_take (v := ?_) rfl (by rfl) (fun wq hSq => ?_) ?_; rotate_left; (focus ((try dsimp only at hSq); go_simp; try with_reducible rfl)); simp only [Act.put, List.setIfInBounds_toArray, List.set_cons_zero, List.set_cons_succ]) | (refine wpSeq_skip rfl (by rfl) ?_; simp only [Act.put, List.setIfInBounds_toArray, List.set_cons_zero, List.set_cons_succ])))
  refine wpSeq_nil ?_
  go_wp2_with fail
  have hbw := (HM.out _ A.out.bl).bl
  have hrow : ∀ q ∈ ([(p6, n6, c6, allC b r), (p5, n5, c5, lenC b), (p4, n4, c4, atC b r), (p3, n3, c3, obC b r), (p2, n2, c2, ofC b r), (p1, n1, c1, pbC b r), (p0, n0, c0, pfC b r)] : List (Option Addr × Nat × Nat × List Ins)), q.2.1 = q.2.2.2.length ∧ RowW 63 3 (v6.setRow w.heap.size (dqA (pick7 ⟨p0, n0, c0⟩ ⟨p1, n1, c1⟩ ⟨p2, n2, c2⟩ ⟨p3, n3, c3⟩ ⟨p4, n4, c4⟩ ⟨p5, n5, c5⟩ ⟨p6, n6, c6⟩))) q.1 q.2.2.1 q.2.1 (codC q.2.2.2) := fun q hq => ⟨(A.out.it q hq).1, (A.out.it q hq).2.keep ⟨by simp, fun x hx => setRow_other _ _ _ _ (fun e => by
    obtain ⟨arr, e2⟩ := (A.out.it q hq).2.blk hx
    exact ne_ty e2 hb (by decide) e)⟩⟩
  refine deque_back rfl w.heap.size 0 rfl rfl (setRow_heap _ _ _ _ _ _ hb) rfl rfl ⟨pick7 ⟨p0, n0, c0⟩ ⟨p1, n1, c1⟩ ⟨p2, n2, c2⟩ ⟨p3, n3, c3⟩ ⟨p4, n4, c4⟩ ⟨p5, n5, c5⟩ ⟨p6, n6, c6⟩, rfl, ⟨fun k hk => ?_⟩, hbw.trans ⟨rfl, rfl, rfl, by simp, fun k hk => setRow_other _ _ k _ (by omega)⟩⟩
  match k, hk with
  | 0, _ => exact hrow (p0, n0, c0, pfC b r) (by simp)
  | 1, _ => exact hrow (p1, n1, c1, pbC b r) (by simp)
  | 2, _ => exact hrow (p2, n2, c2, ofC b r) (by simp)
  | 3, _ => exact hrow (p3, n3, c3, obC b r) (by simp)
  | 4, _ => exact hrow (p4, n4, c4, atC b r) (by simp)
  | 5, _ => exact hrow (p5, n5, c5, lenC b) (by simp)
  | 6, _ => exact hrow (p6, n6, c6, allC b r) (by simp)
set_option maxRecDepth 100000 in
set_option maxHeartbeats 400000 in
theorem make_no {b c : Int} (hc : c ≤ 9223372036854775807) (hc0 : -9223372036854775808 ≤ c) (hf : ¬ (3 ≤ c ∧ 0 ≤ b ∧ b + c ≤ 256)) : Calls Tryd.prog 4 #[.int .i64 b, .int .i64 c] w fun e w' => e = .returned (.tuple #[deque0, .int .i64 200]) ∧ Below w.heap.size w w' := by
  have HR := Lib.hid (room_any c hc)
  have HS := Lib.hid (heap_alloc_new w dqZ)
  by_cases h7 : c < 3
  · have hr : roomV c = 0 := by unfold roomV; rw [if_pos h7]
    rw [hr] at HR
    clear hf hc0
    go_enter Tryd.func4, Tryd.ntmps4
    go_wp2_with (go_at_call 5; refine (HR.out _).mono ?_; rintro e u ⟨rfl, hu⟩; subst u)
    exact deque_back rfl w.heap.size 200 rfl rfl HS.out rfl rfl ⟨rfl, bl1 _ _⟩
  · have hr := roomV_in c
    have hr1 : roomV c ≠ 0 := by unfold roomV; rw [if_neg h7]; split <;> omega
    obtain ⟨r, hr2⟩ : ∃ r, roomV c = r := ⟨_, rfl⟩
    rw [hr2] at HR hr hr1
    have e0 : (r == 0) = false := by simpa using hr1
    have e2 : wrap64 (256 - c) = 256 - c := by unfold wrap64; omega
    by_cases hb : b < 0
    · clear hf hc0 hr hr1 hr2 h7
      go_enter Tryd.func4, Tryd.ntmps4
      go_wp2_with (go_at_call 5; refine (HR.out _).mono ?_; rintro e u ⟨rfl, hu⟩; subst u)
      exact deque_back rfl w.heap.size 200 rfl rfl HS.out rfl rfl ⟨rfl, bl1 _ _⟩
    · have e3 : 256 - c < b := by omega
      clear hf hc0 hr hr1 hr2 h7
      go_enter Tryd.func4, Tryd.ntmps4
      go_wp2_with (go_at_call 5; refine (HR.out _).mono ?_; rintro e u ⟨rfl, hu⟩; subst u)
      exact deque_back rfl w.heap.size 200 rfl rfl HS.out rfl rfl ⟨rfl, bl1 _ _⟩
end
end Go.Proofs.YtaliehikdidiaaaDoor.Dq
