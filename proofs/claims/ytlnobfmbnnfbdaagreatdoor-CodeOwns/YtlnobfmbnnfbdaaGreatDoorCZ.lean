import Derived.Test.YtlnobfmbnnfbdaaGreatDoorCV
import Derived.Deep.RegionLaw
namespace Go.Proofs.YtlnobfmbnnfbdaaGreatDoor
open Go.ChangeShapes Go.WideShapes Go.ChangeAt Go.RowKit Num
attribute [local go_sem] run_store_float

/-- what reading a program comes to, of the lines behind the first -/
def ProgR (w w' : World) (t : Int) (G : Got) (e : Ending) : Prop := match ended t G with
  | .error (x, l) => e = gaveUp x l
  | .ok (t', c) => ∃ ao cap, e = .returned (progV t' ao c.length cap) ∧ CodeRow w.heap.size w' (.slice ao c.length cap) c
theorem progR_bad {w w' : World} {t x l : Int} {G : Got} {e : Ending} (hG : G = .error (x, l)) (h : e = gaveUp x l) : ProgR w w' t G e := by
  subst hG
  exact h
/-- the loop's state -/
structure Lp (W w wr : World) (b pb : Nat) (t : Int) (G : Got) (k : Nat) (r : List UInt8) (c : List Ins) (v : Value) : Prop where
  rd : RdAt wr b r (1025 - k)
  eq : instrsF k r c = G
  ne : c ≠ []
  sum : c.length + k = 1024
  box : wr.heap[pb]? = some (.cells #[.int .i64 t, v] 24 (0, 0))
  row : CodeRow w.heap.size wr v c
  res : wr.heap[w.heap.size]? = some (.cells #[.int .i64 0, .slice none 0 0] 24 (0, 0))
  turn : Turn [b] [b] w wr
  good : ∀ i ∈ c, Good i
  len : r.length ≤ 65536
  pbe : w.heap.size < pb
theorem Lp.below {W w wr : World} {b pb k : Nat} {t : Int} {G : Got} {r : List UInt8} {c : List Ins} {v : Value} (h : Lp W w wr b pb t G k r c v) (hB : Below W.heap.size W w) (hb : W.heap.size ≤ b) : Below W.heap.size W wr := turn_base hB hb h.turn
theorem row_put {B p : Nat} {w : World} {v x : Value} {c : List Ins} {o : Nat} (h : CodeRow B w v c) (hn : v.ownBlock ≠ some p) : CodeRow B (w.setCell ⟨p, o, none⟩ x) v c := by
  refine ⟨h.1, ?_⟩
  rcases h.2 with q | ⟨g, cap, cur, hv, hB, hg, rest⟩
  · exact .inl q
  · refine .inr ⟨g, cap, cur, hv, hB, ?_, rest⟩
    rw [heap_setCell_other _ _ _ _ (by simpa using (by rintro rfl; exact hn (by rw [hv]; rfl) : g ≠ p))]
    exact hg
/-- behind the append and the store -/
theorem Lp.next {W w wr u w4 w5 : World} {b pb k g cap : Nat} {t : Int} {G : Got} {r' : List UInt8} {c : List Ins} {v : Value} {i : Ins} (hbw : b < w.heap.size)
    (box : wr.heap[pb]? = some (.cells #[.int .i64 t, v] 24 (0, 0))) (row : CodeRow w.heap.size wr v c) (res : wr.heap[w.heap.size]? = some (.cells #[.int .i64 0, .slice none 0 0] 24 (0, 0))) (turn : Turn [b] [b] w wr) (good : ∀ i ∈ c, Good i) (pbe : w.heap.size < pb)
    (hs : Same wr u) (hr : RdAt w4 b r' (1025 - k)) (hu : Turn [b] [b] u w4)
    (hown : w5.ownsRow w.heap.size 42 3 (.slice (some ⟨g, 0, none⟩) (c.length + 1) cap) (c.length + 1) (c.flatMap insC ++ insC i)) {x : Obj} {w4' : World} (h4 : Same (w4.alloc x) w4') (hg : w4'.grownBy w5 v.ownBlock) (hat : v.ownBlock = some g ∨ g = w4.heap.size + 1) (hG : instrsF k r' (c ++ [i]) = G) (hsum : c.length + 1 + k = 1024) (hlen : r'.length ≤ 65536) (hgi : Good i) :
    Lp W w (w5.setCell ⟨pb, 1, none⟩ (.slice (some ⟨g, 0, none⟩) (c.length + 1) cap)) b pb t G k r' (c ++ [i]) (.slice (some ⟨g, 0, none⟩) (c.length + 1) cap) := by
  have tu : Turn [b] [b] wr w4 := (hs.turn [b]).trans hu
  have hpb : pb < wr.heap.size := lt_of_block box
  have hrs : w.heap.size < wr.heap.size := lt_of_block res
  have b4 : w4.heap[pb]? = _ := (tu.block pb hpb (by simp; omega)).trans box
  have r4 : w4.heap[w.heap.size]? = _ := (tu.block w.heap.size hrs (by simp; omega)).trans res
  have row4 : CodeRow w.heap.size w4 v c := row_turn row (by
    intro q
    have := row.lt b q
    omega) tu
  have nb : v.ownBlock ≠ some b := by
    intro q
    have := row.lt b q
    omega
  have np : v.ownBlock ≠ some pb := row_ne row box (by decide)
  have nr : v.ownBlock ≠ some w.heap.size := row_ne row res (by decide)
  have k4 : ∀ j, j < w4.heap.size → w4'.heap[j]? = w4.heap[j]? := fun j hj => by rw [h4.heap]; exact heap_alloc_old w4 _ hj
  have z4 : w4'.heap.size = w4.heap.size + 1 := by rw [h4.heap]; simp
  have k5 : ∀ j, j < w4.heap.size → v.ownBlock ≠ some j → w5.heap[j]? = w4.heap[j]? := fun j hj hn => (hg.block j (by omega) (fun q => hn q.symm)).trans (k4 j hj)
  have b5 := (k5 pb (lt_of_block b4) np).trans b4
  have r5 := (k5 w.heap.size (lt_of_block r4) nr).trans r4
  have d5 : RdAt w5 b r' (1025 - k) := (k5 b hr.lt nb).trans hr
  have gp : g ≠ pb := by
    rcases hat with q | q
    · rintro rfl; exact np q
    · have := lt_of_block b4; omega
  have e1 : (c ++ [i]).length = c.length + 1 := by simp
  have e2 : (c ++ [i]).flatMap insC = c.flatMap insC ++ insC i := by simp
  have row5 : CodeRow w.heap.size w5 (.slice (some ⟨g, 0, none⟩) (c.length + 1) cap) (c ++ [i]) := by
    unfold CodeRow
    rw [e1, e2]
    exact hown
  have t5 : Turn [b] [b] w w5 := by
    have t4 := turn.trans tu
    refine ⟨hg.os.trans (h4.os.trans t4.os), hg.tape.trans (h4.tape.trans t4.tape), hg.output.trans (h4.output.trans t4.output), Nat.le_trans t4.size (Nat.le_trans (by omega) hg.size), fun j hj hn => ?_, fun _ h => .inl h⟩
    have : v.ownBlock ≠ some j := by
      intro q
      have := row.lt j q
      omega
    exact (k5 j (Nat.lt_of_lt_of_le hj t4.size) this).trans (t4.block j hj hn)
  refine ⟨rd_setN _ d5 (by omega), hG, by simp, by rw [e1]; exact hsum, (heap_setCell_same w5 pb 1 _ _ _ b5).trans rfl, row_put row5 (by simpa [Value.ownBlock] using gp), (heap_setCell_other _ _ _ _ (by simp; omega)).trans r5, turn_setN _ _ (by omega) t5, fun j hj => ?_, hlen, pbe⟩
  rcases List.mem_append.1 hj with q | q
  · exact good j q
  · rw [List.mem_singleton] at q
    subst q
    exact hgi
end Go.Proofs.YtlnobfmbnnfbdaaGreatDoor
namespace Go.Proofs.YtlnobfmbnnfbdaaGreatDoor
open Go.ChangeShapes Go.WideShapes Go.ChangeAt Go.RowKit Num
attribute [local go_sem] run_store_float

theorem prog_tagbad {w : World} {b : Nat} (HTG : Hid (∀ w1, Below w.heap.size w w1 → Calls Tryz.prog 48 #[.pointer (some ⟨b, 0, none⟩)] w1 fun e w' => e = gaveUp 20 1 ∧ Turn [b] [b] w1 w')) :
    Calls Tryz.prog 35 #[.pointer (some ⟨b, 0, none⟩)] w fun e w' => e = gaveUp 20 1 ∧ Turn [b] [b] w w' := by
  go_enter Tryz.func35, Tryz.ntmps35
  go_wp2_with (first
    | (go_at_call 48; refine (HTG.out _ (box5 _ _)).mono ?_; rintro e w1 ⟨rfl, hu1⟩; have HU1 := Lib.hid hu1; clear hu1))
  exact ⟨rfl, rfl, (turn_below (box5 _ _)).trans HU1.out⟩
set_option maxHeartbeats 4000000 in
set_option maxRecDepth 100000 in
theorem prog_first_bad {w : World} {b : Nat} {y : List UInt8} {t x l : Int}
    (HTG : Hid (∀ w1, Below w.heap.size w w1 → Calls Tryz.prog 48 #[.pointer (some ⟨b, 0, none⟩)] w1 fun e w' => e = .returned (.int .i64 t) ∧ RdAt w' b y 1 ∧ Turn [b] [b] w1 w'))
    (HI : Hid (∀ w0 w1, RdAt w0 b y 1 → Turn [b] [b] w w0 → Below w0.heap.size w0 w1 → Calls Tryz.prog 49 #[.pointer (some ⟨b, 0, none⟩)] w1 fun e w' => e = gaveUp x l ∧ Turn [b] [b] w1 w')) :
    Calls Tryz.prog 35 #[.pointer (some ⟨b, 0, none⟩)] w fun e w' => e = gaveUp x l ∧ Turn [b] [b] w w' := by
  go_enter Tryz.func35, Tryz.ntmps35
  go_wp2_with (first
    | (go_at_call 48; refine (HTG.out _ (box5 _ _)).mono ?_; rintro e w1 ⟨rfl, hr1, hu1⟩; have HR1 := Lib.hid hr1; have HU1 := Lib.hid ((turn_below (box5 _ _)).trans hu1); clear hr1 hu1))
  refine wp_region_any (by kernel_rfl) ?_
  change wpAny _ _ _ _ _ _ _ (World.drew _)
  refine wpAny_ready (rs := [0, 2]) (by kernel_rfl) (by simp) ?_
  refine AllReady.cons rfl (fun K hK => ?_) (AllReady.cons rfl (fun K hK => ?_) (AllReady.nil))
  · go_simp
    refine hK _ _ ?_
    clear hK K
    refine wpAny_ready (rs := [1, 2]) (by kernel_rfl) (by simp) ?_
    refine AllReady.cons rfl (fun K hK => ?_) (AllReady.cons rfl (fun K hK => ?_) (AllReady.nil))
    · go_simp
      refine hK _ _ ?_
      clear hK K
      refine wpAny_ready (rs := [2]) (by kernel_rfl) (by simp) ?_
      refine AllReady.cons rfl (fun K hK => ?_) (AllReady.nil)
      · go_simp
        refine hK _ _ ?_
        clear hK K
        refine wpAny_ready (rs := [3]) (by kernel_rfl) (by simp) ?_
        refine AllReady.cons rfl (fun K hK => ?_) (AllReady.nil)
        · go_simp
          refine (HI.out w1 _ HR1.out HU1.out (bl_drew (box5 _ _))).mono ?_
          rintro e w4 ⟨rfl, hu4⟩
          exact ⟨rfl, rfl, HU1.out.trans ((turn_below (bl_drew (box5 _ _))).trans hu4)⟩
    · go_simp
      refine hK _ _ ?_
      clear hK K
      refine wpAny_ready (rs := [1, 3]) (by kernel_rfl) (by simp) ?_
      refine AllReady.cons rfl (fun K hK => ?_) (AllReady.cons rfl (fun K hK => ?_) (AllReady.nil))
      · go_simp
        refine hK _ _ ?_
        clear hK K
        refine wpAny_ready (rs := [3]) (by kernel_rfl) (by simp) ?_
        refine AllReady.cons rfl (fun K hK => ?_) (AllReady.nil)
        · go_simp
          refine (HI.out w1 _ HR1.out HU1.out (bl_drew (box5 _ _))).mono ?_
          rintro e w4 ⟨rfl, hu4⟩
          exact ⟨rfl, rfl, HU1.out.trans ((turn_below (bl_drew (box5 _ _))).trans hu4)⟩
      · go_simp
        refine (HI.out w1 _ HR1.out HU1.out (bl_drew (box5 _ _))).mono ?_
        rintro e w4 ⟨rfl, hu4⟩
        exact ⟨rfl, rfl, HU1.out.trans ((turn_below (bl_drew (box5 _ _))).trans hu4)⟩
  · go_simp
    refine hK _ _ ?_
    clear hK K
    refine wpAny_ready (rs := [0, 3]) (by kernel_rfl) (by simp) ?_
    refine AllReady.cons rfl (fun K hK => ?_) (AllReady.cons rfl (fun K hK => ?_) (AllReady.nil))
    · go_simp
      refine hK _ _ ?_
      clear hK K
      refine wpAny_ready (rs := [1, 3]) (by kernel_rfl) (by simp) ?_
      refine AllReady.cons rfl (fun K hK => ?_) (AllReady.cons rfl (fun K hK => ?_) (AllReady.nil))
      · go_simp
        refine hK _ _ ?_
        clear hK K
        refine wpAny_ready (rs := [3]) (by kernel_rfl) (by simp) ?_
        refine AllReady.cons rfl (fun K hK => ?_) (AllReady.nil)
        · go_simp
          refine (HI.out w1 _ HR1.out HU1.out (bl_drew (box5 _ _))).mono ?_
          rintro e w4 ⟨rfl, hu4⟩
          exact ⟨rfl, rfl, HU1.out.trans ((turn_below (bl_drew (box5 _ _))).trans hu4)⟩
      · go_simp
        refine (HI.out w1 _ HR1.out HU1.out (bl_drew (box5 _ _))).mono ?_
        rintro e w4 ⟨rfl, hu4⟩
        exact ⟨rfl, rfl, HU1.out.trans ((turn_below (bl_drew (box5 _ _))).trans hu4)⟩
    · go_simp
      refine (HI.out w1 _ HR1.out HU1.out (bl_drew (box5 _ _))).mono ?_
      rintro e w4 ⟨rfl, hu4⟩
      exact ⟨rfl, rfl, HU1.out.trans ((turn_below (bl_drew (box5 _ _))).trans hu4)⟩
end Go.Proofs.YtlnobfmbnnfbdaaGreatDoor
namespace Go.Proofs.YtlnobfmbnnfbdaaGreatDoor
open Go.ChangeShapes Go.WideShapes Go.ChangeAt Go.RowKit Num
attribute [local go_sem] run_store_float

/-- what a walk wants behind the call, all at once -/
theorem behind {w wr w4 : World} {b pb : Nat} {t : Int} {v : Value} {c : List Ins} (hbw : b < w.heap.size) (hpe : w.heap.size < pb)
    (box : wr.heap[pb]? = some (.cells #[.int .i64 t, v] 24 (0, 0))) (row : CodeRow w.heap.size wr v c) (tu : Turn [b] [b] wr w4) :
    w4.cell? ⟨pb, 1, none⟩ = some v ∧ pb < w4.heap.size ∧ w.heap.size < w4.heap.size ∧ w4.frozen? ⟨pb, 1, none⟩ = false ∧
    (∀ x : Obj, (w4.alloc x).ownsRow w.heap.size 42 3 v c.length (c.flatMap insC)) ∧
    ∀ (x : Obj) (w4' w5 : World), Same (w4.alloc x) w4' → w4'.grownBy w5 v.ownBlock → w5.cell? ⟨pb, 1, none⟩ = some v ∧ w5.frozen? ⟨pb, 1, none⟩ = false := by
  have hpb : pb < wr.heap.size := lt_of_block box
  have b4 : w4.heap[pb]? = _ := (tu.block pb hpb (by simp; omega)).trans box
  have np : v.ownBlock ≠ some pb := row_ne row box (by decide)
  have nb : v.ownBlock ≠ some b := by
    intro q
    have := row.lt b q
    omega
  obtain ⟨k0, k1, k2⟩ := cells2_of b4
  refine ⟨k1, k2, by omega, frozen_of_row _ _ 1 _ _ b4, fun x => World.ownsRow.alloc (row_turn row nb tu) x, fun x w4' w5 hs hg => ?_⟩
  have b5 : w5.heap[pb]? = _ := (hg.block pb (by rw [hs.heap]; simp; omega) (fun q => np q.symm)).trans ((by rw [hs.heap]; exact heap_alloc_old w4 _ k2 : w4'.heap[pb]? = w4.heap[pb]?).trans b4)
  exact ⟨(cells2_of b5).2.1, frozen_of_row _ _ 1 _ _ b5⟩
theorem progR_out {w w' : World} {t : Int} {G : Got} {c : List Ins} {j : Nat} (hG : G = .ok c) (hf : findOut c = some j) : ProgR w w' t G (gaveUp 50 (2 + j)) := by
  subst hG
  have e : ended t (.ok c) = .error (50, (j : Int) + 2) := by
    show placed t c = _
    unfold placed
    rw [hf]
  unfold ProgR
  rw [e]
  show gaveUp _ _ = gaveUp _ _
  rw [Int.add_comm]
theorem progR_code {w w' : World} {t : Int} {G : Got} {c : List Ins} {ao : Option Addr} {cap : Nat} (hG : G = .ok c) (hf : findOut c = none) (h : CodeRow w.heap.size w' (.slice ao c.length cap) c) : ProgR w w' t G (.returned (.agg #[.int .i64 t, .slice ao c.length cap])) := by
  subst hG
  have e : ended t (.ok c) = .ok (t, c) := by
    show placed t c = _
    unfold placed
    rw [hf]
  unfold ProgR
  rw [e]
  exact ⟨_, _, rfl, h⟩
theorem ownsOn {B : Nat} {w w' : World} {v : Value} {c : List Ins} (h : CodeRow B w v c) (hb : Below w.heap.size w w') : CodeRow B w' v c := by
  refine ⟨h.1, ?_⟩
  rcases h.2 with q | ⟨g, cap, cur, hv, hB, hg, rest⟩
  · exact .inl q
  · exact .inr ⟨g, cap, cur, hv, hB, (hb.block g (lt_of_block hg)).trans hg, rest⟩
set_option maxHeartbeats 8000000 in
set_option maxRecDepth 100000 in
theorem prog_ok {W w : World} {b : Nat} {y r1 : List UInt8} {t : Int} {i1 : Ins} {G : Got} (hbw : b < w.heap.size) (hT : Tabs5 W) (hB : Below W.heap.size W w) (hb : W.heap.size ≤ b)
    (HTG : Hid (∀ w1, Below w.heap.size w w1 → Calls Tryz.prog 48 #[.pointer (some ⟨b, 0, none⟩)] w1 fun e w' => e = .returned (.int .i64 t) ∧ RdAt w' b y 1 ∧ Turn [b] [b] w1 w'))
    (h1 : stepI y 1 = .ok (i1, r1)) (hG : instrsF 1024 y [] = G) (hy : y.length ≤ 65536) :
    Calls Tryz.prog 35 #[.pointer (some ⟨b, 0, none⟩)] w fun e w' => ProgR w w' t G e ∧ Turn [b] [b] w w' := by
  obtain ⟨i0, hi0, hz0, hz1, hz2⟩ := info_parts instrInfo
  obtain ⟨k1, hk1, hG1, hl1, hg1⟩ := step_got (k := 1024) (c := []) (by decide) (by simp) h1
  obtain rfl : k1 = 1023 := by omega
  rw [hG] at hG1
  have HG1 := Lib.hid (And.intro hG1.symm (And.intro hl1 hg1))
  have HT := Lib.hid hT
  have HB := Lib.hid hB
  have HST := Lib.hid h1
  have HY := Lib.hid hy
  have HXR := Lib.hid (heap_alloc_new w (.cells #[.int .i64 0, .slice none 0 0] 24))
  clear hT hB hG hG1 hl1 hg1 h1 hk1 hy
  go_enter Tryz.func35, Tryz.ntmps35
  go_wp2_with (first
    | (go_at_call 48; refine (HTG.out _ (box5 _ _)).mono ?_; rintro e w1 ⟨rfl, hr1, hu1⟩; have HR1 := Lib.hid hr1; have HXR1 := Lib.hid ((hu1.block w.heap.size (by simp) (by simp; omega)).trans HXR.out); have HU1 := Lib.hid ((turn_below (box5 _ _)).trans hu1); clear hr1 hu1))
  have hw1 : w.heap.size < w1.heap.size := lt_of_block HXR1.out
  have HP := Lib.hid (heap_alloc_new w1 (.cells #[.int .i64 t, .slice none 0 0] 24))
  obtain ⟨pc0, pc1, pc2⟩ := cells2_of HP.out
  have HRA := Lib.hid (HR1.out.on (box5 w1 (.cells #[.int .i64 t, .slice none 0 0] 24)))
  have HUA := Lib.hid (HU1.out.trans (turn_below (box5 w1 (.cells #[.int .i64 t, .slice none 0 0] 24))))
  have HXA := Lib.hid ((heap_alloc_old w1 (.cells #[.int .i64 t, .slice none 0 0] 24) hw1).trans HXR1.out)
  have HI : Hid (∀ u, Same (w1.alloc (.cells #[.int .i64 t, .slice none 0 0] 24)) u → Calls Tryz.prog 49 #[.pointer (some ⟨b, 0, none⟩)] u fun e w' => e = .returned (insV i1) ∧ RdAt w' b r1 2 ∧ Turn [b] [b] u w') := fun u hs =>
    instr_got HT.out ((turn_base HB.out hb HUA.out).trans (hs.below _)) hb (HRA.out.on (hs.below _)) (by decide) (by decide) HY.out HST.out
  have HROW : Hid (CodeRow w.heap.size (w1.alloc (.cells #[.int .i64 t, .slice none 0 0] 24)) (.slice none 0 0) []) := row_nil _ _
  obtain ⟨zo, zn, zx⟩ := i1
  unfold insV at HI
  go_region_law (first
    | (go_simp; go_at_call 49; refine (HI.out _ (Same.drew _)).mono ?_; rintro e w4 ⟨rfl, hr4, hu4⟩; have hbh := behind hbw hw1 HP.out HROW.out (((Same.drew _).turn [b]).trans hu4); have hk4 := hbh.1; have hl4 := hbh.2.1; have hz4 := hbh.2.2.1; have HBH := Lib.hid hbh.2.2.2; have HR4 := Lib.hid hr4; have HU4 := Lib.hid hu4; clear hr4 hu4 hbh)
    | ((refine step_append_lies _ (by rfl) _ _ _ (by rfl) w.heap.size 42 i0 _ 3 24 Tryz.underlying22 hi0 hz0 hz1 hz2 rfl (by omega) (.slice none 0 0) 0 ([]) (by rfl) (HBH.out.2.1 _) ⟨w4.heap.size, 0, none⟩ 1 1 [.int .i64 zo, .int .i64 zn, .float .f64 zx] (by rfl) (by rfl) (World.news_of_block (cs := #[.int .i64 zo, .int .i64 zn, .float .f64 zx]) (t := 42) (fr := (0, 0)) (heap_alloc_new w4 _)) (by simp [Value.oneCell']) (by omega) (by unfold maxLen; omega) (by omega) (by simp; omega) (w4.heap.size + 1) (by simp) ?_; intro g cap w5 hown5 hgrow5 hat5 hlt5; have hq5 := HBH.out.2.2 _ _ _ (Same.refl _) hgrow5; have hc5 := hq5.1; have hf5 := hq5.2; have HN5 := Lib.hid (And.intro hown5 (And.intro hgrow5 hat5)); clear hown5 hgrow5 hat5 hq5)))
  all_goals have HL : Hid (Lp W w (w5.setCell ⟨w1.heap.size, 1, none⟩ (.slice (some ⟨g, 0, none⟩) 1 cap)) b w1.heap.size t G 1023 r1 [⟨zo, zn, zx⟩] (.slice (some ⟨g, 0, none⟩) 1 cap)) := Lp.next (c := []) hbw HP.out HROW.out HXA.out HUA.out (fun _ h => (by cases h)) hw1 (Same.drew _) HR4.out HU4.out HN5.out.1 (Same.refl _) HN5.out.2.1 HN5.out.2.2 HG1.out.1 (by decide) (Nat.le_trans (Nat.le_of_lt HG1.out.2.1) HY.out) HG1.out.2.2
  all_goals clear HN5 HBH HR4 HU4 HROW HI hk4 hl4 hz4 hc5 hf5 HP pc0 pc1 pc2 HRA HUA HXA HG1 HXR HXR1 HR1 HU1 HTG HST
  all_goals go_wp2
  all_goals (go_loopw [] (fun wr => ∃ (k : Nat) (r : List UInt8) (c : List Ins) (v : Value), Hid (Lp W w wr b w1.heap.size t G k r c v)) (fun wr => rdLen wr b))
  case atStart => exact ⟨_, _, _, _, HL⟩
  case atStart => exact ⟨_, _, _, _, HL⟩
  case atStart => exact ⟨_, _, _, _, HL⟩
  all_goals (
    obtain ⟨k, r, c, v, HLP⟩ := hrel
    have hk1024 : k ≤ 1024 := by have := HLP.out.sum; omega
    have HP := Lib.hid HLP.out.box
    obtain ⟨pc0, pc1, pc2⟩ := cells2_of HLP.out.box
    obtain ⟨rc0, rc1, rc2⟩ := cells2_of HLP.out.rd
    have HTU := Lib.hid HLP.out.turn
    have HBW := Lib.hid (HLP.out.below HB.out hb)
    have hpe : w.heap.size < w1.heap.size := HLP.out.pbe
    by_cases hr : r = []
    · have HGE : Hid (G = .ok c) := by
        show G = _
        rw [← HLP.out.eq, hr]
        cases k <;> simp [instrsF, HLP.out.ne]
      obtain ⟨g2, cap2, hv2⟩ : ∃ g2 cap2, v = .slice (some ⟨g2, 0, none⟩) c.length cap2 := by
        rcases HLP.out.row.2 with ⟨_, q⟩ | ⟨g2, cap2, cur, hv, _⟩
        · exact absurd (List.eq_nil_of_length_eq_zero q) HLP.out.ne
        · exact ⟨g2, cap2, hv⟩
      subst hv2
      have HPL := Lib.hid (places_any cap2 (HT.out.on HBW.out).sh HLP.out.row.codeAt (by have := HLP.out.sum; omega) HLP.out.good)
      subst hr
      cases hfo : findOut c with
      | some j =>
        have hpe2 : placesE c = gaveUp 50 (2 + j) := by unfold placesE; rw [hfo]
        rw [hpe2] at HPL
        have HPR : Hid (∀ w', ProgR w w' t G (gaveUp 50 (2 + j))) := fun w' => progR_out HGE.out hfo
        go_wp2_with (first
          | (go_at_call 50; refine HPL.out.mono ?_; rintro e w6 ⟨rfl, hb6⟩; have HB6 := Lib.hid hb6; clear hb6))
        exact ⟨rfl, HPR.out _, HTU.out.trans (turn_below HB6.out)⟩
      | none =>
        have hpe2 : placesE c = .returned (.tuple #[]) := by unfold placesE; rw [hfo]
        rw [hpe2] at HPL
        have HPR : Hid (∀ w', CodeRow w.heap.size w' (.slice (some ⟨g2, 0, none⟩) c.length cap2) c → ProgR w w' t G (.returned (.agg #[.int .i64 t, .slice (some ⟨g2, 0, none⟩) c.length cap2]))) := fun w' h => progR_code HGE.out hfo h
        go_wp2_with (first
          | (go_at_call 50; refine HPL.out.mono ?_; rintro e w6 ⟨rfl, hb6⟩; have hp6 := (hb6.block _ pc2).trans HP.out; obtain ⟨m0, m1, m2⟩ := cells2_of hp6; have hr6 := (hb6.block _ (lt_of_block HLP.out.res)).trans HLP.out.res; obtain ⟨n0, n1, n2⟩ := cells2_of hr6; have o0 := frozen_of_row _ _ 0 _ _ hr6; have o1 := frozen_of_row _ _ 1 _ _ hr6; have HRW := Lib.hid (row_put (o := 1) (x := .slice (some ⟨g2, 0, none⟩) c.length cap2) (row_put (o := 0) (x := .int .i64 t) (ownsOn HLP.out.row hb6) (row_ne (ownsOn HLP.out.row hb6) hr6 (by decide))) (row_ne (ownsOn HLP.out.row hb6) hr6 (by decide))); have HB6 := Lib.hid hb6; clear hb6 hp6 hr6))
        exact bodyPost_ret (v := .agg #[.int .i64 t, .slice (some ⟨g2, 0, none⟩) c.length cap2]) (by simp [results, Tryz.results35, go_sem, n0, n1]) rfl ⟨HPR.out _ HRW.out, turn_setN _ _ (Nat.le_refl _) (turn_setN _ _ (Nat.le_refl _) (HTU.out.trans (turn_below HB6.out)))⟩
    · have hre : r.isEmpty = false := by cases r <;> simp_all
      have hrn : ¬ (r = [] ∧ c ≠ []) := fun q => hr q.1
      cases hst : stepI r (1025 - k) with
      | error x =>
        have HGB : Hid (G = .error (x, 1026 - k)) := HLP.out.eq.symm.trans (step_bad hk1024 hrn hst)
        have e1 : (1025 - (k : Int)) + 1 = 1026 - k := by omega
        have HI : Hid (∀ u, Same wr u → Calls Tryz.prog 49 #[.pointer (some ⟨b, 0, none⟩)] u fun e w' => e = gaveUp x (1026 - k) ∧ Turn [b] [b] u w') := fun u hs => by
          have := instr_fail HT.out (HBW.out.trans (hs.below _)) hb (HLP.out.rd.on (hs.below _)) (by omega) (by omega) HLP.out.len hst
          rw [e1] at this
          exact this
        clear hst e1
        go_wp2
        refine wp_region_any (by kernel_rfl) ?_
        change wpAny _ _ _ _ _ _ _ (World.drew _)
        refine wpAny_ready (rs := [0, 2]) (by kernel_rfl) (by simp) ?_
        refine AllReady.cons rfl (fun K hK => ?_) (AllReady.cons rfl (fun K hK => ?_) (AllReady.nil))
        · go_simp
          refine hK _ _ ?_
          clear hK K
          refine wpAny_ready (rs := [1, 2]) (by kernel_rfl) (by simp) ?_
          refine AllReady.cons rfl (fun K hK => ?_) (AllReady.cons rfl (fun K hK => ?_) (AllReady.nil))
          · go_simp
            refine hK _ _ ?_
            clear hK K
            refine wpAny_ready (rs := [2]) (by kernel_rfl) (by simp) ?_
            refine AllReady.cons rfl (fun K hK => ?_) (AllReady.nil)
            · go_simp
              refine hK _ _ ?_
              clear hK K
              refine wpAny_ready (rs := [3]) (by kernel_rfl) (by simp) ?_
              refine AllReady.cons rfl (fun K hK => ?_) (AllReady.nil)
              · go_simp
                refine (HI.out _ (Same.drew _)).mono ?_
                rintro e w4 ⟨rfl, hu4⟩
                exact ⟨rfl, progR_bad HGB.out rfl, HTU.out.trans (((Same.drew _).turn [b]).trans hu4)⟩
          · go_simp
            refine hK _ _ ?_
            clear hK K
            refine wpAny_ready (rs := [1, 3]) (by kernel_rfl) (by simp) ?_
            refine AllReady.cons rfl (fun K hK => ?_) (AllReady.cons rfl (fun K hK => ?_) (AllReady.nil))
            · go_simp
              refine hK _ _ ?_
              clear hK K
              refine wpAny_ready (rs := [3]) (by kernel_rfl) (by simp) ?_
              refine AllReady.cons rfl (fun K hK => ?_) (AllReady.nil)
              · go_simp
                refine (HI.out _ (Same.drew _)).mono ?_
                rintro e w4 ⟨rfl, hu4⟩
                exact ⟨rfl, progR_bad HGB.out rfl, HTU.out.trans (((Same.drew _).turn [b]).trans hu4)⟩
            · go_simp
              refine (HI.out _ (Same.drew _)).mono ?_
              rintro e w4 ⟨rfl, hu4⟩
              exact ⟨rfl, progR_bad HGB.out rfl, HTU.out.trans (((Same.drew _).turn [b]).trans hu4)⟩
        · go_simp
          refine hK _ _ ?_
          clear hK K
          refine wpAny_ready (rs := [0, 3]) (by kernel_rfl) (by simp) ?_
          refine AllReady.cons rfl (fun K hK => ?_) (AllReady.cons rfl (fun K hK => ?_) (AllReady.nil))
          · go_simp
            refine hK _ _ ?_
            clear hK K
            refine wpAny_ready (rs := [1, 3]) (by kernel_rfl) (by simp) ?_
            refine AllReady.cons rfl (fun K hK => ?_) (AllReady.cons rfl (fun K hK => ?_) (AllReady.nil))
            · go_simp
              refine hK _ _ ?_
              clear hK K
              refine wpAny_ready (rs := [3]) (by kernel_rfl) (by simp) ?_
              refine AllReady.cons rfl (fun K hK => ?_) (AllReady.nil)
              · go_simp
                refine (HI.out _ (Same.drew _)).mono ?_
                rintro e w4 ⟨rfl, hu4⟩
                exact ⟨rfl, progR_bad HGB.out rfl, HTU.out.trans (((Same.drew _).turn [b]).trans hu4)⟩
            · go_simp
              refine (HI.out _ (Same.drew _)).mono ?_
              rintro e w4 ⟨rfl, hu4⟩
              exact ⟨rfl, progR_bad HGB.out rfl, HTU.out.trans (((Same.drew _).turn [b]).trans hu4)⟩
          · go_simp
            refine (HI.out _ (Same.drew _)).mono ?_
            rintro e w4 ⟨rfl, hu4⟩
            exact ⟨rfl, progR_bad HGB.out rfl, HTU.out.trans (((Same.drew _).turn [b]).trans hu4)⟩
      | ok q5 =>
        obtain ⟨i, r'⟩ := q5
        obtain ⟨k', hkk, hG2, hl2, hg2⟩ := step_got hk1024 hrn hst
        subst hkk
        have e1 : (1025 - ((k' + 1 : Nat) : Int)) + 1 = 1025 - (k' : Int) := by omega
        have HG2 := Lib.hid (And.intro (hG2.symm.trans HLP.out.eq) (And.intro hl2 hg2))
        have HI : Hid (∀ u, Same wr u → Calls Tryz.prog 49 #[.pointer (some ⟨b, 0, none⟩)] u fun e w' => e = .returned (insV i) ∧ RdAt w' b r' (1025 - k') ∧ Turn [b] [b] u w') := fun u hs => by
          have := instr_got HT.out (HBW.out.trans (hs.below _)) hb (HLP.out.rd.on (hs.below _)) (by omega) (by omega) HLP.out.len hst
          rw [e1] at this
          exact this
        have hcl : c.length ≤ 1024 := by have := HLP.out.sum; omega
        have HROW := Lib.hid HLP.out.row
        clear hst e1 hG2 hl2 hg2
        obtain ⟨zo, zn, zx⟩ := i
        unfold insV at HI
        go_wp2
        go_region_law (first
    | (go_simp; go_at_call 49; refine (HI.out _ (Same.drew _)).mono ?_; rintro e w4 ⟨rfl, hr4, hu4⟩; have hbh := behind hbw hpe HP.out HROW.out (((Same.drew _).turn [b]).trans hu4); have hk4 := hbh.1; have hl4 := hbh.2.1; have hz4 := hbh.2.2.1; have HBH := Lib.hid hbh.2.2.2; have HR4 := Lib.hid hr4; have HU4 := Lib.hid hu4; clear hr4 hu4 hbh)
    | ((refine step_append_lies _ (by rfl) _ _ _ (by rfl) w.heap.size 42 i0 _ 3 24 Tryz.underlying22 hi0 hz0 hz1 hz2 rfl (by omega) (v) c.length (c.flatMap insC) (by rfl) (HBH.out.2.1 _) ⟨w4.heap.size, 0, none⟩ 1 1 [.int .i64 zo, .int .i64 zn, .float .f64 zx] (by rfl) (by rfl) (World.news_of_block (cs := #[.int .i64 zo, .int .i64 zn, .float .f64 zx]) (t := 42) (fr := (0, 0)) (heap_alloc_new w4 _)) (by simp [Value.oneCell']) (by omega) (by unfold maxLen; omega) (by omega) (by simp; omega) (w4.heap.size + 1) (by simp) ?_; intro g cap w5 hown5 hgrow5 hat5 hlt5; have hq5 := HBH.out.2.2 _ _ _ (Same.refl _) hgrow5; have hc5 := hq5.1; have hf5 := hq5.2; have HN5 := Lib.hid (And.intro hown5 (And.intro hgrow5 hat5)); clear hown5 hgrow5 hat5 hq5)))
        all_goals have HL : Hid (Lp W w (w5.setCell ⟨w1.heap.size, 1, none⟩ (.slice (some ⟨g, 0, none⟩) (c.length + 1) cap)) b w1.heap.size t G k' r' (c ++ [⟨zo, zn, zx⟩]) (.slice (some ⟨g, 0, none⟩) (c.length + 1) cap)) := Lp.next hbw HP.out HROW.out HLP.out.res HLP.out.turn HLP.out.good hpe (Same.drew _) HR4.out HU4.out HN5.out.1 (Same.refl _) HN5.out.2.1 HN5.out.2.2 HG2.out.1 (by have := HLP.out.sum; omega) (Nat.le_trans (Nat.le_of_lt HG2.out.2.1) HLP.out.len) HG2.out.2.2
        all_goals go_wp2
        all_goals exact ⟨⟨k', r', _, _, HL⟩, by rw [HL.out.rd.len, HLP.out.rd.len]; exact HG2.out.2.1⟩)
end Go.Proofs.YtlnobfmbnnfbdaaGreatDoor
