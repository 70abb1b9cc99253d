import Derived.Test.YtlnobfmbnnfbdaaGreatDoorCV
import Derived.Deep.RegionLaw
namespace Go.Proofs.YtlnobfmbnnfbdaaGreatDoor
open Go.ChangeShapes Go.WideShapes Go.ChangeAt Go.RowKit Num
attribute [local go_sem] run_store_float

/-- what reading a program comes to, of the lines behind the first -/
def ProgR (w w' : World) (t : Int) (G : Got) (e : Ending) : Prop := match ended t G with
  | .error (x, l) => e = gaveUp x l
  | .ok (t', c) => ∃ ao cap, e = .returned (progV t' ao c.length cap) ∧ CodeRow w.heap.size w' (.slice ao c.length cap) c
theorem progR_bad {w w' : World} {t x l : Int} {G : Got} {e : Ending} (hG : G = .error (x, l)) (h : e = gaveUp x l) : ProgR w w' t G e := by
  subst hG
  exact h
/-- the loop's state -/
structure Lp (W w wr : World) (b pb : Nat) (t : Int) (G : Got) (k : Nat) (r : List UInt8) (c : List Ins) (v : Value) : Prop where
  rd : RdAt wr b r (1025 - k)
  eq : instrsF k r c = G
  ne : c ≠ []
  sum : c.length + k = 1024
  box : wr.heap[pb]? = some (.cells #[.int .i64 t, v] 24 (0, 0))
  row : CodeRow w.heap.size wr v c
  res : wr.heap[w.heap.size]? = some (.cells #[.int .i64 0, .slice none 0 0] 24 (0, 0))
  turn : Turn [b] [b] w wr
  good : ∀ i ∈ c, Good i
  len : r.length ≤ 65536
  pbe : w.heap.size < pb
theorem Lp.below {W w wr : World} {b pb k : Nat} {t : Int} {G : Got} {r : List UInt8} {c : List Ins} {v : Value} (h : Lp W w wr b pb t G k r c v) (hB : Below W.heap.size W w) (hb : W.heap.size ≤ b) : Below W.heap.size W wr := turn_base hB hb h.turn
theorem row_put {B p : Nat} {w : World} {v x : Value} {c : List Ins} {o : Nat} (h : CodeRow B w v c) (hn : v.ownBlock ≠ some p) : CodeRow B (w.setCell ⟨p, o, none⟩ x) v c := by
  refine ⟨h.1, ?_⟩
  rcases h.2 with q | ⟨g, cap, cur, hv, hB, hg, rest⟩
  · exact .inl q
  · refine .inr ⟨g, cap, cur, hv, hB, ?_, rest⟩
    rw [heap_setCell_other _ _ _ _ (by simpa using (by rintro rfl; exact hn (by rw [hv]; rfl) : g ≠ p))]
    exact hg
/-- behind the append and the store -/
theorem Lp.next {W w wr u w4 w5 : World} {b pb k g cap : Nat} {t : Int} {G : Got} {r' : List UInt8} {c : List Ins} {v : Value} {i : Ins} (hbw : b < w.heap.size)
    (box : wr.heap[pb]? = some (.cells #[.int .i64 t, v] 24 (0, 0))) (row : CodeRow w.heap.size wr v c) (res : wr.heap[w.heap.size]? = some (.cells #[.int .i64 0, .slice none 0 0] 24 (0, 0))) (turn : Turn [b] [b] w wr) (good : ∀ i ∈ c, Good i) (pbe : w.heap.size < pb)
    (hs : Same wr u) (hr : RdAt w4 b r' (1025 - k)) (hu : Turn [b] [b] u w4)
    (hown : w5.ownsRow w.heap.size 42 3 (.slice (some ⟨g, 0, none⟩) (c.length + 1) cap) (c.length + 1) (c.flatMap insC ++ insC i)) {x : Obj} {w4' : World} (h4 : Same (w4.alloc x) w4') (hg : w4'.grownBy w5 v.ownBlock) (hat : v.ownBlock = some g ∨ g = w4.heap.size + 1) (hG : instrsF k r' (c ++ [i]) = G) (hsum : c.length + 1 + k = 1024) (hlen : r'.length ≤ 65536) (hgi : Good i) :
    Lp W w (w5.setCell ⟨pb, 1, none⟩ (.slice (some ⟨g, 0, none⟩) (c.length + 1) cap)) b pb t G k r' (c ++ [i]) (.slice (some ⟨g, 0, none⟩) (c.length + 1) cap) := by
  have tu : Turn [b] [b] wr w4 := (hs.turn [b]).trans hu
  have hpb : pb < wr.heap.size := lt_of_block box
  have hrs : w.heap.size < wr.heap.size := lt_of_block res
  have b4 : w4.heap[pb]? = _ := (tu.block pb hpb (by simp; omega)).trans box
  have r4 : w4.heap[w.heap.size]? = _ := (tu.block w.heap.size hrs (by simp; omega)).trans res
  have row4 : CodeRow w.heap.size w4 v c := row_turn row (by
    intro q
    have := row.lt b q
    omega) tu
  have nb : v.ownBlock ≠ some b := by
    intro q
    have := row.lt b q
    omega
  have np : v.ownBlock ≠ some pb := row_ne row box (by decide)
  have nr : v.ownBlock ≠ some w.heap.size := row_ne row res (by decide)
  have k4 : ∀ j, j < w4.heap.size → w4'.heap[j]? = w4.heap[j]? := fun j hj => by rw [h4.heap]; exact heap_alloc_old w4 _ hj
  have z4 : w4'.heap.size = w4.heap.size + 1 := by rw [h4.heap]; simp
  have k5 : ∀ j, j < w4.heap.size → v.ownBlock ≠ some j → w5.heap[j]? = w4.heap[j]? := fun j hj hn => (hg.block j (by omega) (fun q => hn q.symm)).trans (k4 j hj)
  have b5 := (k5 pb (lt_of_block b4) np).trans b4
  have r5 := (k5 w.heap.size (lt_of_block r4) nr).trans r4
  have d5 : RdAt w5 b r' (1025 - k) := (k5 b hr.lt nb).trans hr
  have gp : g ≠ pb := by
    rcases hat with q | q
    · rintro rfl; exact np q
    · have := lt_of_block b4; omega
  have e1 : (c ++ [i]).length = c.length + 1 := by simp
  have e2 : (c ++ [i]).flatMap insC = c.flatMap insC ++ insC i := by simp
  have row5 : CodeRow w.heap.size w5 (.slice (some ⟨g, 0, none⟩) (c.length + 1) cap) (c ++ [i]) := by
    unfold CodeRow
    rw [e1, e2]
    exact hown
  have t5 : Turn [b] [b] w w5 := by
    have t4 := turn.trans tu
    refine ⟨hg.os.trans (h4.os.trans t4.os), hg.tape.trans (h4.tape.trans t4.tape), hg.output.trans (h4.output.trans t4.output), Nat.le_trans t4.size (Nat.le_trans (by omega) hg.size), fun j hj hn => ?_, fun _ h => .inl h⟩
    have : v.ownBlock ≠ some j := by
      intro q
      have := row.lt j q
      omega
    exact (k5 j (Nat.lt_of_lt_of_le hj t4.size) this).trans (t4.block j hj hn)
  refine ⟨rd_setN _ d5 (by omega), hG, by simp, by rw [e1]; exact hsum, (heap_setCell_same w5 pb 1 _ _ _ b5).trans rfl, row_put row5 (by simpa [Value.ownBlock] using gp), (heap_setCell_other _ _ _ _ (by simp; omega)).trans r5, turn_setN _ _ (by omega) t5, fun j hj => ?_, hlen, pbe⟩
  rcases List.mem_append.1 hj with q | q
  · exact good j q
  · rw [List.mem_singleton] at q
    subst q
    exact hgi
end Go.Proofs.YtlnobfmbnnfbdaaGreatDoor
