import Derived.Test.YtmmijcmlnhmooaaEX
import Derived.Test.YtmmijcmlnhmooaaEV
import Derived.Test.YtmmijcmlnhmooaaET
import Derived.Test.YtmmijcmlnhmooaaEO
namespace Go.Proofs.Ytmmijcmlnhmooaa
open Go.ChangeShapes Go.WideShapes Go.ChangeAt Go.RowKit Num
attribute [local go_sem] run_store_float

def fls (l : List Nat) : List Value := l.map (Value.float .f64)
theorem take_fls (l : List Nat) (k : Nat) (h : k < l.length) : fls (l.take (k + 1)) = fls (l.take k) ++ [.float .f64 (l.getD k 0)] := by
  unfold fls
  rw [List.take_succ_eq_append_getElem h, List.map_append]
  simp [h]
theorem fInfo : (Try.prog.info? 58).map (fun i => (i.zero, i.size, i.bytes)) = some (some (.float .f64 0), 1, 8) := by kernel_rfl
theorem fl_own {w w' : World} {l : List Nat} {v : Value} {n : Nat} (hn : l.length = n) (h : w'.ownsRow w.heap.size 58 1 v n (fls l)) : ∃ q c, v = .slice q n c ∧ ∀ L : List Nat, (∀ k, k ∈ L → k < w.heap.size) → FlAt w' L q l := by
  rcases h.2 with ⟨rfl, h0⟩ | ⟨g, cap, cur, hv, hb, hg, rest⟩
  · subst h0
    exact ⟨none, 0, rfl, fun L hL i hi => by omega⟩
  · subst hv
    refine ⟨some ⟨g, 0, none⟩, cap, rfl, fun L hL i hi => ⟨g, 0, rfl, lt_of_block hg, fun z => by have := hL g z; omega, ?_⟩⟩
    have q := World.ownsRow.cellAt h i (by omega)
    rw [Nat.zero_add, q]
    simp [fls, hi]
section
variable {w : World} {p : Option Addr} {cap : Nat}
set_option maxHeartbeats 2000000 in
set_option maxRecDepth 100000 in
theorem floats_any {l : List Nat} (h : BitsAt w p l) (hz : l.length * 8 ≤ reachBytes) : Calls Try.prog 42 #[.slice p l.length cap] w fun e w' => ∃ q c, e = .returned (.slice q l.length c) ∧ (∀ L : List Nat, (∀ k, k ∈ L → k < w.heap.size) → FlAt w' L q l) ∧ Below w.heap.size w w' := by
  obtain ⟨n, hn⟩ : ∃ n, l.length = n := ⟨_, rfl⟩
  have hz' : n * 8 ≤ 140737488351232 := by rw [← hn]; exact hz
  have HX : Hid (∀ wr, Below w.heap.size w wr → ∀ k, k < n → ∃ g o, p = some ⟨g, o, none⟩ ∧ g < wr.heap.size ∧ wr.cell? ⟨g, o + k, none⟩ = some (.int .u64 ((l.getD k 0 : Nat) : Int))) := fun wr hb k hk => (h.on hb (Nat.le_refl _)) k (by omega)
  have HT : Hid (∀ k, k < n → fls (l.take (k + 1)) = fls (l.take k) ++ [.float .f64 (l.getD k 0)]) := fun k hk => take_fls l k (by omega)
  have HE : Hid (fls (l.take n) = fls l) := by show _ = _; rw [← hn, List.take_length]
  have HLN : Hid (l.length = n) := hn
  rw [hn]
  obtain ⟨i0, hi, hz0, hz1, hz2⟩ := info_parts fInfo
  have HZI := Lib.hid (And.intro hi (And.intro hz0 (And.intro hz1 hz2)))
  clear hi hz0 hz1 hz2 hn h hz
  go_enter Try.func42, Try.ntmps42
  go_wp2
  go_loopw [3, 4] (fun v vi wr => ∃ k : Nat, vi = .int .i64 k ∧ k ≤ n ∧ Hid (wr.ownsRow w.heap.size 58 1 v k (fls (l.take k))) ∧ Hid (Below w.heap.size w wr)) (fun _ vi _ => n - (intOf vi).toNat)
  case atStart => exact ⟨0, rfl, Nat.zero_le _, World.ownsRow_nil _ _ _ _, Below.refl _ _⟩
  case round =>
    obtain ⟨k, rfl, hk, HO, HB⟩ := hrel
    by_cases hlt : k < n
    · have hlt' : (k : Int) < (n : Int) := by omega
      obtain ⟨g, o, hpg, hg, hx⟩ := HX.out _ HB.out k hlt
      subst hpg
      have HTK := Lib.hid (HT.out k hlt)
      generalize l.getD k 0 = y at hx HTK
      have HS : Hid (w.heap.size ≤ wr.heap.size) := HB.out.size
      clear HX HT
      go_wp2_with (first
        | (go_at_call 24; refine (raw_any _ _).mono ?_; rintro e w' ⟨rfl, hw⟩; subst w')
        | (at_builtin; refine wpList_append_own _ rfl _ _ 67 rfl w.heap.size 58 i0 (.float .f64 0) 1 8 Try.underlying67 HZI.out.1 HZI.out.2.1 HZI.out.2.2.1 HZI.out.2.2.2 rfl (by decide) _ k _ rfl (World.ownsRow.alloc HO.out _) ⟨wr.heap.size, 0, none⟩ 1 1 [.float .f64 y] rfl rfl (cell_one_new _ _ _) (fun u hu => by simp at hu; subst hu; rfl) (by unfold maxLen; omega) (by omega) (by have := HS.out; simp; omega) ?_; intro v3 w3 hown3 hgrow3 hnil3; replace hown3 := Lib.hid hown3; replace hgrow3 := Lib.hid hgrow3; clear hnil3))
      have HF : Hid (w3.ownsRow w.heap.size 58 1 v3 (k + 1) (fls (l.take (k + 1)))) := by
        show w3.ownsRow _ _ _ _ _ _
        rw [HTK.out]
        exact hown3.out
      have HG : Hid (Below w.heap.size w w3) := (HB.out.alloc HB.out.size _).grown hgrow3.out (Nat.le_trans HS.out (by simp)) (fun j hj => (World.ownsRow.lt HO.out j hj).1)
      exact ⟨⟨k + 1, by first | rfl | (congr 1), by omega, HF, HG⟩, by simp [intOf]; omega⟩
    · have hlt' : ¬ (k : Int) < (n : Int) := by omega
      obtain rfl : k = n := by omega
      have ho := HO.out
      rw [HE.out] at ho
      obtain ⟨q, c, hv, hfl⟩ := fl_own HLN.out ho
      subst hv
      have HFL := Lib.hid hfl
      clear HO ho hfl hlt
      go_wp2
      go_ret
      first | exact ⟨q, c, rfl, HFL.out, HB.out⟩ | exact ⟨q, ⟨c, rfl⟩, HFL.out, HB.out⟩
end
/-- a step of the script: its own block, the plan's -/
structure Ob (w u : World) (K I P C V X Y : Int) (Q : Option Addr) (L R : Nat) : Prop where
  op : u.heap[w.heap.size]? = some (.cells #[.int .i64 K, .int .i64 I, .int .i64 P, .int .i64 C, .int .u64 V, .int .u64 X, .int .u64 Y, .slice Q L R] 52 (0, 0))
  pl : u.heap[w.heap.size + 1]? = some (.cells (planC 0 0 0 0 P 0) 31 (0, 0))
section
variable {w u v : World} {K I P C V X Y : Int} {Q : Option Addr} {L R : Nat}
theorem Ob.on (h : Ob w u K I P C V X Y Q L R) (k : Below u.heap.size u v) : Ob w v K I P C V X Y Q L R := ⟨(k.block _ (lt_of_block h.op)).trans h.op, (k.block _ (lt_of_block h.pl)).trans h.pl⟩
theorem Ob.chg {b g : Nat} (h : Ob w u K I P C V X Y Q L R) (k : Chg b g u v) (hb : b < w.heap.size) (hg : g < w.heap.size) : Ob w v K I P C V X Y Q L R := ⟨(k.block _ (lt_of_block h.op) (by omega) (by omega)).trans h.op, (k.block _ (lt_of_block h.pl) (by omega) (by omega)).trans h.pl⟩
theorem Ob.cells (h : Ob w u K I P C V X Y Q L R) : (u.cell? ⟨w.heap.size, 0, none⟩ = some (.int .i64 K) ∧ u.cell? ⟨w.heap.size, 1, none⟩ = some (.int .i64 I) ∧ u.cell? ⟨w.heap.size, 2, none⟩ = some (.int .i64 P) ∧ u.cell? ⟨w.heap.size, 3, none⟩ = some (.int .i64 C) ∧ u.cell? ⟨w.heap.size, 4, none⟩ = some (.int .u64 V) ∧ u.cell? ⟨w.heap.size, 5, none⟩ = some (.int .u64 X) ∧ u.cell? ⟨w.heap.size, 6, none⟩ = some (.int .u64 Y) ∧ u.cell? ⟨w.heap.size, 7, none⟩ = some (.slice Q L R)) ∧ (u.cell? ⟨w.heap.size + 1, 0, none⟩ = some (.int .i64 0) ∧ u.cell? ⟨w.heap.size + 1, 1, none⟩ = some (.int .i64 0) ∧ u.cell? ⟨w.heap.size + 1, 2, none⟩ = some (.int .i64 0) ∧ u.cell? ⟨w.heap.size + 1, 3, none⟩ = some (.int .i64 0) ∧ u.cell? ⟨w.heap.size + 1, 4, none⟩ = some (.int .i64 P) ∧ u.cell? ⟨w.heap.size + 1, 5, none⟩ = some (.int .i64 0)) ∧ w.heap.size + 1 < u.heap.size := by
  obtain ⟨p0, p1, p2, p3, p4, p5, p6⟩ := box6 h.pl
  exact ⟨⟨by rw [cell_of_row _ _ _ _ _ _ h.op]; rfl, by rw [cell_of_row _ _ _ _ _ _ h.op]; rfl, by rw [cell_of_row _ _ _ _ _ _ h.op]; rfl, by rw [cell_of_row _ _ _ _ _ _ h.op]; rfl, by rw [cell_of_row _ _ _ _ _ _ h.op]; rfl, by rw [cell_of_row _ _ _ _ _ _ h.op]; rfl, by rw [cell_of_row _ _ _ _ _ _ h.op]; rfl, by rw [cell_of_row _ _ _ _ _ _ h.op]; rfl⟩, ⟨p0, p1, p2, p3, p4, p5⟩, p6⟩
end
theorem ob_new (w : World) (K I P C V X Y : Int) (Q : Option Addr) (L R : Nat) : Ob w (ow0 w K I P C V X Y Q L R) K I P C V X Y Q L R := by
  unfold ow0
  exact ⟨(Below.heap_alloc _ _ _ (by simp)).trans (alloc_at rfl), alloc_at (by simp)⟩
end Go.Proofs.Ytmmijcmlnhmooaa
