import Derived.Test.YtlkldgopliablaaGreatDoorD1
import Derived.ChangeKeysEq
namespace Go.Proofs.YtlkldgopliablaaGreatDoor.Sd
open Go.ChangeShapes Go.WideShapes Go.ChangeAt Go.RowKit

def arr8 (f : Nat → Bool) : Array Value := #[.bool (f 0), .bool (f 1), .bool (f 2), .bool (f 3), .bool (f 4), .bool (f 5), .bool (f 6), .bool (f 7)]
theorem arr8_part (f : Nat → Bool) (i : Nat) (hi : i < 8) (w : World) : (part 4 (arr8 f) (i * 1)).run Tryz.prog w = .ok (.bool (f i)) w := by
  have a3 := Tryz.isAgg4
  match i, hi with
  | 0, _ => simp [part, arr8, a3]
  | 1, _ => simp [part, arr8, a3]
  | 2, _ => simp [part, arr8, a3]
  | 3, _ => simp [part, arr8, a3]
  | 4, _ => simp [part, arr8, a3]
  | 5, _ => simp [part, arr8, a3]
  | 6, _ => simp [part, arr8, a3]
  | 7, _ => simp [part, arr8, a3]
  | k + 8, h => omega
theorem arr8_items (f h : Nat → Bool) (w : World) : ∀ l : List Nat, (∀ i ∈ l, i < 8) → (Op.eqItems 9999 4 1 (arr8 f) (arr8 h) l).run Tryz.prog w = .ok (l.all fun i => f i == h i) w
  | [], _ => by simp [Op.eqItems]
  | i :: l, hl => by
    have ih := arr8_items f h w l (fun j hj => hl j (List.mem_cons_of_mem _ hj))
    have h1 := hl i (List.mem_cons_self ..)
    simp only [Op.eqItems, Sem.run_bind, arr8_part f i h1, arr8_part h i h1, Result.andThen_ok, run_equalIn_bool w 9998 4 (f i) (h i) Tryz.underlying4]
    cases e : f i == h i
    · simp [e]
    · simp [e, ih]
theorem marks_eq (f h : Nat → Bool) (w : World) : (Op.equalIn 10000 168 (.agg #[.bool (f 0), .bool (f 1), .bool (f 2), .bool (f 3), .bool (f 4), .bool (f 5), .bool (f 6), .bool (f 7)]) (.agg #[.bool (h 0), .bool (h 1), .bool (h 2), .bool (h 3), .bool (h 4), .bool (h 5), .bool (h 6), .bool (h 7)])).run Tryz.prog w = .ok (eq8 f h) w := by
  obtain ⟨i, hi⟩ : ∃ i, Tryz.prog.info? 4 = some i := Option.isSome_iff_exists.1 (by kernel_rfl)
  have hc : Tryz.prog.cellsOf 4 = 1 := by kernel_rfl
  have q := run_equalIn_array w 9999 (arr8 f) (arr8 h) Tryz.underlying168 hi
  rw [hc, arr8_items f h w _ (fun i hi => by simpa using hi)] at q
  exact q.trans (by simp [eq8, List.range, List.range.loop, Bool.and_assoc])
theorem RdAt.cong {w : World} {b : Nat} {m m' : Rd} (h : RdAt w b m) (e : boxV m = boxV m') : RdAt w b m' := ⟨by rw [← e]; exact h.box⟩
theorem cells18 {w : World} {b : Nat} {m : Rd} (h : RdAt w b m) : w.cell? ⟨b, 1, none⟩ = some (.bool (m.g 0)) ∧ w.cell? ⟨b, 2, none⟩ = some (.bool (m.g 1)) ∧ w.cell? ⟨b, 3, none⟩ = some (.bool (m.g 2)) ∧ w.cell? ⟨b, 4, none⟩ = some (.bool (m.g 3)) ∧ w.cell? ⟨b, 5, none⟩ = some (.bool (m.g 4)) ∧ w.cell? ⟨b, 6, none⟩ = some (.bool (m.g 5)) ∧ w.cell? ⟨b, 7, none⟩ = some (.bool (m.g 6)) ∧ w.cell? ⟨b, 8, none⟩ = some (.bool (m.g 7)) ∧ w.cell? ⟨b, 9, none⟩ = some (.bool (m.s 0)) ∧ w.cell? ⟨b, 10, none⟩ = some (.bool (m.s 1)) ∧ w.cell? ⟨b, 11, none⟩ = some (.bool (m.s 2)) ∧ w.cell? ⟨b, 12, none⟩ = some (.bool (m.s 3)) ∧ w.cell? ⟨b, 13, none⟩ = some (.bool (m.s 4)) ∧ w.cell? ⟨b, 14, none⟩ = some (.bool (m.s 5)) ∧ w.cell? ⟨b, 15, none⟩ = some (.bool (m.s 6)) ∧ w.cell? ⟨b, 16, none⟩ = some (.bool (m.s 7)) ∧ w.cell? ⟨b, 17, none⟩ = some (.int .i64 m.o) ∧ b < w.heap.size :=
  ⟨h.cellG 0 (by omega), h.cellG 1 (by omega), h.cellG 2 (by omega), h.cellG 3 (by omega), h.cellG 4 (by omega), h.cellG 5 (by omega), h.cellG 6 (by omega), h.cellG 7 (by omega), h.cellS 0 (by omega), h.cellS 1 (by omega), h.cellS 2 (by omega), h.cellS 3 (by omega), h.cellS 4 (by omega), h.cellS 5 (by omega), h.cellS 6 (by omega), h.cellS 7 (by omega), h.cellO, h.lt⟩
/-- the round is over -/
theorem RdAt.over {w : World} {b : Nat} {m : Rd} (h : RdAt w b m) : RdAt (((((((((w.setCell ⟨b, 17, none⟩ (.int .i64 ((m.o + 1 : Nat) : Int))).setCell ⟨b, 9, none⟩ (.bool false)).setCell ⟨b, 10, none⟩ (.bool false)).setCell ⟨b, 11, none⟩ (.bool false)).setCell ⟨b, 12, none⟩ (.bool false)).setCell ⟨b, 13, none⟩ (.bool false)).setCell ⟨b, 14, none⟩ (.bool false)).setCell ⟨b, 15, none⟩ (.bool false)).setCell ⟨b, 16, none⟩ (.bool false)) b { m with s := noneF, o := m.o + 1 } ∧ Turn [b] [b] w (((((((((w.setCell ⟨b, 17, none⟩ (.int .i64 ((m.o + 1 : Nat) : Int))).setCell ⟨b, 9, none⟩ (.bool false)).setCell ⟨b, 10, none⟩ (.bool false)).setCell ⟨b, 11, none⟩ (.bool false)).setCell ⟨b, 12, none⟩ (.bool false)).setCell ⟨b, 13, none⟩ (.bool false)).setCell ⟨b, 14, none⟩ (.bool false)).setCell ⟨b, 15, none⟩ (.bool false)).setCell ⟨b, 16, none⟩ (.bool false)) := by
  have a := ((((((((h.setO (m.o + 1)).setS 0 (by omega) false).setS 1 (by omega) false).setS 2 (by omega) false).setS 3 (by omega) false).setS 4 (by omega) false).setS 5 (by omega) false).setS 6 (by omega) false).setS 7 (by omega) false
  refine ⟨a.cong ?_, ?_⟩
  · simp [boxV, putF, noneF]
  · exact ((((((((turn_set w b 17 _).trans (turn_set _ b 9 _)).trans (turn_set _ b 10 _)).trans (turn_set _ b 11 _)).trans (turn_set _ b 12 _)).trans (turn_set _ b 13 _)).trans (turn_set _ b 14 _)).trans (turn_set _ b 15 _)).trans (turn_set _ b 16 _)
set_option maxHeartbeats 2000000 in
set_option maxRecDepth 100000 in
theorem settle_any {w : World} {b : Nat} {m : Rd} (h : RdAt w b m) (ho : m.o < 9223372036854775807) : Calls Tryz.prog 118 #[.pointer (some ⟨b, 0, none⟩)] w fun e w' => e = .returned (.tuple #[]) ∧ RdAt w' b (settleM m) ∧ Turn [b] [b] w w' := by
  have HT : Hid (∀ k, Turn [b] [b] w ((w.alloc (.cells #[.bool false, .bool false, .bool false, .bool false, .bool false, .bool false, .bool false, .bool false] 168)).drewN k) ∧ RdAt ((w.alloc (.cells #[.bool false, .bool false, .bool false, .bool false, .bool false, .bool false, .bool false, .bool false] 168)).drewN k) b m) := fun k => ⟨⟨rfl, rfl, rfl, by simp, fun j hj _ => Below.heap_alloc _ _ _ hj, fun _ q => .inl q⟩, ⟨(Below.heap_alloc _ _ _ h.lt).trans h.box⟩⟩
  obtain ⟨g0, g1, g2, g3, g4, g5, g6, g7, s0, s1, s2, s3, s4, s5, s6, s7, o0, hb⟩ := cells18 h
  have f17 := h.free 17
  have f9 := h.free 9
  have f10 := h.free 10
  have f11 := h.free 11
  have f12 := h.free 12
  have f13 := h.free 13
  have f14 := h.free 14
  have f15 := h.free 15
  have f16 := h.free 16
  have E1 : ∀ u, (Op.equalIn 10000 168 (.agg #[.bool (m.g 0), .bool (m.g 1), .bool (m.g 2), .bool (m.g 3), .bool (m.g 4), .bool (m.g 5), .bool (m.g 6), .bool (m.g 7)]) (.agg #[.bool false, .bool false, .bool false, .bool false, .bool false, .bool false, .bool false, .bool false])).run Tryz.prog u = .ok (eq8 m.g noneF) u := fun u => marks_eq m.g noneF u
  have E2 : ∀ u, (Op.equalIn 10000 168 (.agg #[.bool (m.s 0), .bool (m.s 1), .bool (m.s 2), .bool (m.s 3), .bool (m.s 4), .bool (m.s 5), .bool (m.s 6), .bool (m.s 7)]) (.agg #[.bool (m.g 0), .bool (m.g 1), .bool (m.g 2), .bool (m.g 3), .bool (m.g 4), .bool (m.g 5), .bool (m.g 6), .bool (m.g 7)])).run Tryz.prog u = .ok (eq8 m.s m.g) u := fun u => marks_eq m.s m.g u
  clear h
  cases h1 : eq8 m.g noneF
  · cases h2 : eq8 m.s m.g
    · have e : settleM m = m := by simp [settleM, overB, h1, h2]
      rw [e]
      rw [h1] at E1
      rw [h2] at E2
      clear e h1 h2
      go_enter Tryz.func118, Tryz.ntmps118
      go_wp2
      go_quiet (fail)
      go_wp2
      go_end0
      exact ⟨rfl, (HT.out _).2, (HT.out _).1⟩
    · have e : settleM m = { m with s := noneF, o := m.o + 1 } := by simp [settleM, overB, h1, h2]
      rw [e]
      rw [h1] at E1
      rw [h2] at E2
      clear e h1 h2
      go_enter Tryz.func118, Tryz.ntmps118
      go_wp2
      go_quiet (fail)
      go_wp2
      go_end0
      exact ⟨rfl, (HT.out _).2.over.1, (HT.out _).1.trans (HT.out _).2.over.2⟩
  · have e : settleM m = m := by simp [settleM, overB, h1]
    rw [e]
    rw [h1] at E1
    clear e h1 E2
    go_enter Tryz.func118, Tryz.ntmps118
    go_wp2
    go_quiet (fail)
    go_wp2
    go_end0
    exact ⟨rfl, (HT.out _).2, (HT.out _).1⟩
end Go.Proofs.YtlkldgopliablaaGreatDoor.Sd
