import Derived.Test.YtlnobfmbnnfbdaaGreatDoorCA
import Derived.Deep.MidRow
namespace Go.Proofs.YtlnobfmbnnfbdaaGreatDoor
open Go.ChangeShapes Go.WideShapes Go.ChangeAt Go.RowKit Num
attribute [local go_sem] run_store_float

/-! the tables, read whole -/
theorem flat_at {α : Type} (f : α → List Value) (s : Nat) (hf : ∀ a, (f a).length = s) : ∀ (n : Nat) (l : List α) (m : α), l[n]? = some m → ∀ j, j < s → (l.flatMap f)[n * s + j]? = (f m)[j]?
  | 0, l, m, hm, j, hj => by
    cases l with
    | nil => simp at hm
    | cons a t =>
      simp at hm
      subst hm
      rw [List.flatMap_cons, Nat.zero_mul, Nat.zero_add, List.getElem?_append_left (by rw [hf]; exact hj)]
  | n + 1, l, m, hm, j, hj => by
    cases l with
    | nil => simp at hm
    | cons a t =>
      rw [List.flatMap_cons, List.getElem?_append_right (by rw [hf, Nat.add_mul]; omega)]
      have e : (n + 1) * s + j - (f a).length = n * s + j := by rw [hf, Nat.add_mul]; omega
      rw [e]
      exact flat_at f s hf n t m (by simpa using hm) j hj
def shpC (k : Nat) : List Value := [strB (shp k).word, .int .i64 (shp k).kind, .int .i64 (shp k).lo, .int .i64 (shp k).hi, .int .i64 (shp k).takes, .int .i64 (shp k).lays]
def shpA : List Value := (List.range 21).flatMap shpC
def oneA : List Value := oneT.map strB
def twoA : List Value := twoT.map strB
theorem shpA_range {w : World} (h : Shaped5 w) : w.rangeAt 0 0 shpA := by
  intro j v hj
  have hl : j < 126 := by
    have h1 := (List.getElem?_eq_some_iff.1 hj).1
    have h2 : shpA.length = 126 := by decide +kernel
    omega
  have hk : j / 6 < 21 := by omega
  have hd : j = j / 6 * 6 + j % 6 := by omega
  have hr : j % 6 < 6 := Nat.mod_lt _ (by decide)
  have e := flat_at shpC 6 (fun _ => rfl) (j / 6) (List.range 21) (j / 6) (by simp [hk]) (j % 6) hr
  rw [← hd] at e
  rw [show shpA = (List.range 21).flatMap shpC from rfl, e] at hj
  rw [Nat.zero_add, hd]
  obtain ⟨c0, c1, c2, c3, c4, c5⟩ := h.shp (j / 6) hk
  generalize j % 6 = r at *
  generalize j / 6 = k at *
  match r, hr with
  | 0, _ => rw [← hj]; exact c0
  | 1, _ => rw [← hj]; exact c1
  | 2, _ => rw [← hj]; exact c2
  | 3, _ => rw [← hj]; exact c3
  | 4, _ => rw [← hj]; exact c4
  | 5, _ => rw [← hj]; exact c5
theorem oneA_range {w : World} (h : Shaped5 w) : w.rangeAt 1 0 oneA := by
  intro j v hj
  have hl : j < 9 := (List.getElem?_eq_some_iff.1 hj).1
  rw [Nat.zero_add, h.one j hl, ← hj]
  have hk' : j < oneT.length := hl
  unfold oneA oneW
  rw [List.getElem?_map, List.getD_eq_getElem?_getD, List.getElem?_eq_getElem hk']
  rfl
theorem twoA_range {w : World} (h : Shaped5 w) : w.rangeAt 2 0 twoA := by
  intro j v hj
  have hl : j < 13 := (List.getElem?_eq_some_iff.1 hj).1
  rw [Nat.zero_add, h.two j hl, ← hj]
  have hk' : j < twoT.length := hl
  unfold twoA twoW
  rw [List.getElem?_map, List.getD_eq_getElem?_getD, List.getElem?_eq_getElem hk']
  rfl
set_option maxRecDepth 100000 in
theorem shpA_index (w : World) : ∀ k, k < 21 → (Instr.index 49 (.agg shpA.toArray) (.int .i64 (k : Nat))).run Tryz.prog w = .ok (.agg (shpC k).toArray) w
  | 0, _ => by kernel_rfl
  | 1, _ => by kernel_rfl
  | 2, _ => by kernel_rfl
  | 3, _ => by kernel_rfl
  | 4, _ => by kernel_rfl
  | 5, _ => by kernel_rfl
  | 6, _ => by kernel_rfl
  | 7, _ => by kernel_rfl
  | 8, _ => by kernel_rfl
  | 9, _ => by kernel_rfl
  | 10, _ => by kernel_rfl
  | 11, _ => by kernel_rfl
  | 12, _ => by kernel_rfl
  | 13, _ => by kernel_rfl
  | 14, _ => by kernel_rfl
  | 15, _ => by kernel_rfl
  | 16, _ => by kernel_rfl
  | 17, _ => by kernel_rfl
  | 18, _ => by kernel_rfl
  | 19, _ => by kernel_rfl
  | 20, _ => by kernel_rfl
  | n + 21, h => absurd h (by omega)
set_option maxRecDepth 100000 in
theorem oneA_index (w : World) : ∀ k, k < 9 → (Instr.index 76 (.agg oneA.toArray) (.int .i64 (k : Nat))).run Tryz.prog w = .ok (strB (oneW k)) w
  | 0, _ => by kernel_rfl
  | 1, _ => by kernel_rfl
  | 2, _ => by kernel_rfl
  | 3, _ => by kernel_rfl
  | 4, _ => by kernel_rfl
  | 5, _ => by kernel_rfl
  | 6, _ => by kernel_rfl
  | 7, _ => by kernel_rfl
  | 8, _ => by kernel_rfl
  | n + 9, h => absurd h (by omega)
set_option maxRecDepth 100000 in
theorem twoA_index (w : World) : ∀ k, k < 13 → (Instr.index 77 (.agg twoA.toArray) (.int .i64 (k : Nat))).run Tryz.prog w = .ok (strB (twoW k)) w
  | 0, _ => by kernel_rfl
  | 1, _ => by kernel_rfl
  | 2, _ => by kernel_rfl
  | 3, _ => by kernel_rfl
  | 4, _ => by kernel_rfl
  | 5, _ => by kernel_rfl
  | 6, _ => by kernel_rfl
  | 7, _ => by kernel_rfl
  | 8, _ => by kernel_rfl
  | 9, _ => by kernel_rfl
  | 10, _ => by kernel_rfl
  | 11, _ => by kernel_rfl
  | 12, _ => by kernel_rfl
  | n + 13, h => absurd h (by omega)
end Go.Proofs.YtlnobfmbnnfbdaaGreatDoor
namespace Go.Proofs.YtlnobfmbnnfbdaaGreatDoor
open Go.ChangeShapes Go.WideShapes Go.ChangeAt Go.RowKit Num
attribute [local go_sem] run_store_float

def namedV : Option (Nat × Nat) → Value
  | some q => .tuple #[insV ⟨q.1, q.2, 0⟩, .bool true]
  | none => .tuple #[insV ⟨0, 0, 0⟩, .bool false]
theorem named_nil : namedW [] = none := rfl
theorem named_row {l : List UInt8} (hl : l ≠ []) {k : Nat} (hk : k < 21) (h : (shp k).word = l) (hn : ∀ j, j < k → (shp j).word ≠ l) : namedW l = some (k, 0) := by
  have e : findW wordT l = some k := findW_some.2 ⟨hk, by rw [wordT_at k hk]; exact h, fun j hj => by rw [wordT_at j (by omega)]; exact hn j hj⟩
  unfold namedW
  rw [if_neg hl, e]
theorem no_row {l : List UInt8} (hn : ∀ j, j < 21 → (shp j).word ≠ l) : findW wordT l = none := findW_none.2 fun j hj => by
  have hj' : j < 21 := hj
  rw [wordT_at j hj']
  exact hn j hj'
theorem named_one {l : List UInt8} (hl : l ≠ []) (h0 : findW wordT l = none) {k : Nat} (hk : k < 9) (h : oneW k = l) (hn : ∀ j, j < k → oneW j ≠ l) : namedW l = some (9, k) := by
  have e : findW oneT l = some k := findW_some.2 ⟨hk, h, hn⟩
  unfold namedW
  rw [if_neg hl, h0, e]
theorem named_two {l : List UInt8} (hl : l ≠ []) (h0 : findW wordT l = none) (h1 : findW oneT l = none) {k : Nat} (hk : k < 13) (h : twoW k = l) (hn : ∀ j, j < k → twoW j ≠ l) : namedW l = some (10, k) := by
  have e : findW twoT l = some k := findW_some.2 ⟨hk, h, hn⟩
  unfold namedW
  rw [if_neg hl, h0, h1, e]
theorem named_none {l : List UInt8} (h0 : findW wordT l = none) (h1 : findW oneT l = none) (h2 : findW twoT l = none) : namedW l = none := by
  unfold namedW
  rw [h0, h1, h2]
  split <;> rfl
theorem frozen3 {w : World} {x : Nat} {v0 v1 v2 : Value} {T : TypeId} (h : w.heap[x]? = some (.cells #[v0, v1, v2] T (0, 0))) :
    w.frozen? ⟨x, 0, none⟩ = false ∧ w.frozen? ⟨x, 1, none⟩ = false ∧ w.frozen? ⟨x, 2, none⟩ = false := ⟨frozen_of_row w x 0 _ _ h, frozen_of_row w x 1 _ _ h, frozen_of_row w x 2 _ _ h⟩
theorem bl_set {w w' : World} (b o : Nat) (v : Value) (hb : w.heap.size ≤ b) (h : Below w.heap.size w w') : Below w.heap.size w (w'.setCell ⟨b, o, none⟩ v) := h.setCell (p := ⟨b, o, none⟩) hb v
set_option maxHeartbeats 4000000 in
set_option maxRecDepth 100000 in
theorem named_any (l : List UInt8) (w : World) (hT : Shaped5 w) : Calls Tryz.prog 70 #[.string ⟨l.toArray⟩] w fun e w' => e = .returned (namedV (namedW l)) ∧ Below w.heap.size w w' := by
  by_cases hl : l = []
  · subst hl
    rw [named_nil]
    go_enter Tryz.func70, Tryz.ntmps70
    go_wp2
    exact bodyPost_ret (v := namedV none) (by simp [results, Tryz.results70, go_sem, namedV, insV]) rfl ⟨rfl, box5 _ _⟩
  · have HT := Lib.hid hT
    have HL := Lib.hid hl
    have hne : l.isEmpty = false := by cases l <;> simp_all
    have HX := Lib.hid (heap_alloc_new w (.cells #[.int .i64 0, .int .i64 0, .float .f64 0] 42))
    have HB0 := Lib.hid (box5 w (.cells #[.int .i64 0, .int .i64 0, .float .f64 0] 42))
    have HI := Lib.hid shpA_index
    generalize hSA : shpA.toArray = SA at HI
    clear hT hl
    go_enter Tryz.func70, Tryz.ntmps70
    go_wp2
    refine wp_load_mid 49 _ rfl 0 0 rfl shpA _ (shpA_range (HT.out.on HB0.out)) Tryz.underlying49 rfl (by kernel_rfl) ?_
    rw [hSA]
    go_wp2
    go_loopw [14] (fun vi wr => ∃ (i : Nat), vi = .int .i64 i ∧ i ≤ 21 ∧ Hid (∀ j, j < i → (shp j).word ≠ l) ∧ Hid (Below (w.heap.size + 1) (w.alloc (.cells #[.int .i64 0, .int .i64 0, .float .f64 0] 42)) wr)) (fun vi _ => 21 - (intOf vi).toNat)
    case atStart => exact ⟨0, rfl, Nat.zero_le _, fun j hj => absurd hj (Nat.not_lt_zero j), Below.refl _ _⟩
    case round =>
      obtain ⟨i, rfl, hi, HM, HB⟩ := hrel
      have HBW := Lib.hid (HB0.out.trans (HB.out.mono (Nat.le_succ _)))
      by_cases hlt : i < 21
      · have hlt' : (i : Int) < 21 := by omega
        have hx := (HB.out.block w.heap.size (Nat.lt_succ_self _)).trans HX.out
        obtain ⟨q0, q1, q2, q3⟩ := cells3_of hx
        obtain ⟨f0, f1, f2⟩ := frozen3 hx
        have hix := fun w => HI.out w i hlt
        unfold shpC strB at hix
        by_cases hw : (shp i).word = l
        · have HE := Lib.hid (named_row HL.out hlt hw HM.out)
          rw [hw] at hix
          clear hx
          go_wp2
          exact bodyPost_ret (v := namedV (some (i, 0))) (by simp [results, Tryz.results70, go_sem, namedV, insV, q0, q1, q2, q3]) rfl ⟨by rw [HE.out], bl_alloc _ (bl_set _ _ _ (Nat.le_refl _) (bl_set _ _ _ (Nat.le_refl _) (bl_set _ _ _ (Nat.le_refl _) HBW.out)))⟩
        · have HM2 : Hid (∀ j, j < i + 1 → (shp j).word ≠ l) := fun j hj => by
            rcases Nat.lt_succ_iff_lt_or_eq.1 hj with q | rfl
            · exact HM.out j q
            · exact hw
          have hw' : ((shp i).word == l) = false := by simpa using hw
          clear hx HM
          generalize (shp i).word = wd at *
          go_wp2
          exact ⟨⟨i + 1, by first | rfl | (congr 1), by omega, HM2, HB.out.trans ((box5 _ _).mono (Nat.le_trans (by simp) HB.out.size))⟩, by simp [intOf]; omega⟩
      · have hlt' : ¬ (i : Int) < 21 := by omega
        have HZ := Lib.hid (no_row (fun j hj => HM.out j (by omega)))
        have HI1 := Lib.hid oneA_index
        generalize hOA : oneA.toArray = OA at HI1
        clear HI
        go_wp2_with (refine wpList_load_mid rfl 76 _ rfl 1 0 rfl oneA _ (oneA_range (HT.out.on HBW.out)) Tryz.underlying76 rfl (by kernel_rfl) ?_; rw [hOA])
        go_loopw [26] (fun vi wr => ∃ (i : Nat), vi = .int .i64 i ∧ i ≤ 9 ∧ Hid (∀ j, j < i → oneW j ≠ l) ∧ Hid (Below (w.heap.size + 1) (w.alloc (.cells #[.int .i64 0, .int .i64 0, .float .f64 0] 42)) wr)) (fun vi _ => 9 - (intOf vi).toNat)
        case atStart => exact ⟨0, rfl, Nat.zero_le _, fun j hj => absurd hj (Nat.not_lt_zero j), HB⟩
        case round =>
          clear HM HB HBW hi hlt hlt'
          obtain ⟨i, rfl, hi, HM, HB⟩ := hrel
          have HBW := Lib.hid (HB0.out.trans (HB.out.mono (Nat.le_succ _)))
          by_cases hlt : i < 9
          · have hlt' : (i : Int) < 9 := by omega
            have hx := (HB.out.block w.heap.size (Nat.lt_succ_self _)).trans HX.out
            obtain ⟨q0, q1, q2, q3⟩ := cells3_of hx
            obtain ⟨f0, f1, f2⟩ := frozen3 hx
            have hix := fun w => HI1.out w i hlt
            unfold strB at hix
            by_cases hw : oneW i = l
            · have HE := Lib.hid (named_one HL.out HZ.out hlt hw HM.out)
              rw [hw] at hix
              clear hx
              go_wp2
              exact bodyPost_ret (v := namedV (some (9, i))) (by simp [results, Tryz.results70, go_sem, namedV, insV, q0, q1, q2]) rfl ⟨by rw [HE.out], bl_set _ _ _ (Nat.le_refl _) (bl_set _ _ _ (Nat.le_refl _) (bl_set _ _ _ (Nat.le_refl _) HBW.out))⟩
            · have HM2 : Hid (∀ j, j < i + 1 → oneW j ≠ l) := fun j hj => by
                rcases Nat.lt_succ_iff_lt_or_eq.1 hj with q | rfl
                · exact HM.out j q
                · exact hw
              have hw' : (oneW i == l) = false := by simpa using hw
              clear hx HM
              generalize oneW i = wd at *
              go_wp2
              exact ⟨⟨i + 1, by first | rfl | (congr 1), by omega, HM2, HB⟩, by simp [intOf]; omega⟩
          · have hlt' : ¬ (i : Int) < 9 := by omega
            have HZ1 : Hid (findW oneT l = none) := findW_none.2 (fun j hj => HM.out j (by have : j < 9 := hj; omega))
            have HI2 := Lib.hid twoA_index
            generalize hTA : twoA.toArray = TA at HI2
            clear HI1
            go_wp2_with (refine wpList_load_mid rfl 77 _ rfl 2 0 rfl twoA _ (twoA_range (HT.out.on HBW.out)) Tryz.underlying77 rfl (by kernel_rfl) ?_; rw [hTA])
            go_loopw [37] (fun vi wr => ∃ (i : Nat), vi = .int .i64 i ∧ i ≤ 13 ∧ Hid (∀ j, j < i → twoW j ≠ l) ∧ Hid (Below (w.heap.size + 1) (w.alloc (.cells #[.int .i64 0, .int .i64 0, .float .f64 0] 42)) wr)) (fun vi _ => 13 - (intOf vi).toNat)
            case atStart => exact ⟨0, rfl, Nat.zero_le _, fun j hj => absurd hj (Nat.not_lt_zero j), HB⟩
            case round =>
              clear HM HB HBW hi hlt hlt'
              obtain ⟨i, rfl, hi, HM, HB⟩ := hrel
              have HBW := Lib.hid (HB0.out.trans (HB.out.mono (Nat.le_succ _)))
              have hx := (HB.out.block w.heap.size (Nat.lt_succ_self _)).trans HX.out
              obtain ⟨q0, q1, q2, q3⟩ := cells3_of hx
              obtain ⟨f0, f1, f2⟩ := frozen3 hx
              by_cases hlt : i < 13
              · have hlt' : (i : Int) < 13 := by omega
                have hix := fun w => HI2.out w i hlt
                unfold strB at hix
                by_cases hw : twoW i = l
                · have HE := Lib.hid (named_two HL.out HZ.out HZ1.out hlt hw HM.out)
                  rw [hw] at hix
                  clear hx
                  go_wp2
                  exact bodyPost_ret (v := namedV (some (10, i))) (by simp [results, Tryz.results70, go_sem, namedV, insV, q0, q1, q2]) rfl ⟨by rw [HE.out], bl_set _ _ _ (Nat.le_refl _) (bl_set _ _ _ (Nat.le_refl _) (bl_set _ _ _ (Nat.le_refl _) HBW.out))⟩
                · have HM2 : Hid (∀ j, j < i + 1 → twoW j ≠ l) := fun j hj => by
                    rcases Nat.lt_succ_iff_lt_or_eq.1 hj with q | rfl
                    · exact HM.out j q
                    · exact hw
                  have hw' : (twoW i == l) = false := by simpa using hw
                  clear hx HM
                  generalize twoW i = wd at *
                  go_wp2
                  exact ⟨⟨i + 1, by first | rfl | (congr 1), by omega, HM2, HB⟩, by simp [intOf]; omega⟩
              · have hlt' : ¬ (i : Int) < 13 := by omega
                have HZ2 : Hid (findW twoT l = none) := findW_none.2 (fun j hj => HM.out j (by have : j < 13 := hj; omega))
                have HE := Lib.hid (named_none HZ.out HZ1.out HZ2.out)
                clear hx
                go_wp2
                exact bodyPost_ret (v := namedV none) (by simp [results, Tryz.results70, go_sem, namedV, insV, q0, q1, q2]) rfl ⟨by rw [HE.out], bl_set _ _ _ (Nat.le_refl _) (bl_set _ _ _ (Nat.le_refl _) (bl_set _ _ _ (Nat.le_refl _) HBW.out))⟩
end Go.Proofs.YtlnobfmbnnfbdaaGreatDoor
