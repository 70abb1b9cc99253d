/- the document's line and Print -/
import Derived.Test.YtlnobfmbnnfbdaaGreatDoorCE
import Derived.Test.YtlnobfmbnnfbdaaGreatDoorCG
import Derived.Test.YtlnobfmbnnfbdaaGreatDoorC8
import Derived.Lib.SlBytesConst
namespace Go.Proofs.YtlnobfmbnnfbdaaGreatDoor
open Go.ChangeShapes Go.WideShapes Go.ChangeAt Go.RowKit Num
attribute [local go_sem] run_store_float

theorem rhi_zero : ∀ k, k < 21 → 1 ≤ k → (k = 1 ∨ k = 9 ∨ k = 10) ∨ (rhi k = 0 ↔ (shp k).kind = 0) := by decide +kernel
theorem kind_of : ∀ k, k < 21 → 1 ≤ k → ((shp k).kind = 1 ↔ k = 1) ∧ ((shp k).kind = 4 ↔ k = 9) ∧ ((shp k).kind = 5 ↔ k = 10) := by decide +kernel
theorem hi_le : ∀ k, k < 21 → (shp k).hi ≤ 1023 := by decide +kernel
theorem lo_ge : ∀ k, k < 21 → 0 ≤ (shp k).lo := by decide +kernel
theorem refLine_any (i : Ins) (many : Nat) (w : World) (hm : mayB i many = true) (hx : i.x < 18446744073709551616) : Calls Tryz.prog 33 #[insV i] w fun e w' => e = .returned (.string ⟨(lineI i).toArray⟩) ∧ Below w.heap.size w w' := by
  obtain ⟨op, n, x⟩ := i
  obtain ⟨h1, h2, h3, h4, h5, h6⟩ := may_parts hm
  simp only at h1 h2 h3 h4 h5 h6 hx
  obtain ⟨k, rfl⟩ : ∃ k : Nat, op = k := ⟨op.toNat, by omega⟩
  have hk : k < 21 := by omega
  rw [Int.toNat_natCast] at h3 h4 h5
  obtain ⟨q1, q4, q5⟩ := kind_of k hk (by omega)
  have g1 := hi_le k hk
  have g2 := lo_ge k hk
  have hl : lineI ⟨k, n, x⟩ = if (shp k).kind = 1 then (shp k).word ++ 32 :: printT x else if (shp k).kind = 2 ∨ (shp k).kind = 3 then (shp k).word ++ 32 :: Lib.decDigits n.toNat else if (shp k).kind = 4 then oneW n.toNat else if (shp k).kind = 5 then twoW n.toNat else (shp k).word := by
    unfold lineI
    simp only [Int.toNat_natCast]
  unfold insV
  simp only
  by_cases e1 : k = 1
  · subst e1
    rw [hl, if_pos (q1.2 rfl)]
    exact line_push n x w hx
  · have n1 : (shp k).kind ≠ 1 := fun q => e1 (q1.1 q)
    rw [if_neg n1] at hl
    by_cases e9 : k = 9
    · subst e9
      have q9 := q4.2 rfl
      obtain ⟨j, rfl⟩ : ∃ j : Nat, n = j := ⟨n.toNat, by omega⟩
      rw [if_neg (by omega), if_pos q9, Int.toNat_natCast] at hl
      rw [hl]
      exact line_one j x w (by have := shp_9.2.2; omega)
    · have n4 : (shp k).kind ≠ 4 := fun q => e9 (q4.1 q)
      by_cases e10 : k = 10
      · subst e10
        have q10 := q5.2 rfl
        obtain ⟨j, rfl⟩ : ∃ j : Nat, n = j := ⟨n.toNat, by omega⟩
        rw [if_neg (by omega), if_neg n4, if_pos q10, Int.toNat_natCast] at hl
        rw [hl]
        exact line_two j x w (by have := shp_10.2.2; omega)
      · have n5 : (shp k).kind ≠ 5 := fun q => e10 (q5.1 q)
        have qz : rhi k = 0 ↔ (shp k).kind = 0 := by
          rcases rhi_zero k hk (by omega) with q | q
          · omega
          · exact q
        by_cases hz : rhi k = 0
        · rw [if_neg (by have := qz.1 hz; omega), if_neg n4, if_neg n5] at hl
          rw [hl]
          exact line_word k n x w hk e1 e9 e10 hz
        · have n0 : (shp k).kind ≠ 0 := fun q => hz (qz.2 q)
          have ha := kind_all k hk
          rw [if_pos (by omega)] at hl
          rw [hl]
          exact line_num k n x w hk e1 e9 e10 hz (by omega) (by omega)
theorem src_byte {w : World} {k : Nat} (h : w.heap[k]? = some (.cells #[.int .u8 10] 5 (0, 0))) : Src Tryz.prog 1 55 (.slice (some ⟨k, 0, none⟩) 1 1) [(10 : UInt8)].length (byteC [10]) w :=
  Src.ofSlice w Tryz.underlying55 ⟨k, 0, none⟩ 1 1 (byteC [10]) rfl (fun j u hu => by
    rw [Addr.add_mid, Nat.zero_add, cell_of_row w _ _ _ _ _ h]
    match j, hu with
    | 0, hu => simpa [byteC] using hu
    | j + 1, hu => simp [byteC] at hu) (byteC_one _)
theorem head_zero (t : Int) (c : List Ins) : headT t c 0 = tagB t ++ [10] := by simp [headT, bodyT]
theorem conv_const (w : World) (C : Array Value) (n k b : Nat) (hb : b = w.heap.size) : (convert 55 55 (.slice (some ⟨b, 0, none⟩) n k)).run Tryz.prog (w.alloc (.cells C 5)) = .ok (.slice (some ⟨b, 0, none⟩) n k) (w.alloc (.cells C 5 (C.size, C.size + 1))) := by
  subst hb
  exact Lib.run_convert_bytes_const (P := Tryz.prog) w 55 5 C n k Tryz.underlying55 Tryz.underlying5
theorem row_new {B : Nat} (w : World) (l : List UInt8) (q : Nat × Nat) (hB : B ≤ w.heap.size) : ByteRow B (w.alloc (.cells (byteC l).toArray 5 q)) w.heap.size l.length l := by
  have h := heap_alloc_new w (.cells (byteC l).toArray 5 q)
  refine ⟨hB, lt_of_block h, Nat.le_refl _, fun j v hv => ?_, fun j hj => absurd hj (by omega)⟩
  rw [Nat.zero_add, cell_of_row _ _ _ _ _ _ h]
  simpa using hv
theorem row_newer {B : Nat} (w : World) (b : Nat) (hb : b = w.heap.size) (l : List UInt8) (q : Nat × Nat) (hB : B ≤ w.heap.size) : ByteRow B (w.alloc (.cells (byteC l).toArray 5 q)) b l.length l := by
  subst hb
  exact row_new w l q hB
/-- onto a row: a text -/
theorem app_text {B g cap : Nat} {w : World} {l : List UInt8} (h : ByteRow B w g cap l) (hB : B ≤ w.heap.size) (ty : TypeId) (s : List UInt8) (hz : l.length + s.length ≤ 1000000) (n : Nat) (hn : n = l.length) :
    ∃ v w', (Builtin.append_ #[55, 9] ty #[.slice (some ⟨g, 0, none⟩) n cap, .string ⟨s.toArray⟩]).run Tryz.prog w = .ok v w' ∧ ((∃ g' cap', v = .slice (some ⟨g', 0, none⟩) (l ++ s).length cap' ∧ ByteRow B w' g' cap' (l ++ s)) ∧ Below B w w') := by
  subst hn
  obtain ⟨g', cap', w', hr, hrow, hb, _⟩ := app_row h hB 9 ty (.string ⟨s.toArray⟩) s (byteC_src w s) hz
  exact ⟨_, w', hr, ⟨g', cap', rfl, hrow⟩, hb⟩
/-- onto a row: the line's end -/
theorem app_end {B g cap : Nat} {w : World} {l : List UInt8} (h : ByteRow B w g cap l) (hB : B ≤ w.heap.size) (ty : TypeId) (hz : l.length ≤ 900000) (n : Nat) (hn : n = l.length) (k : Nat) (hk : k = w.heap.size) :
    ∃ v w', (Builtin.append_ #[55, 55] ty #[.slice (some ⟨g, 0, none⟩) n cap, .slice (some ⟨k, 0, none⟩) 1 1]).run Tryz.prog (w.alloc (.cells #[.int .u8 10] 5)) = .ok v w' ∧ ((∃ g' cap', v = .slice (some ⟨g', 0, none⟩) (l ++ [10]).length cap' ∧ ByteRow B w' g' cap' (l ++ [10])) ∧ Below B w w') := by
  subst hn hk
  obtain ⟨g', cap', w', hr, hrow, hb, _⟩ := app_row (h.below (box5 w (.cells #[.int .u8 10] 5))) (by simp; omega) 55 ty (.slice (some ⟨w.heap.size, 0, none⟩) 1 1) [10] (src_byte (heap_alloc_new w _)) (by simp; omega)
  exact ⟨_, w', hr, ⟨g', cap', rfl, hrow⟩, ((box5 w _).mono hB).trans hb⟩
set_option maxHeartbeats 4000000 in
set_option maxRecDepth 100000 in
theorem refPrint_ok {w : World} (t : Int) {ao : Option Addr} {c : List Ins} (cap : Nat) (hc : CodeAt w ao c) (hx : ∀ i ∈ c, i.x < 18446744073709551616) (hck : checkB t c = true) :
    Calls Tryz.prog 19 #[progV t ao c.length cap] w fun e w' => e = .returned (.tuple #[.string ⟨(textP t c).toArray⟩, .int .i64 0]) ∧ Below w.heap.size w w' := by
  obtain ⟨ht, _, hl, hmay⟩ := check_parts.1 hck
  have HCK := Lib.hid (refCheck_any t cap (hc.on (box5 w (.cells #[.int .i64 t, .slice ao c.length cap] 24))) (by omega))
  rw [checkE_yes hck] at HCK
  unfold progV at HCK ⊢
  have HC := Lib.hid hc
  have HLN : Hid (∀ k, k < c.length → ∀ u, Calls Tryz.prog 33 #[insV (ci c k)] u fun e w' => e = .returned (.string ⟨(lineI (ci c k)).toArray⟩) ∧ Below u.heap.size u w') := fun k hk u => refLine_any _ _ u (hmay k hk) (hx _ (ci_mem hk))
  have HHL : Hid (∀ k, k ≤ c.length → (headT t c k).length ≤ 41992) := fun k hk => headT_len hck k hk
  have HX := Lib.hid (heap_alloc_new w (.cells #[.int .i64 t, .slice ao c.length cap] 24))
  clear hc hx hck hmay
  rcases ht with rfl | rfl
  · go_enter Tryz.func19, Tryz.ntmps19
    go_wp2_with (first
      | (go_at_call 13; refine HCK.out.mono ?_; rintro e w2 ⟨rfl, hb⟩; have HB2 := Lib.hid hb; have hp2 := (hb.block w.heap.size (by simp)).trans HX.out; obtain ⟨p0, p1, p2⟩ := cells2_of hp2; have kc := conv_const w2 #[.int .u8 114, .int .u8 101, .int .u8 97, .int .u8 100, .int .u8 115, .int .u8 10] 6 6 w2.heap.size rfl; clear hb hp2))
    have HBA : Hid (Below (w.heap.size + 1) (w.alloc (.cells #[.int .i64 1, .slice ao c.length cap] 24)) (w2.alloc (.cells #[.int .u8 114, .int .u8 101, .int .u8 97, .int .u8 100, .int .u8 115, .int .u8 10] 5 (6, 7)))) := (by
      have hb := HB2.out
      have hz : (w.alloc (.cells #[.int .i64 1, .slice ao c.length cap] 24)).heap.size = w.heap.size + 1 := by simp
      rw [hz] at hb
      exact hb.alloc p2 _)
    have HST : Hid (ByteRow (w.heap.size + 1) (w2.alloc (.cells #[.int .u8 114, .int .u8 101, .int .u8 97, .int .u8 100, .int .u8 115, .int .u8 10] 5 (6, 7))) w2.heap.size 6 (headT 1 c 0)) := row_new w2 (headT 1 c 0) (6, 6 + 1) (by first | exact p2 | (simp; omega))
    generalize (w2.alloc (.cells #[.int .u8 114, .int .u8 101, .int .u8 97, .int .u8 100, .int .u8 115, .int .u8 10] 5 (6, 7))) = w3 at HBA HST ⊢
    clear p0 p1 p2 kc HCK
    go_loopw [4, 20] (fun vb vi wr => ∃ (i g cap' : Nat), vb = .slice (some ⟨g, 0, none⟩) (headT 1 c i).length cap' ∧ vi = .int .i64 i ∧ i ≤ c.length ∧ Hid (ByteRow (w.heap.size + 1) wr g cap' (headT 1 c i)) ∧ Hid (Below (w.heap.size + 1) (w.alloc (.cells #[.int .i64 1, .slice ao c.length cap] 24)) wr)) (fun _ vi _ => c.length - (intOf vi).toNat)
    case atStart => exact ⟨0, w2.heap.size, 6, rfl, rfl, Nat.zero_le _, HST, HBA⟩
    case round =>
      obtain ⟨i, g, cap', rfl, rfl, hi, HR, HB⟩ := hrel
      have HBW := Lib.hid ((box5 w (.cells #[.int .i64 1, .slice ao c.length cap] 24)).trans (HB.out.mono (Nat.le_succ _)))
      have hsz : w.heap.size + 1 ≤ wr.heap.size := by have := HB.out.size; simpa using this
      have hlen := HHL.out i hi
      by_cases hlt : i < c.length
      · have hlt' : (i : Int) < (c.length : Int) := by omega
        obtain ⟨b0, off, hao, hbW, k0, k1, k2⟩ := HC.out i hlt
        subst hao
        rw [← HBW.out.cell (p := ⟨b0, off + i * 3, none⟩) hbW] at k0
        rw [← HBW.out.cell (p := ⟨b0, off + i * 3 + 1, none⟩) hbW] at k1
        rw [← HBW.out.cell (p := ⟨b0, off + i * 3 + 2, none⟩) hbW] at k2
        have hbw : b0 < wr.heap.size := Nat.lt_of_lt_of_le hbW HBW.out.size
        have HSU := Lib.hid (headT_succ (t := 1) hlt)
        have hlen2 := HHL.out (i + 1) (by omega)
        rw [HSU.out, List.length_append, List.length_append] at hlen2
        have HLI := Lib.hid (HLN.out i hlt)
        generalize lineI (ci c i) = li at HSU HLI hlen2
        generalize ci c i = z at k0 k1 k2 HLI
        obtain ⟨zo, zn, zx⟩ := z
        unfold insV at HLI
        simp only at k0 k1 k2 HLI
        obtain ⟨hd, hhd⟩ : ∃ hd, hd = headT 1 c i := ⟨_, rfl⟩
        rw [← hhd] at HR HSU hlen hlen2 ⊢
        clear hbW hhd
        go_wp2_with (first
          | (at_builtin; have hgo := HR5.out; refine wpList_append_ex rfl _ _ _ _ rfl _ _ rfl rfl (app_end HR5.out HZ5.out _ (by rw [List.length_append]; omega) _ (by first | rfl | simp) _ (by rfl)) ?_; rintro v w6 ⟨⟨g6, cap6, rfl, hr6⟩, hb6⟩; have HR6 := Lib.hid hr6; have HB6 := Lib.hid (HB5.out.trans hb6); clear hr6 hb6 hgo)
          | (at_builtin; refine wpList_append_ex rfl _ _ _ _ rfl _ _ rfl rfl (app_text HR4.out HZ4.out _ li (by omega) _ rfl) ?_; rintro v w5 ⟨⟨g5, cap5, rfl, hr5⟩, hb5⟩; have HR5 := Lib.hid hr5; have HB5 := Lib.hid (HB4.out.trans hb5); have HZ5 : Hid (w.heap.size + 1 ≤ w5.heap.size) := Nat.le_trans HZ4.out hb5.size; clear hr5 hb5)
          | (go_at_call 33; refine (HLI.out _).mono ?_; rintro e w4 ⟨rfl, hb4⟩; have hb := chain5 (box5 _ _) hb4; have HR4 := Lib.hid (HR.out.below hb); have HB4 := Lib.hid (HB.out.trans (hb.mono hsz)); have HZ4 : Hid (w.heap.size + 1 ≤ w4.heap.size) := Nat.le_trans hsz hb.size; clear hb hb4))
        refine ⟨⟨i + 1, g6, cap6, ?_, by first | rfl | (congr 1), by omega, ?_, HB6⟩, by simp [intOf]; omega⟩
        · rw [HSU.out]
          simp
        · show ByteRow _ _ _ _ _
          rw [HSU.out]
          exact HR6.out
      · have hlt' : ¬ (i : Int) < (c.length : Int) := by omega
        have htx := row_text HR.out
        have HTX : Hid (textP 1 c = headT 1 c i) := by
          show _ = _
          rw [← headT_all, show i = c.length by omega]
        go_wp2
        go_ret2
        rw [HTX.out]
        exact ⟨rfl, HBW.out⟩
  · go_enter Tryz.func19, Tryz.ntmps19
    go_wp2_with (first
      | (go_at_call 13; refine HCK.out.mono ?_; rintro e w2 ⟨rfl, hb⟩; have HB2 := Lib.hid hb; have hp2 := (hb.block w.heap.size (by simp)).trans HX.out; obtain ⟨p0, p1, p2⟩ := cells2_of hp2; have kc := conv_const w2 #[.int .u8 114, .int .u8 101, .int .u8 97, .int .u8 100, .int .u8 115, .int .u8 10] 6 6 w2.heap.size rfl; have kd := fun X => conv_const (w2.alloc X) #[.int .u8 117, .int .u8 112, .int .u8 100, .int .u8 97, .int .u8 116, .int .u8 101, .int .u8 115, .int .u8 10] 8 8 (w2.heap.size + 1) (by simp); clear hb hp2))
    have HBA : Hid (Below (w.heap.size + 1) (w.alloc (.cells #[.int .i64 2, .slice ao c.length cap] 24)) ((w2.alloc (.cells #[.int .u8 114, .int .u8 101, .int .u8 97, .int .u8 100, .int .u8 115, .int .u8 10] 5 (6, 7))).alloc (.cells #[.int .u8 117, .int .u8 112, .int .u8 100, .int .u8 97, .int .u8 116, .int .u8 101, .int .u8 115, .int .u8 10] 5 (8, 9)))) := (by
      have hb := HB2.out
      have hz : (w.alloc (.cells #[.int .i64 2, .slice ao c.length cap] 24)).heap.size = w.heap.size + 1 := by simp
      rw [hz] at hb
      exact (hb.alloc p2 _).alloc (by simp; omega) _)
    have HST : Hid (ByteRow (w.heap.size + 1) ((w2.alloc (.cells #[.int .u8 114, .int .u8 101, .int .u8 97, .int .u8 100, .int .u8 115, .int .u8 10] 5 (6, 7))).alloc (.cells #[.int .u8 117, .int .u8 112, .int .u8 100, .int .u8 97, .int .u8 116, .int .u8 101, .int .u8 115, .int .u8 10] 5 (8, 9))) (w2.heap.size + 1) 8 (headT 2 c 0)) := row_newer (w2.alloc (.cells #[.int .u8 114, .int .u8 101, .int .u8 97, .int .u8 100, .int .u8 115, .int .u8 10] 5 (6, 7))) (w2.heap.size + 1) (by simp) (headT 2 c 0) (8, 8 + 1) (by first | exact p2 | (simp; omega))
    generalize ((w2.alloc (.cells #[.int .u8 114, .int .u8 101, .int .u8 97, .int .u8 100, .int .u8 115, .int .u8 10] 5 (6, 7))).alloc (.cells #[.int .u8 117, .int .u8 112, .int .u8 100, .int .u8 97, .int .u8 116, .int .u8 101, .int .u8 115, .int .u8 10] 5 (8, 9))) = w3 at HBA HST ⊢
    clear p0 p1 p2 kc kd HCK
    go_loopw [4, 20] (fun vb vi wr => ∃ (i g cap' : Nat), vb = .slice (some ⟨g, 0, none⟩) (headT 2 c i).length cap' ∧ vi = .int .i64 i ∧ i ≤ c.length ∧ Hid (ByteRow (w.heap.size + 1) wr g cap' (headT 2 c i)) ∧ Hid (Below (w.heap.size + 1) (w.alloc (.cells #[.int .i64 2, .slice ao c.length cap] 24)) wr)) (fun _ vi _ => c.length - (intOf vi).toNat)
    case atStart => exact ⟨0, (w2.heap.size + 1), 8, rfl, rfl, Nat.zero_le _, HST, HBA⟩
    case round =>
      obtain ⟨i, g, cap', rfl, rfl, hi, HR, HB⟩ := hrel
      have HBW := Lib.hid ((box5 w (.cells #[.int .i64 2, .slice ao c.length cap] 24)).trans (HB.out.mono (Nat.le_succ _)))
      have hsz : w.heap.size + 1 ≤ wr.heap.size := by have := HB.out.size; simpa using this
      have hlen := HHL.out i hi
      by_cases hlt : i < c.length
      · have hlt' : (i : Int) < (c.length : Int) := by omega
        obtain ⟨b0, off, hao, hbW, k0, k1, k2⟩ := HC.out i hlt
        subst hao
        rw [← HBW.out.cell (p := ⟨b0, off + i * 3, none⟩) hbW] at k0
        rw [← HBW.out.cell (p := ⟨b0, off + i * 3 + 1, none⟩) hbW] at k1
        rw [← HBW.out.cell (p := ⟨b0, off + i * 3 + 2, none⟩) hbW] at k2
        have hbw : b0 < wr.heap.size := Nat.lt_of_lt_of_le hbW HBW.out.size
        have HSU := Lib.hid (headT_succ (t := 2) hlt)
        have hlen2 := HHL.out (i + 1) (by omega)
        rw [HSU.out, List.length_append, List.length_append] at hlen2
        have HLI := Lib.hid (HLN.out i hlt)
        generalize lineI (ci c i) = li at HSU HLI hlen2
        generalize ci c i = z at k0 k1 k2 HLI
        obtain ⟨zo, zn, zx⟩ := z
        unfold insV at HLI
        simp only at k0 k1 k2 HLI
        obtain ⟨hd, hhd⟩ : ∃ hd, hd = headT 2 c i := ⟨_, rfl⟩
        rw [← hhd] at HR HSU hlen hlen2 ⊢
        clear hbW hhd
        go_wp2_with (first
          | (at_builtin; have hgo := HR5.out; refine wpList_append_ex rfl _ _ _ _ rfl _ _ rfl rfl (app_end HR5.out HZ5.out _ (by rw [List.length_append]; omega) _ (by first | rfl | simp) _ (by rfl)) ?_; rintro v w6 ⟨⟨g6, cap6, rfl, hr6⟩, hb6⟩; have HR6 := Lib.hid hr6; have HB6 := Lib.hid (HB5.out.trans hb6); clear hr6 hb6 hgo)
          | (at_builtin; refine wpList_append_ex rfl _ _ _ _ rfl _ _ rfl rfl (app_text HR4.out HZ4.out _ li (by omega) _ rfl) ?_; rintro v w5 ⟨⟨g5, cap5, rfl, hr5⟩, hb5⟩; have HR5 := Lib.hid hr5; have HB5 := Lib.hid (HB4.out.trans hb5); have HZ5 : Hid (w.heap.size + 1 ≤ w5.heap.size) := Nat.le_trans HZ4.out hb5.size; clear hr5 hb5)
          | (go_at_call 33; refine (HLI.out _).mono ?_; rintro e w4 ⟨rfl, hb4⟩; have hb := chain5 (box5 _ _) hb4; have HR4 := Lib.hid (HR.out.below hb); have HB4 := Lib.hid (HB.out.trans (hb.mono hsz)); have HZ4 : Hid (w.heap.size + 1 ≤ w4.heap.size) := Nat.le_trans hsz hb.size; clear hb hb4))
        refine ⟨⟨i + 1, g6, cap6, ?_, by first | rfl | (congr 1), by omega, ?_, HB6⟩, by simp [intOf]; omega⟩
        · rw [HSU.out]
          simp
        · show ByteRow _ _ _ _ _
          rw [HSU.out]
          exact HR6.out
      · have hlt' : ¬ (i : Int) < (c.length : Int) := by omega
        have htx := row_text HR.out
        have HTX : Hid (textP 2 c = headT 2 c i) := by
          show _ = _
          rw [← headT_all, show i = c.length by omega]
        go_wp2
        go_ret2
        rw [HTX.out]
        exact ⟨rfl, HBW.out⟩
end Go.Proofs.YtlnobfmbnnfbdaaGreatDoor
