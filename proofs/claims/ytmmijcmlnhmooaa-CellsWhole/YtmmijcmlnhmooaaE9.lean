import Derived.Test.YtmmijcmlnhmooaaE8
namespace Go.Proofs.Ytmmijcmlnhmooaa
open Go.ChangeShapes Go.WideShapes Go.ChangeAt Go.RowKit Num
attribute [local go_sem] run_store_float run_store_func run_store_nilFunc

def B5 : Nat := 4617315517961601024
def B7 : Nat := 4619567317775286272
/-- the words of the example behind k steps of the write -/
def lws (k : Nat) : List Int := if k = 0 then [0, B5, 0] else if k = 1 then [0, B5, B5] else if k = 2 then [1, B5, B5] else [1, B7, B5]
def lwt (k : Nat) : Wt := ⟨0, 0, B5, 1, B7, k⟩
theorem lt_w (k : Nat) (h : k < 3) : errW (lwt k) (lws k) true = 0 ∧ endW (lwt k) (lws k) true = decide (k = 2) ∧ laidW (lwt k) (lws k) true = lws (k + 1) ∧ stepW (lwt k) (lws k) true = lwt (k + 1) := by
  have : k = 0 ∨ k = 1 ∨ k = 2 := by omega
  rcases this with rfl | rfl | rfl
  · exact ⟨by decide +kernel, by decide +kernel, by decide +kernel, rfl⟩
  · exact ⟨by decide +kernel, by decide +kernel, by decide +kernel, rfl⟩
  · exact ⟨by decide +kernel, by decide +kernel, by decide +kernel, rfl⟩
def lr0 : Rd := newR 0 0 0
def lr1 : Rd := ⟨0, 0, 0, 3, 1, 0, 0, 1, false⟩
def lr2 : Rd := ⟨0, 0, 0, 4, 1, 0, B5, 2, false⟩
theorem lt_r0 : errR lr0 (lws 3) true = 0 ∧ endR lr0 (lws 3) true = false := ⟨by decide +kernel, by decide +kernel⟩
theorem lt_r1 : errR lr1 (lws 3) true = 0 ∧ endR lr1 (lws 3) true = true := ⟨by decide +kernel, by decide +kernel⟩
theorem st_r0 : stepR lr0 (lws 3) true = lr1 := by kernel_rfl
theorem st_r1 : stepR lr1 (lws 3) true = lr2 := by kernel_rfl
theorem lt_s : startE [0, 0, 0] 0 [B5] = 0 ∧ startW [0, 0, 0] 0 [B5] = lws 0 := ⟨by decide +kernel, by decide +kernel⟩
theorem lt_n : errC (lws 0) true 0 0 1 = 0 ∧ nowV (lws 0) true 0 0 = B5 := ⟨by decide +kernel, by decide +kernel⟩
theorem lt_p : peekE (lws 3) 0 0 = 0 ∧ peekW (lws 3) 0 0 0 = 1 := ⟨by decide +kernel, by decide +kernel⟩
theorem lt_w0 : newW 0 0 1 B5 B7 = lwt 0 := rfl
theorem cmp5 : (FloatKind.f64.format.order 4617315517961601024 4617315517961601024 == some .eq) = true := by decide +kernel
theorem fl_one (w : World) (x : Nat) (T : TypeId) (L : List Nat) (hL : ∀ k, k ∈ L → k < w.heap.size) : FlAt (w.alloc (.cells #[.float .f64 x] T)) L (some ⟨w.heap.size, 0, none⟩) [x] := fun i hi => by
  obtain rfl : i = 0 := by simpa using hi
  exact ⟨w.heap.size, 0, rfl, by simp, fun q => Nat.lt_irrefl _ (hL _ q), by simp⟩
set_option maxHeartbeats 2000000 in
set_option maxRecDepth 100000 in
theorem live_any (W : World) : Calls Try.prog 11 #[] W fun e w' => e = .returned (.bool true) ∧ Below W.heap.size W w' := by
  have HN := Lib.hid (new3_any W)
  have HST : Hid (∀ (w : World) (b g : Nat), MemAt 90 w b g [0, 0, 0] false 0 → ∀ T, Calls Try.prog 23 #[.pointer (some ⟨b, 0, none⟩), planV 0 0 0 0 0 0, .slice (some ⟨w.heap.size, 0, none⟩) 1 1] (w.alloc (.cells #[.float .f64 4617315517961601024] T)) fun e w' => e = .returned (.int .i64 0) ∧ MemAt 90 w' b g (lws 0) false 0 ∧ Chg b g w w') := fun w b g h T => by
    have := start_any (cap := 1) (h.alloc (.cells #[.float .f64 4617315517961601024] T)) (fl_one w 4617315517961601024 T [b, g] (by simp; exact ⟨h.ltB, h.ltG⟩)) 0 0 0 0 0 0
    rw [show startE [0, 0, 0] 0 [4617315517961601024] = 0 from lt_s.1, show startW [0, 0, 0] 0 [4617315517961601024] = lws 0 from lt_s.2] at this
    exact this.mono fun _ _ ⟨h1, h2, h3⟩ => ⟨h1, h2, ((Chg.refl _ _ _).alloc _).trans h3⟩
  have HNOW : Hid (∀ (w : World) (b g : Nat) (n : Int), MemAt 90 w b g (lws 0) true n → Calls Try.prog 39 #[.pointer (some ⟨b, 0, none⟩), planV 0 0 0 0 0 0, .int .i64 0] w fun e w' => e = .returned (.tuple #[.float .f64 4617315517961601024, .int .i64 0]) ∧ MemAt 90 w' b g (lws 0) false (up n) ∧ Chg b g w w') := fun w b g n h => by
    have := cnow_any h 0 0 0 0 0 0 0
    rw [lt_n.1, lt_n.2] at this
    exact this
  have HWR := Lib.hid (fun w => write_any w 0 0 0 0 0 0 0 1 4617315517961601024 4619567317775286272)
  have HRD := Lib.hid (fun w => read_any w 0 0 0 0 0 0 0 0)
  have HSW : Hid (∀ (w : World) (bm gm br bw : Nat) (n : Int) (k : Nat), k < 3 → Trio W w bm gm br bw (lws k) true n lr0 (lwt k) → Calls Try.prog 30 #[.pointer (some ⟨bw, 0, none⟩), .pointer (some ⟨bm, 0, none⟩)] w fun e w' => e = .returned (.tuple #[.bool (decide (k = 2)), .int .i64 0]) ∧ Trio W w' bm gm br bw (lws (k + 1)) false (up n) lr0 (lwt (k + 1))) := fun w bm gm br bw n k hk h => by
    obtain ⟨e1, e2, e3, e4⟩ := lt_w k hk
    have := h.stepW
    rw [e1, e2, e3, e4] at this
    exact this
  have HR0 : Hid (∀ (w : World) (bm gm br bw : Nat) (n : Int), Trio W w bm gm br bw (lws 3) true n lr0 (lwt 3) → Calls Try.prog 29 #[.pointer (some ⟨br, 0, none⟩), .pointer (some ⟨bm, 0, none⟩)] w fun e w' => e = .returned (.tuple #[.bool false, .int .i64 0]) ∧ Trio W w' bm gm br bw (lws 3) false (up n) lr1 (lwt 3)) := fun w bm gm br bw n h => by
    have := h.stepR
    rw [lt_r0.1, lt_r0.2, st_r0] at this
    exact this
  have HR1 : Hid (∀ (w : World) (bm gm br bw : Nat) (n : Int), Trio W w bm gm br bw (lws 3) true n lr1 (lwt 3) → Calls Try.prog 29 #[.pointer (some ⟨br, 0, none⟩), .pointer (some ⟨bm, 0, none⟩)] w fun e w' => e = .returned (.tuple #[.bool true, .int .i64 0]) ∧ Trio W w' bm gm br bw (lws 3) false (up n) lr2 (lwt 3)) := fun w bm gm br bw n h => by
    have := h.stepR
    rw [lt_r1.1, lt_r1.2, st_r1] at this
    exact this
  have HPK : Hid (∀ (w : World) (b g : Nat) (o : Bool) (n : Int), MemAt 90 w b g (lws 3) o n → Calls Try.prog 9 #[.pointer (some ⟨b, 0, none⟩), planV 0 0 0 0 0 0, .int .i64 0] w fun e w' => ∃ x y, e = .returned (.tuple #[.agg #[.int .u64 1, .int .u64 x, .int .u64 y], .int .i64 0]) ∧ Below w.heap.size w w') := fun w b g o n h => by
    have := cpeek_any h 0 0 0 0 0 0 0
    rw [lt_p.1, lt_p.2] at this
    exact this.mono fun _ _ ⟨h1, h2⟩ => ⟨_, _, h1, h2⟩
  have HV : Hid (∀ (w : World) (q : Nat), RdAt w q lr2 → Calls Try.prog 32 #[.pointer (some ⟨q, 0, none⟩)] w fun e w' => e = .returned (.float .f64 4617315517961601024) ∧ w' = w) := fun w q h => value_any h
  have hcmp := cmp5
  unfold planV at HST HNOW HWR HRD HPK
  go_enter Try.func11, Try.ntmps11
  go_wp2_with (first
    | (go_at_call 12; refine HN.out.mono ?_; rintro e w1 ⟨bm, gm, rfl, hn, hm, hb⟩; have HM1 := Lib.hid (And.intro hm (And.intro hb hn)); clear hm hb hn HN)
    | (go_at_call 23; refine (HST.out _ _ _ HM1.out.1 _).mono ?_; rintro e w2 ⟨rfl, hm, hc⟩; have HM2 := Lib.hid (And.intro hm (And.intro (HM1.out.2.1.trans (hc.below HM1.out.2.2.1 HM1.out.2.2.2 HM1.out.2.1.size)) HM1.out.2.2)); clear hm hc HM1 HST)
    | (go_at_call 28; refine (open_any HM2.out.1).mono ?_; rintro e w3 ⟨rfl, hm, hc⟩; have HM3 := Lib.hid (And.intro hm (And.intro (HM2.out.2.1.trans (hc.below HM2.out.2.2.1 HM2.out.2.2.2 HM2.out.2.1.size)) HM2.out.2.2)); clear hm hc HM2)
    | (go_at_call 39; refine (HNOW.out _ _ _ _ HM3.out.1).mono ?_; rintro e w4 ⟨rfl, hm, hc⟩; have HM4 := Lib.hid (And.intro hm (And.intro (HM3.out.2.1.trans (hc.below HM3.out.2.2.1 HM3.out.2.2.2 HM3.out.2.1.size)) HM3.out.2.2)); clear hm hc HM3 HNOW)
    | (go_at_call 27; refine (HWR.out _).mono ?_; rintro e w5 ⟨bw, rfl, hq, hw, hb⟩; have HM5 : Hid ((MemAt 90 w5 bm gm (lws 0) false (up 0) ∧ WtAt w5 bw (lwt 0)) ∧ Below W.heap.size W w5 ∧ (W.heap.size ≤ bm ∧ W.heap.size ≤ gm) ∧ W.heap.size ≤ bw ∧ bw ≠ bm ∧ bw ≠ gm) := ⟨⟨HM4.out.1.on hb, hw⟩, below_step HM4.out.2.1 hb, HM4.out.2.2, Nat.le_trans HM4.out.2.1.size hq, fun e => by have := HM4.out.1.ltB; omega, fun e => by have := HM4.out.1.ltG; omega⟩; clear hq hw hb HM4 HWR)
    | (go_at_call 26; refine (HRD.out _).mono ?_; rintro e w6 ⟨br, rfl, hq, hr, hb⟩; have HT := Lib.hid (trio_new' HM5.out.2.1 HM5.out.1.1 HM5.out.1.2 HM5.out.2.2.1.1 HM5.out.2.2.1.2 HM5.out.2.2.2.1 HM5.out.2.2.2.2.1 HM5.out.2.2.2.2.2 hq hr hb); clear hq hr hb HM5 HRD))
  have HSW0 := Lib.hid (fun w n (h : Trio W w bm gm br bw (lws 0) true n lr0 (lwt 0)) => HSW.out w bm gm br bw n 0 (by omega) h)
  have HSW1 := Lib.hid (fun w n (h : Trio W w bm gm br bw (lws 1) true n lr0 (lwt 1)) => HSW.out w bm gm br bw n 1 (by omega) h)
  have HSW2 := Lib.hid (fun w n (h : Trio W w bm gm br bw (lws 2) true n lr0 (lwt 2)) => HSW.out w bm gm br bw n 2 (by omega) h)
  simp at HSW0 HSW1 HSW2
  clear HSW
  go_loopw [8, 9] (fun vn vi wr => ∃ k : Nat, vi = .int .i64 k ∧ vn = .int .i64 k ∧ k ≤ 3 ∧ Hid (∃ o n, Trio W wr bm gm br bw (lws k) o n lr0 (lwt k))) (fun _ vi _ => 3 - (intOf vi).toNat)
  case atStart => exact ⟨0, rfl, rfl, by omega, _, _, HT.out⟩
  case round =>
    clear HT
    obtain ⟨k, rfl, rfl, hk, HR⟩ := hrel
    obtain ⟨o, n, hr⟩ := HR.out
    have HT := Lib.hid hr
    clear hr HR
    by_cases hlt : k < 3
    · have hc : k = 0 ∨ k = 1 ∨ k = 2 := by omega
      rcases hc with rfl | rfl | rfl
      · clear hk hlt HSW1 HSW2 HR0 HR1 HPK HV
        go_wp2_with (first
          | (go_at_call 28; refine HT.out.opened.mono ?_; rintro e w7 ⟨rfl, h⟩; have HT7 := Lib.hid h; clear h HT)
          | (go_at_call 30; refine (HSW0.out _ _ HT7.out).mono ?_; rintro e w8 ⟨rfl, h⟩; have HT8 := Lib.hid h; clear h HT7))
        exact ⟨⟨1, rfl, rfl, by omega, _, _, HT8.out⟩, by simp [intOf]⟩
      · clear hk hlt HSW0 HSW2 HR0 HR1 HPK HV
        go_wp2_with (first
          | (go_at_call 28; refine HT.out.opened.mono ?_; rintro e w7 ⟨rfl, h⟩; have HT7 := Lib.hid h; clear h HT)
          | (go_at_call 30; refine (HSW1.out _ _ HT7.out).mono ?_; rintro e w8 ⟨rfl, h⟩; have HT8 := Lib.hid h; clear h HT7))
        exact ⟨⟨2, rfl, rfl, by omega, _, _, HT8.out⟩, by simp [intOf]⟩
      · clear hk hlt HSW0 HSW1 HR0 HR1 HPK HV
        go_wp2_with (first
          | (go_at_call 28; refine HT.out.opened.mono ?_; rintro e w7 ⟨rfl, h⟩; have HT7 := Lib.hid h; clear h HT)
          | (go_at_call 30; refine (HSW2.out _ _ HT7.out).mono ?_; rintro e w8 ⟨rfl, h⟩; have HT8 := Lib.hid h; clear h HT7))
        exact ⟨⟨3, rfl, rfl, by omega, _, _, HT8.out⟩, by simp [intOf]⟩
    · obtain rfl : k = 3 := by omega
      clear hk hlt HSW0 HSW1 HSW2
      go_wp2_with (first
        | (go_at_call 28; refine HT.out.opened.mono ?_; rintro e w7 ⟨rfl, h⟩; have HT7 := Lib.hid h; clear h HT)
        | (go_at_call 29; refine (HR0.out _ _ _ _ _ _ HT7.out).mono ?_; rintro e w8 ⟨rfl, h⟩; have HT8 := Lib.hid h; clear h HT7)
        | (go_at_call 28; refine HT8.out.opened.mono ?_; rintro e w9 ⟨rfl, h⟩; have HT9 := Lib.hid h; clear h HT8)
        | (go_at_call 29; refine (HR1.out _ _ _ _ _ _ HT9.out).mono ?_; rintro e w10 ⟨rfl, h⟩; have HTA := Lib.hid h; clear h HT9)
        | (go_at_call 9; refine (HPK.out _ _ _ _ _ HTA.out.duo.m).mono ?_; rintro e w11 ⟨x, y, rfl, hb⟩; have HTB := Lib.hid (HTA.out.on (bl_alloc hb (.cells #[.int .u64 1, .int .u64 x, .int .u64 y] 24))); have HTB' := Lib.hid (HTA.out.on hb); clear hb HTA)
        | (go_at_call 32; refine (HV.out _ _ HTB.out.duo.rd).mono ?_; rintro e w12 ⟨rfl, hw⟩; subst w12))
      go_ret
      exact ⟨rfl, HTB.out.duo.below⟩
end Go.Proofs.Ytmmijcmlnhmooaa
