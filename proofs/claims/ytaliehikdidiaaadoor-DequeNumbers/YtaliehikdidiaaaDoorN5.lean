/- stage 19 (asm): what Program asks: the marks, the places -/
import Derived.Test.YtaliehikdidiaaaDoorN4
namespace Go.Proofs.YtaliehikdidiaaaDoor.As
open Go.ChangeShapes Go.WideShapes Go.ChangeAt Go.RowKit Num Go.Maps
attribute [local go_sem] run_store_float frombits_run bits_run

theorem enter_run {f : FuncId} {fn : Func} (hf : Tryd.prog.funcs[f]? = some fn) (hname : (fn.name == "runtime.NumGoroutine") = false) (hb : fn.body.isSome = true) (args : Array Value) (w : World) : (callFunc f args).run Tryd.prog w = .ok (.enter f args) w := by
  obtain ⟨c, hb⟩ := Option.isSome_iff_exists.1 hb
  have h1 : fn.name ≠ "runtime.NumGoroutine" := by simpa using hname
  simp [callFunc, hf, h1, hb, mark]
section
variable {w w' u w3 : World} {b : Nat} {s : Bs} {v : Bv} {F : List Nat}
theorem has_any {many : Nat} (h2 : w.cell? ⟨b, 2, none⟩ = some (.int .i64 many)) (l : Int) : Calls Tryd.prog 56 #[.pointer (some ⟨b, 0, none⟩), .int .i64 l] w fun e w' => e = .returned (.bool (inB many l)) ∧ w' = w := by
  unfold inB
  by_cases h0 : 0 ≤ l
  · by_cases h1 : l < many
    · go_enter Tryd.func56, Tryd.ntmps56
      go_wp2
      go_ret
      exact ⟨by simp [h1, h0], rfl⟩
    · go_enter Tryd.func56, Tryd.ntmps56
      go_wp2
      go_ret
      exact ⟨by simp [h1], rfl⟩
  · go_enter Tryd.func56, Tryd.ntmps56
    go_wp2
    go_ret
    exact ⟨by simp; omega, rfl⟩
/-- the map as it is read, with the numbers that the walk asks -/
theorem okM_no {many : Nat} {r : Mk} {l : Int} (h : hasM r l = true) (hi : inB many l = false) : okM many r = false := by
  cases q : okM many r
  · rfl
  · have := ((okM_iff many r).1 q).1 l h
    rw [hi] at this
    cases this
theorem okM_tw {many : Nat} {r : Mk} (h : ∀ l, hasM r l = true → inB many l = true) : okM many r = !twB r := by
  cases q : twB r
  · exact (okM_iff many r).2 ⟨h, q⟩
  · cases k : okM many r
    · rfl
    · have := ((okM_iff many r).1 k).2
      rw [q] at this
      cases this
set_option maxRecDepth 100000 in
theorem marks_any (h : Bld w b F s) (hwf : ∀ l, hasM s.marks l = true → Wf l) : Calls Tryd.prog 51 #[.pointer (some ⟨b, 0, none⟩)] w fun e w' => e = .returned (.bool (okM s.many s.marks)) ∧ Below w.heap.size w w' := by
  obtain ⟨v, h, rfl⟩ := h
  obtain ⟨hb, _, _, h2, h3, h4, _, _⟩ := h.cells
  obtain ⟨n, D, hown, hn, hD⟩ := h.map
  have hbm := hown.lt
  have HD := Lib.hid hD
  have HWF := Lib.hid hwf
  clear h hD hn hwf
  go_enter Tryd.func51, Tryd.ntmps51
  go_wp2_with (at_range; refine wpList_range_own _ rfl _ 57 rfl 3 3 keyI Tryd.underlying57 _ v.bm n _ rfl hown ?_; intro w0 hrg0 hg0 hs0)
  go_frame
  have hb0 : Below w.heap.size w w0 := ⟨hg0.os, hg0.tape, hg0.output, hg0.size, fun k hk => hg0.block k hk (by simp)⟩
  go_loopw [3] (fun _ wr => ∃ (left : Lit → Bool) (cnt : Nat), wr.ranges Tryd.prog 3 iEl v.bm w.heap.size n D left cnt ∧ Hid ((∀ kl, left kl = true → Maps.has D kl = true) ∧ (∀ l, Wf l → hasM s.marks l = true → left (.int .i64 l) = false → inB s.many l = true) ∧ Below w.heap.size w wr))
    (fun _ wr => wr.rangeLeft v.bm w.heap.size)
  case atStart =>
    exact ⟨_, _, hrg0, Lib.hid (And.intro (fun _ q => q) (And.intro (fun l hw q z => by rw [(HD.out l hw).1, q] at z; cases z) hb0))⟩
  case round =>
    obtain ⟨left, cnt, hrg, HX⟩ := hrel
    have c2 : wr.cell? ⟨b, 2, none⟩ = some (.int .i64 (s.many : Nat)) := (HX.out.2.2.cell (p := ⟨b, 2, none⟩) hb).trans h2
    have c4 : wr.cell? ⟨b, 4, none⟩ = some (.bool (twB s.marks)) := (HX.out.2.2.cell (p := ⟨b, 4, none⟩) hb).trans h4
    have hbr : b < wr.heap.size := Nat.lt_of_lt_of_le hb HX.out.2.2.size
    clear h2 h3 h4 hown hrg0 hg0 hs0 hb0
    go_wp2_with (at_next; refine wpList_next_ranges _ rfl _ rfl 3 keyI iEl (Value.int .i64) (Value.int .i64) (fun key kl hk => by obtain ⟨x, rfl, _⟩ := Maps.keyOf_int_inv Tryd.underlying3 hk; exact ⟨x, rfl⟩) (fun y z hz => by obtain ⟨x, rfl, _⟩ := iEl_is hz; exact ⟨x, rfl⟩) v.bm w.heap.size n _ _ _ rfl hrg ?_ ?_)
    · intro hc0 hl0
      have HE : Hid (okM s.many s.marks = !twB s.marks) := okM_tw fun l q => HX.out.2.1 l (HWF.out l q) q (hl0 _)
      clear hc0 hl0
      go_wp2
      go_ret
      exact ⟨by rw [HE.out]; rfl, HX.out.2.2⟩
    · intro x c kl y0 y w1 cnt1 hkey hlk hv hat hrg1 hlt hg1 hs1 hen
      obtain ⟨x', ex, rfl, hwx⟩ := Maps.keyOf_int_inv Tryd.underlying3 hkey
      cases ex
      have HN1 : Hid (Below w.heap.size w w1) := ⟨hg1.os.trans HX.out.2.2.os, hg1.tape.trans HX.out.2.2.tape, hg1.output.trans HX.out.2.2.output, Nat.le_trans HX.out.2.2.size hg1.size, fun k hk => (hg1.block k (Nat.lt_of_lt_of_le hk HX.out.2.2.size) (by simp; omega)).trans (HX.out.2.2.block k hk)⟩
      have c2' : w1.cell? ⟨b, 2, none⟩ = some (.int .i64 (s.many : Nat)) := by
        rw [← c2]
        exact World.cell?_of_block (hg1.block b hbr (by simp; omega))
      have HM : Hid (hasM s.marks x = true) := by
        show hasM s.marks x = true
        rw [← (HD.out x hwx).1]
        exact HX.out.1 _ hlk
      have HH := Lib.hid (has_any c2' x)
      have HHL : Hid (∀ l, Wf l → hasM s.marks l = true → (left (.int .i64 l) && !(Lit.int .i64 l).sameKey (.int .i64 x)) = false → inB s.many x = true → inB s.many l = true) := fun l q1 q2 q3 q4 => by
        rw [Bool.and_eq_false_iff] at q3
        rcases q3 with q3 | q3
        · exact HX.out.2.1 l q1 q2 q3
        · have := WideAt.sameKey_eq (by simpa using q3)
          injection this with _ e
          rw [e]
          exact q4
      have hmeas := hrg.left_eq
      clear hkey hlk hv hat c2 c4 hbr hg1 hs1 HD hrg
      cases hin : inB s.many x
      · have HE := Lib.hid (okM_no HM.out hin)
        rw [hin] at HH
        clear hin HHL
        go_wp2_with (go_at_call 56; refine HH.out.mono ?_; rintro e w2 ⟨rfl, hw⟩; subst w2)
        go_ret
        exact ⟨by rw [HE.out]; rfl, HN1.out⟩
      · rw [hin] at HH
        have HIN := Lib.hid hin
        clear hin
        go_wp2_with (go_at_call 56; refine HH.out.mono ?_; rintro e w2 ⟨rfl, hw⟩; subst w2)
        go_roundw
        case rel => exact ⟨_, cnt1, hrg1, Lib.hid (And.intro (fun kl q => HX.out.1 kl (by simp at q; exact q.1)) (And.intro (fun l q1 q2 q3 => HHL.out l q1 q2 q3 HIN.out) HN1.out))⟩
        case measure => rw [hrg1.left_eq, hmeas]; exact hlt
end
end Go.Proofs.YtaliehikdidiaaaDoor.As
