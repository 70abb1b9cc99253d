import Derived.Test.YtmmijcmlnhmooaaE7
namespace Go.Proofs.Ytmmijcmlnhmooaa
open Go.ChangeShapes Go.WideShapes Go.ChangeAt Go.RowKit Num
attribute [local go_sem] run_store_float run_store_func run_store_nilFunc

/-- a memory and a read, both new since W -/
structure Duo (W w : World) (bm gm br : Nat) (ws : List Int) (o : Bool) (n : Int) (r : Rd) : Prop where
  below : Below W.heap.size W w
  m : MemAt 90 w bm gm ws o n
  rd : RdAt w br r
  new : W.heap.size ≤ bm ∧ W.heap.size ≤ gm ∧ W.heap.size ≤ br
  ne : br ≠ bm ∧ br ≠ gm
/-- with a write -/
structure Trio (W w : World) (bm gm br bw : Nat) (ws : List Int) (o : Bool) (n : Int) (r : Rd) (t : Wt) : Prop where
  duo : Duo W w bm gm br ws o n r
  wt : WtAt w bw t
  newW : W.heap.size ≤ bw
  neW : bw ≠ bm ∧ bw ≠ gm ∧ bw ≠ br
section
variable {W w w' : World} {bm gm br bw : Nat} {ws : List Int} {o : Bool} {n : Int} {r : Rd} {t : Wt}
theorem Duo.on (h : Duo W w bm gm br ws o n r) (k : Below w.heap.size w w') : Duo W w' bm gm br ws o n r := ⟨below_step h.below k, h.m.on k, h.rd.on k, h.new, h.ne⟩
theorem Trio.on (h : Trio W w bm gm br bw ws o n r t) (k : Below w.heap.size w w') : Trio W w' bm gm br bw ws o n r t := ⟨h.duo.on k, h.wt.on k, h.newW, h.neW⟩
theorem Duo.mem {ws' : List Int} {o' : Bool} {n' : Int} (h : Duo W w bm gm br ws o n r) (m : MemAt 90 w' bm gm ws' o' n') (k : Chg bm gm w w') : Duo W w' bm gm br ws' o' n' r :=
  ⟨h.below.trans (k.below h.new.1 h.new.2.1 h.below.size), m, h.rd.ch (k.ch (L := [bm, gm]) (by simp) (by simp)) (by simp; exact h.ne), h.new, h.ne⟩
theorem Trio.mem {ws' : List Int} {o' : Bool} {n' : Int} (h : Trio W w bm gm br bw ws o n r t) (m : MemAt 90 w' bm gm ws' o' n') (k : Chg bm gm w w') : Trio W w' bm gm br bw ws' o' n' r t :=
  ⟨h.duo.mem m k, h.wt.ch (k.ch (L := [bm, gm]) (by simp) (by simp)) (by simp; exact ⟨h.neW.1, h.neW.2.1⟩), h.newW, h.neW⟩
theorem Duo.stepR (h : Duo W w bm gm br ws o n r) : Calls Try.prog 29 #[.pointer (some ⟨br, 0, none⟩), .pointer (some ⟨bm, 0, none⟩)] w fun e w' => e = .returned (.tuple #[.bool (endR r ws o), .int .i64 (errR r ws o)]) ∧ Duo W w' bm gm br ws (aftO (errR r ws o) o) (aftN (errR r ws o) n) (stepR r ws o) :=
  (rstep_any h.m h.rd h.ne.1 h.ne.2).mono fun e w' ⟨he, hm, hr, hc⟩ => ⟨he, h.below.trans (hc.below (by simp; exact h.new) h.below.size), hm, hr, h.new, h.ne⟩
theorem Trio.stepR (h : Trio W w bm gm br bw ws o n r t) : Calls Try.prog 29 #[.pointer (some ⟨br, 0, none⟩), .pointer (some ⟨bm, 0, none⟩)] w fun e w' => e = .returned (.tuple #[.bool (endR r ws o), .int .i64 (errR r ws o)]) ∧ Trio W w' bm gm br bw ws (aftO (errR r ws o) o) (aftN (errR r ws o) n) (stepR r ws o) t :=
  (rstep_any h.duo.m h.duo.rd h.duo.ne.1 h.duo.ne.2).mono fun e w' ⟨he, hm, hr, hc⟩ => ⟨he, ⟨h.duo.below.trans (hc.below (by simp; exact h.duo.new) h.duo.below.size), hm, hr, h.duo.new, h.duo.ne⟩, h.wt.ch hc (by simp; exact h.neW), h.newW, h.neW⟩
theorem Trio.stepW (h : Trio W w bm gm br bw ws o n r t) : Calls Try.prog 30 #[.pointer (some ⟨bw, 0, none⟩), .pointer (some ⟨bm, 0, none⟩)] w fun e w' => e = .returned (.tuple #[.bool (endW t ws o), .int .i64 (errW t ws o)]) ∧ Trio W w' bm gm br bw (laidW t ws o) (aftO (errW t ws o) o) (aftN (errW t ws o) n) r (stepW t ws o) :=
  (wstep_any h.duo.m h.wt h.neW.1 h.neW.2.1).mono fun e w' ⟨he, hm, hr, hc⟩ => ⟨he, ⟨h.duo.below.trans (hc.below (by simp; exact ⟨h.duo.new.1, h.duo.new.2.1, h.newW⟩) h.duo.below.size), hm, h.duo.rd.ch hc (by simp; exact ⟨h.duo.ne.1, h.duo.ne.2, Ne.symm h.neW.2.2⟩), h.duo.new, h.duo.ne⟩, hr, h.newW, h.neW⟩
theorem Trio.opened (h : Trio W w bm gm br bw ws o n r t) : Calls Try.prog 28 #[.pointer (some ⟨bm, 0, none⟩)] w fun e w' => e = .returned (.tuple #[]) ∧ Trio W w' bm gm br bw ws true n r t :=
  (open_any h.duo.m).mono fun _ _ ⟨he, hm, hc⟩ => ⟨he, h.mem hm hc⟩
theorem Duo.opened (h : Duo W w bm gm br ws o n r) : Calls Try.prog 28 #[.pointer (some ⟨bm, 0, none⟩)] w fun e w' => e = .returned (.tuple #[]) ∧ Duo W w' bm gm br ws true n r :=
  (open_any h.m).mono fun _ _ ⟨he, hm, hc⟩ => ⟨he, h.mem hm hc⟩
/-- a read begins beside a memory -/
theorem duo_new {w1 w2 : World} {q : Nat} (hb : Below W.heap.size W w1) (hm : MemAt 90 w1 bm gm ws o n) (h1 : W.heap.size ≤ bm) (h2 : W.heap.size ≤ gm) (hq : w1.heap.size ≤ q) (hr : RdAt w2 q r) (k : Below w1.heap.size w1 w2) : Duo W w2 bm gm q ws o n r :=
  ⟨below_step hb k, hm.on k, hr, ⟨h1, h2, Nat.le_trans hb.size hq⟩, ⟨fun e => by have := hm.ltB; omega, fun e => by have := hm.ltG; omega⟩⟩
theorem trio_new {w2 : World} {q : Nat} (h : Duo W w bm gm br ws o n r) (hq : w.heap.size ≤ q) (ht : WtAt w2 q t) (k : Below w.heap.size w w2) : Trio W w2 bm gm br q ws o n r t :=
  ⟨h.on k, ht, Nat.le_trans h.below.size hq, ⟨fun e => by have := h.m.ltB; omega, fun e => by have := h.m.ltG; omega, fun e => by have := h.rd.lt; omega⟩⟩
theorem trio_new' {w1 w2 : World} {q : Nat} (hb : Below W.heap.size W w1) (hm : MemAt 90 w1 bm gm ws o n) (ht : WtAt w1 bw t) (h1 : W.heap.size ≤ bm) (h2 : W.heap.size ≤ gm) (h3 : W.heap.size ≤ bw) (h4 : bw ≠ bm) (h5 : bw ≠ gm) (hq : w1.heap.size ≤ q) (hr : RdAt w2 q r) (k : Below w1.heap.size w1 w2) : Trio W w2 bm gm q bw ws o n r t :=
  ⟨duo_new hb hm h1 h2 hq hr k, ht.on k, h3, ⟨h4, h5, fun e => by have := ht.lt; omega⟩⟩
end
theorem fresh_any (n : Nat) (h1 : 1 ≤ n) (h2 : n ≤ 4096) (w : World) : Calls Try.prog 10 #[.int .i64 n] w fun e w' => e = .returned (.pointer (some ⟨w.heap.size + 1, 0, none⟩)) ∧ MemAt 90 w' (w.heap.size + 1) w.heap.size (List.replicate n 0) false 0 ∧ Below w.heap.size w w' := by
  have HN := Lib.hid (new_some n h1 h2 w)
  clear h1 h2
  go_enter Try.func10, Try.ntmps10
  go_wp2_with (go_at_call 12; refine HN.out.mono ?_; rintro e w1 ⟨rfl, hm, hb⟩; have HX := Lib.hid (And.intro hm hb); clear hm hb)
  go_ret
  exact ⟨rfl, HX.out⟩
theorem fresh3_any (w : World) : Calls Try.prog 10 #[.int .i64 3] w fun e w' => ∃ b g, e = .returned (.pointer (some ⟨b, 0, none⟩)) ∧ (w.heap.size ≤ b ∧ w.heap.size ≤ g) ∧ MemAt 90 w' b g [0, 0, 0] false 0 ∧ Below w.heap.size w w' := (fresh_any 3 (by omega) (by omega) w).mono fun _ _ ⟨h1, h2, h3⟩ => ⟨_, _, h1, ⟨by omega, by omega⟩, h2, h3⟩
theorem fresh9_any (w : World) : Calls Try.prog 10 #[.int .i64 9] w fun e w' => ∃ b g, e = .returned (.pointer (some ⟨b, 0, none⟩)) ∧ (w.heap.size ≤ b ∧ w.heap.size ≤ g) ∧ MemAt 90 w' b g [0, 0, 0, 0, 0, 0, 0, 0, 0] false 0 ∧ Below w.heap.size w w' := (fresh_any 9 (by omega) (by omega) w).mono fun _ _ ⟨h1, h2, h3⟩ => ⟨_, _, h1, ⟨by omega, by omega⟩, h2, h3⟩
theorem new3_any (w : World) : Calls Try.prog 12 #[.int .i64 3] w fun e w' => ∃ b g, e = .returned (.tuple #[.pointer (some ⟨b, 0, none⟩), .int .i64 0]) ∧ (w.heap.size ≤ b ∧ w.heap.size ≤ g) ∧ MemAt 90 w' b g [0, 0, 0] false 0 ∧ Below w.heap.size w w' := (new_some 3 (by omega) (by omega) w).mono fun _ _ ⟨h1, h2, h3⟩ => ⟨_, _, h1, ⟨by omega, by omega⟩, h2, h3⟩
set_option maxHeartbeats 1000000 in
set_option maxRecDepth 100000 in
theorem numbers_any (W : World) : Calls Try.prog 3 #[] W fun e w' => e = .returned (.bool true) ∧ Below W.heap.size W w' := by
  have HF := Lib.hid fresh3_any
  have HP1 := Lib.hid (fun (w : World) (b g : Nat) (o : Bool) (n : Int) (h : MemAt 90 w b g [0, 0, 0] o n) => cpeek_any h 0 0 0 0 0 0 256)
  have HP2 := Lib.hid (fun (w : World) (b g : Nat) (o : Bool) (n : Int) (h : MemAt 90 w b g [0, 0, 0] o n) => cpeek_any h 0 0 0 0 0 0 1)
  rw [show peekE [0, 0, 0] 0 256 = 60 by decide +kernel, show peekW [0, 0, 0] 0 256 0 = 0 by decide +kernel, show peekW [0, 0, 0] 0 256 1 = 0 by decide +kernel, show peekW [0, 0, 0] 0 256 2 = 0 by decide +kernel] at HP1
  rw [show peekE [0, 0, 0] 0 1 = 30 by decide +kernel, show peekW [0, 0, 0] 0 1 0 = 0 by decide +kernel, show peekW [0, 0, 0] 0 1 1 = 0 by decide +kernel, show peekW [0, 0, 0] 0 1 2 = 0 by decide +kernel] at HP2
  unfold planV tripV at HP1 HP2
  go_enter Try.func3, Try.ntmps3
  go_wp2_with (first
    | (go_at_call 9; refine (HP2.out _ _ _ _ _ HM2.out.1).mono ?_; rintro e w4 ⟨rfl, hb⟩; have HB4 := Lib.hid (below_step HM2.out.2 hb); clear hb HM2)
    | (go_at_call 10; refine (HF.out _).mono ?_; rintro e w3 ⟨b2, g2, rfl, _, hm, hb⟩; have HM2 := Lib.hid (And.intro hm (below_step (bl_alloc HB2.out _) hb)); clear hm hb HB2)
    | (go_at_call 9; refine (HP1.out _ _ _ _ _ HM1.out.1).mono ?_; rintro e w2 ⟨rfl, hb⟩; have HB2 := Lib.hid (below_step HM1.out.2 hb); clear hb HM1)
    | (go_at_call 10; refine (HF.out _).mono ?_; rintro e w1 ⟨b1, g1, rfl, _, hm, hb⟩; have HM1 := Lib.hid (And.intro hm hb); clear hm hb))
  go_ret
  exact ⟨rfl, bl_alloc HB4.out _⟩
end Go.Proofs.Ytmmijcmlnhmooaa
