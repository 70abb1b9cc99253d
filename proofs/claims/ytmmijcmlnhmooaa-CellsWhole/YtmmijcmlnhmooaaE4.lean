import Derived.Deep.WholeRow
import Derived.Test.YtmmijcmlnhmooaaE3
namespace Go.Proofs.Ytmmijcmlnhmooaa
open Go.ChangeShapes Go.WideShapes Go.ChangeAt Go.RowKit Num
attribute [local go_sem] run_store_float run_store_func run_store_nilFunc

section
variable {w : World} {b g q : Nat} {ws : List Int} {o : Bool} {n : Int} {r : Rd}
theorem view_enter (k : Nat) (args : Array Value) (w : World) : (callFunc (viewF k) args).run Try.prog w = .ok (.enter (viewF k) args) w := by
  unfold viewF
  split
  · exact enter_run Try.func57 (by kernel_rfl) (by kernel_rfl) args w
  split
  · exact enter_run Try.func77 (by kernel_rfl) (by kernel_rfl) args w
  split
  · exact enter_run Try.func87 (by kernel_rfl) (by kernel_rfl) args w
  · exact enter_run Try.func78 (by kernel_rfl) (by kernel_rfl) args w
set_option maxRecDepth 100000 in
set_option maxHeartbeats 1000000 in
theorem rstep_over (h : RdAt w q r) (hk : ¬ r.k < 4) : Calls Try.prog 29 #[.pointer (some ⟨q, 0, none⟩), .pointer (some ⟨b, 0, none⟩)] w fun e w' => e = .returned (.tuple #[.bool false, .int .i64 3]) ∧ w' = w := by
  have H1 := Lib.hid (over_any h)
  rw [decide_eq_true (show 4 ≤ r.k by omega)] at H1
  clear h hk
  go_enter Try.func29, Try.ntmps29
  go_wp2_with (go_at_call 58; refine H1.out.mono ?_; rintro e w1 ⟨rfl, hw⟩; subst w1)
  go_ret2
  exact ⟨rfl, rfl⟩
set_option maxRecDepth 100000 in
set_option maxHeartbeats 1000000 in
theorem rstep_err (h : RdAt w q r) (hk : r.k < 4) {E : Int} (hE : ¬ E = 0) {Q : World → Prop} (hf : Calls Try.prog (viewF r.k) #[recvV r, .pointer (some ⟨q, 0, none⟩), .pointer (some ⟨b, 0, none⟩)] w fun e w' => e = .returned (.int .i64 E) ∧ Q w') :
    Calls Try.prog 29 #[.pointer (some ⟨q, 0, none⟩), .pointer (some ⟨b, 0, none⟩)] w fun e w' => e = .returned (.tuple #[.bool false, .int .i64 E]) ∧ Q w' := by
  have H1 := Lib.hid (over_any h)
  rw [decide_eq_false (show ¬ 4 ≤ r.k by omega)] at H1
  have h0 := RbAt.cell0 h
  have hq := RbAt.lt h
  have hcall := view_enter r.k
  unfold nextV at h0
  rw [if_pos hk] at h0
  generalize viewF r.k = ff at h0 hf hcall
  generalize recvV r = fr at h0 hf
  have HF := Lib.hid hf
  clear h hk hf
  go_enter Try.func29, Try.ntmps29
  go_wp2_with (first
    | (go_at_call 58; refine H1.out.mono ?_; rintro e w1 ⟨rfl, hw⟩; subst w1)
    | (refine HF.out.mono ?_; rintro e w' ⟨rfl, hqq⟩; have HQ := Lib.hid hqq; clear hqq))
  go_ret2
  exact ⟨rfl, HQ.out⟩
set_option maxRecDepth 100000 in
set_option maxHeartbeats 1000000 in
theorem rstep_let (h : RdAt w q r) (hk : r.k < 4) {r' : Rd} {Q : World → Prop} (hf : Calls Try.prog (viewF r.k) #[recvV r, .pointer (some ⟨q, 0, none⟩), .pointer (some ⟨b, 0, none⟩)] w fun e w' => e = .returned (.int .i64 0) ∧ Q w' ∧ RdAt w' q r') :
    Calls Try.prog 29 #[.pointer (some ⟨q, 0, none⟩), .pointer (some ⟨b, 0, none⟩)] w fun e w' => e = .returned (.tuple #[.bool (decide (4 ≤ r'.k)), .int .i64 0]) ∧ ∃ w1, Q w1 ∧ RdAt w1 q r' ∧ w' = w1.setCell ⟨q, 4, none⟩ (.int .i64 (up r'.n)) := by
  have H1 := Lib.hid (over_any h)
  rw [decide_eq_false (show ¬ 4 ≤ r.k by omega)] at H1
  have h0 := RbAt.cell0 h
  have hq := RbAt.lt h
  have hcall := view_enter r.k
  unfold nextV at h0
  rw [if_pos hk] at h0
  generalize viewF r.k = ff at h0 hf hcall
  generalize recvV r = fr at h0 hf
  have HF := Lib.hid hf
  have HO := Lib.hid (fun (w1 : World) (h1 : RdAt w1 q r') => over_any (show RdAt (w1.setCell ⟨q, 4, none⟩ (.int .i64 (up r'.n))) q { r' with n := up r'.n } from RbAt.setN h1 _))
  simp only at HO
  generalize hdd : decide (4 ≤ r'.k) = dd at HO ⊢
  clear h hk hf hdd
  unfold up at HO ⊢
  go_enter Try.func29, Try.ntmps29
  go_wp2_with (first
    | (go_at_call 58; refine H1.out.mono ?_; rintro e w1 ⟨rfl, hw⟩; subst w1; clear H1)
    | (go_at_call 58; refine (HO.out _ HQ.out.2).mono ?_; rintro e w1 ⟨rfl, hw⟩; subst w1; clear HO)
    | (refine HF.out.mono ?_; rintro e w2 ⟨rfl, hqq, hr2⟩; have d4 := RbAt.cell4 hr2; have f4 := RbAt.free hr2 4; have l4 := RbAt.lt hr2; have HQ := Lib.hid (And.intro hqq hr2); clear hqq hr2 HF))
  go_ret2
  exact ⟨rfl, w2, HQ.out.1, HQ.out.2, rfl⟩
/-- a step of a read, whatever it is -/
theorem view_let (h : MemAt 90 w b g ws o n) (hr : RdAt w q r) (h1 : q ≠ b) (h2 : q ≠ g) (hk : r.k < 4) (hok : errC ws o r.p r.c (wrd r.k) = 0) : Calls Try.prog (viewF r.k) #[recvV r, .pointer (some ⟨q, 0, none⟩), .pointer (some ⟨b, 0, none⟩)] w fun e w' => e = .returned (.int .i64 0) ∧ (MemAt 90 w' b g ws false (up n) ∧ Ch [b, g, q] w w') ∧ RdAt w' q (nx0 r (wordC ws r.p r.c (wrd r.k))) := by
  have hc : r.k = 0 ∨ r.k = 1 ∨ r.k = 2 ∨ r.k = 3 := by omega
  rcases hc with hc | hc | hc | hc
  · rw [show viewF r.k = 57 by simp [viewF, hc], show wrd r.k = 0 by simp [wrd, hc]]
    refine (lv_ok h hr h1 h2 hc (by rw [hc] at hok; exact hok)).mono fun e w' ⟨k1, k2, k3, k4⟩ => ⟨k1, ⟨k2, k4⟩, k3⟩
  · rw [show viewF r.k = 77 by simp [viewF, hc], show wrd r.k = 1 by simp [wrd, hc]]
    refine (ln_ok h hr h1 h2 hc (by rw [hc] at hok; exact hok)).mono fun e w' ⟨k1, k2, k3, k4⟩ => ⟨k1, ⟨k2, k4⟩, k3⟩
  · rw [show viewF r.k = 87 by simp [viewF, hc], show wrd r.k = 0 by simp [wrd, hc]]
    refine (la_ok h hr h1 h2 hc (by rw [hc] at hok; exact hok)).mono fun e w' ⟨k1, k2, k3, k4⟩ => ⟨k1, ⟨k2, k4⟩, k3⟩
  · rw [show viewF r.k = 78 by simp [viewF, hc], show wrd r.k = 2 by simp [wrd, hc]]
    refine (lw_ok h hr h1 h2 hc (by rw [hc] at hok; exact hok)).mono fun e w' ⟨k1, k2, k3, k4⟩ => ⟨k1, ⟨k2, k4⟩, k3⟩
theorem view_no (h : MemAt 90 w b g ws o n) (hr : RdAt w q r) (h1 : q ≠ b) (h2 : q ≠ g) (hk : r.k < 4) (hok : ¬ errC ws o r.p r.c (wrd r.k) = 0) : Calls Try.prog (viewF r.k) #[recvV r, .pointer (some ⟨q, 0, none⟩), .pointer (some ⟨b, 0, none⟩)] w fun e w' => e = .returned (.int .i64 (errC ws o r.p r.c (wrd r.k))) ∧ MemAt 90 w' b g ws o n ∧ RdAt w' q r ∧ Ch [b, g, q] w w' := by
  have hc : r.k = 0 ∨ r.k = 1 ∨ r.k = 2 ∨ r.k = 3 := by omega
  rcases hc with hc | hc | hc | hc
  · rw [show viewF r.k = 57 by simp [viewF, hc], show wrd r.k = 0 by simp [wrd, hc]]
    exact lv_no h hr h1 h2 (by rw [hc] at hok; exact hok)
  · rw [show viewF r.k = 77 by simp [viewF, hc], show wrd r.k = 1 by simp [wrd, hc]]
    exact ln_no h hr h1 h2 (by rw [hc] at hok; exact hok)
  · rw [show viewF r.k = 87 by simp [viewF, hc], show wrd r.k = 0 by simp [wrd, hc]]
    exact la_no h hr h1 h2 (by rw [hc] at hok; exact hok)
  · rw [show viewF r.k = 78 by simp [viewF, hc], show wrd r.k = 2 by simp [wrd, hc]]
    exact lw_no h hr h1 h2 (by rw [hc] at hok; exact hok)
/-- is it over with this step; what the memory is behind it -/
def endR (r : Rd) (ws : List Int) (o : Bool) : Bool := decide (errR r ws o = 0) && decide (4 ≤ (stepR r ws o).k)
def aftO (e : Int) (o : Bool) : Bool := if e = 0 then false else o
def aftN (e n : Int) : Int := if e = 0 then up n else n
theorem nx0_n (r : Rd) (u : Int) : (nx0 r u).n = r.n := by unfold nx0; split <;> (try split) <;> (try split) <;> (try split) <;> rfl
theorem rstep_any (h : MemAt 90 w b g ws o n) (hr : RdAt w q r) (h1 : q ≠ b) (h2 : q ≠ g) : Calls Try.prog 29 #[.pointer (some ⟨q, 0, none⟩), .pointer (some ⟨b, 0, none⟩)] w fun e w' => e = .returned (.tuple #[.bool (endR r ws o), .int .i64 (errR r ws o)]) ∧ MemAt 90 w' b g ws (aftO (errR r ws o) o) (aftN (errR r ws o) n) ∧ RdAt w' q (stepR r ws o) ∧ Ch [b, g, q] w w' := by
  by_cases hk : r.k < 4
  · have eE : errR r ws o = errC ws o r.p r.c (wrd r.k) := by simp [errR, hk]
    by_cases hok : errC ws o r.p r.c (wrd r.k) = 0
    · refine (rstep_let hr hk (view_let h hr h1 h2 hk hok)).mono fun e w' ⟨he, w1, ⟨hm, hch⟩, hr1, hw⟩ => ?_
      have e1 : errR r ws o = 0 := by rw [eE]; exact hok
      have e2 : stepR r ws o = nxt r (wordC ws r.p r.c (wrd r.k)) := by simp [stepR, e1]
      have e3 : endR r ws o = decide (4 ≤ (nx0 r (wordC ws r.p r.c (wrd r.k))).k) := by simp [endR, e1, e2, nxt]
      rw [e3, e2, e1]
      subst hw
      refine ⟨he, ?_, ?_, hch.set (by simp) _ _⟩
      · exact hm.other (Ne.symm h1) (Ne.symm h2) _ _
      · have := RbAt.setN hr1 (up r.n)
        rw [nx0_n]
        exact this
    · refine (rstep_err hr hk hok (view_no h hr h1 h2 hk hok)).mono fun e w' ⟨he, hm, hr1, hch⟩ => ?_
      have e1 : ¬ errR r ws o = 0 := by rw [eE]; exact hok
      have e2 : stepR r ws o = r := by simp [stepR, e1]
      have e3 : endR r ws o = false := by simp [endR, e1]
      rw [e3, e2, aftO, aftN, if_neg e1, if_neg e1, eE]
      exact ⟨he, hm, hr1, hch⟩
  · refine (rstep_over hr hk).mono fun e w' ⟨he, hw⟩ => ?_
    subst hw
    have e1 : errR r ws o = 3 := by simp [errR, hk]
    have e2 : stepR r ws o = r := by simp [stepR, e1]
    have e3 : endR r ws o = false := by simp [endR, e1]
    rw [e3, e2, e1]
    exact ⟨he, h, hr, Ch.refl _ _⟩
theorem value_any (h : RdAt w q r) : Calls Try.prog 32 #[.pointer (some ⟨q, 0, none⟩)] w fun e w' => e = .returned (.float .f64 r.y) ∧ w' = w := by
  have h0 := RbAt.cell3 h
  have hb := RbAt.lt h
  clear h
  go_enter Try.func32, Try.ntmps32
  go_wp2
  go_ret
  exact ⟨rfl, rfl⟩
theorem steps_any (h : RdAt w q r) : Calls Try.prog 31 #[.pointer (some ⟨q, 0, none⟩)] w fun e w' => e = .returned (.int .i64 r.n) ∧ w' = w := by
  have h0 := RbAt.cell4 h
  have hb := RbAt.lt h
  clear h
  go_enter Try.func31, Try.ntmps31
  go_wp2
  go_ret
  exact ⟨rfl, rfl⟩
theorem torn_any (h : RdAt w q r) : Calls Try.prog 34 #[.pointer (some ⟨q, 0, none⟩)] w fun e w' => e = .returned (.bool r.t) ∧ w' = w := by
  have h0 := RbAt.cell5 h
  have hb := RbAt.lt h
  clear h
  go_enter Try.func34, Try.ntmps34
  go_wp2
  go_ret
  exact ⟨rfl, rfl⟩
end
theorem alloc_at {w : World} {x : Obj} {k : Nat} (hk : w.heap.size = k) : (w.alloc x).heap[k]? = some x := by subst hk; exact heap_alloc_new _ _
/-- a plan, of which cells is looked at -/
def planV (a b c d p f : Int) : Value := .agg #[.int .i64 a, .int .i64 b, .int .i64 c, .int .i64 d, .int .i64 p, .int .i64 f]
def newR (p c s : Int) : Rd := ⟨p, c, s, 0, 0, 0, 0, 0, false⟩
set_option maxRecDepth 100000 in
set_option maxHeartbeats 1000000 in
theorem read_any (w : World) (a1 a2 a3 a4 p a6 c s : Int) : Calls Try.prog 26 #[planV a1 a2 a3 a4 p a6, .int .i64 c, .int .u64 s] w fun e w' => ∃ q, e = .returned (.pointer (some ⟨q, 0, none⟩)) ∧ w.heap.size ≤ q ∧ RdAt w' q (newR p c s) ∧ Below w.heap.size w w' := by
  unfold planV
  go_enter Try.func26, Try.ntmps26
  go_wp2
  go_ret
  refine ⟨_, rfl, by omega, ?_, (((Below.refl _ _).alloc (Nat.le_refl _) _).alloc (by simp) _).alloc (by simp; omega) _⟩
  exact alloc_at (by simp)
theorem rbox_one (r : Rd) : (rboxV r (nextV r)).all (·.oneCell') = true := by
  unfold rboxV nextV
  split <;> simp [Value.oneCell']
theorem readingInfo : (Try.prog.info? 103).map (·.size) = some 6 := by kernel_rfl
set_option maxRecDepth 100000 in
theorem rclone_any {w : World} {q : Nat} {r : Rd} (h : RdAt w q r) : Calls Try.prog 74 #[.pointer (some ⟨q, 0, none⟩)] w fun e w' => ∃ c, e = .returned (.pointer (some ⟨c, 0, none⟩)) ∧ w.heap.size ≤ c ∧ RdAt w' c r ∧ Below w.heap.size w w' := by
  have hb := RdAt.lt h
  have hbox : w.heap[q]? = some (.cells (rboxV r (nextV r)) 103 (0, 0)) := h
  have HB : Hid (∀ o, Below w.heap.size w (w.alloc o)) := fun o => (Below.refl w.heap.size w).alloc (Nat.le_refl _) o
  clear h
  go_enter Try.func74, Try.ntmps74
  go_wp2_with (first
    | (refine wpList_load_row rfl 103 _ rfl q rfl _ (rboxV r (nextV r)) _ _ hbox Try.underlying103 rfl readingInfo ?_)
    | (refine wpList_store_row rfl 103 _ _ rfl w.heap.size (rboxV r (nextV r)) rfl rfl _ _ (heap_alloc_new _ _) readingInfo rfl (rbox_one r) ?_; rw [World.setRow_alloc_new]))
  go_ret
  exact ⟨_, rfl, Nat.le_refl _, heap_alloc_new _ _, HB.out _⟩
end Go.Proofs.Ytmmijcmlnhmooaa
