import Derived.Test.YtmmijcmlnhmooaaWalkB
import Derived.Test.YtmmijcmlnhmooaaM5
import Derived.Test.YtmmijcmlnhmooaaM7
namespace Go.Proofs.Ytmmijcmlnhmooaa
open Go.ChangeShapes Go.WideShapes Go.ChangeAt Go.RowKit Num
attribute [local go_sem] frombits_run bits_run

theorem run_store_float (a : Addr) (m : Mode) (k : FloatKind) (b : Nat) (w : World) : (store a (.float k b) m).run Try.prog w = _root_.Go.stored Try.prog w a (.float k b) m := run_store Try.prog w a _ m rfl
theorem run_store_func (a : Addr) (m : Mode) (f : Fn) (x y : Array Value) (w : World) : (store a (.func f x y) m).run Try.prog w = _root_.Go.stored Try.prog w a (.func f x y) m := run_store Try.prog w a _ m rfl
theorem run_store_nilFunc (a : Addr) (m : Mode) (w : World) : (store a .nilFunc m).run Try.prog w = _root_.Go.stored Try.prog w a .nilFunc m := run_store Try.prog w a _ m rfl
theorem of_int (n : Int) (w : World) : Calls Try.prog 53 #[.int .u64 n] w fun e w' => e = .returned (.float .f64 (fixB n.toNat)) ∧ w' = w := by
  go_enter Try.func53, Try.ntmps53
  go_wp2_with (first | (go_at_call 76; refine (fix_any _ _).mono ?_; rintro e w' ⟨rfl, rfl⟩) | go_in)
  go_ret
  exact ⟨rfl, rfl⟩
theorem refOf_int (n : Int) (w : World) : Calls Try.prog 51 #[.int .u64 n] w fun e w' => e = .returned (.float .f64 (fixB n.toNat)) ∧ w' = w := by
  go_enter Try.func51, Try.ntmps51
  go_wp2_with (first | (go_at_call 33; refine (refFix_any _ _).mono ?_; rintro e w' ⟨rfl, rfl⟩) | go_in)
  go_ret
  exact ⟨rfl, rfl⟩
theorem raw_int (n : Int) (w : World) : Calls Try.prog 24 #[.int .u64 n] w fun e w' => e = .returned (.float .f64 n.toNat) ∧ w' = w := by
  go_enter Try.func24, Try.ntmps24
  go_wp2
  go_ret
  exact ⟨rfl, rfl⟩

/-- of the old blocks those of L alone may have turned -/
structure Ch (L : List Nat) (w w' : World) : Prop where
  os : w'.os = w.os
  tape : w'.tape = w.tape
  output : w'.output = w.output
  size : w.heap.size ≤ w'.heap.size
  block : ∀ k, k < w.heap.size → k ∉ L → w'.heap[k]? = w.heap[k]?
theorem Ch.refl (L : List Nat) (w : World) : Ch L w w := ⟨rfl, rfl, rfl, Nat.le_refl _, fun _ _ _ => rfl⟩
theorem Ch.trans {L : List Nat} {a w c : World} (h : Ch L a w) (k : Ch L w c) : Ch L a c :=
  ⟨k.os.trans h.os, k.tape.trans h.tape, k.output.trans h.output, Nat.le_trans h.size k.size, fun i hi h1 => (k.block i (Nat.lt_of_lt_of_le hi h.size) h1).trans (h.block i hi h1)⟩
theorem Ch.mono {L M : List Nat} {a w : World} (h : Ch L a w) (s : ∀ k, k ∈ L → k ∈ M) : Ch M a w := ⟨h.os, h.tape, h.output, h.size, fun k hk hn => h.block k hk (fun q => hn (s k q))⟩
theorem Ch.alloc {L : List Nat} {a w : World} (h : Ch L a w) (o : Obj) : Ch L a (w.alloc o) := h.trans ⟨rfl, rfl, rfl, by simp, fun k hk _ => Below.heap_alloc _ _ _ hk⟩
theorem Ch.drew {L : List Nat} {a w : World} (h : Ch L a w) : Ch L a w.drew := ⟨h.os, h.tape, h.output, h.size, h.block⟩
theorem Ch.drewN {L : List Nat} {a w : World} (h : Ch L a w) (n : Nat) : Ch L a (w.drewN n) := ⟨h.os, h.tape, h.output, h.size, h.block⟩
theorem Ch.set {L : List Nat} {a w : World} (h : Ch L a w) {b : Nat} (hb : b ∈ L) (j : Nat) (u : Value) : Ch L a (w.setCell ⟨b, j, none⟩ u) :=
  h.trans ⟨rfl, rfl, rfl, by simp, fun k _ h1 => heap_setCell_other _ _ _ _ (fun (e : k = b) => h1 (e ▸ hb))⟩
theorem Chg.ch {b g : Nat} {L : List Nat} {w w' : World} (h : Chg b g w w') (hb : b ∈ L) (hg : g ∈ L) : Ch L w w' :=
  ⟨h.os, h.tape, h.output, h.size, fun k hk hn => h.block k hk (fun e => hn (e ▸ hb)) (fun e => hn (e ▸ hg))⟩
theorem ch_of {w w' : World} (h : Below w.heap.size w w') (L : List Nat) : Ch L w w' := ⟨h.os, h.tape, h.output, h.size, fun k hk _ => h.block k hk⟩
theorem Ch.below {L : List Nat} {B : Nat} {w w' : World} (h : Ch L w w') (hL : ∀ k, k ∈ L → B ≤ k) (hB : B ≤ w.heap.size) : Below B w w' :=
  ⟨h.os, h.tape, h.output, h.size, fun k hk => h.block k (by omega) (fun q => by have := hL k q; omega)⟩
theorem MemAt.ch {T : TypeId} {w w' : World} {b g : Nat} {ws : List Int} {o : Bool} {c : Int} {L : List Nat} (h : MemAt T w b g ws o c) (k : Ch L w w') (h1 : b ∉ L) (h2 : g ∉ L) : MemAt T w' b g ws o c :=
  h.keep (k.block b h.ltB h1) (k.block g h.ltG h2)

/-- may a cell be; where its word is -/
def mayC (c : Int) : Bool := decide (0 ≤ c ∧ c < 256)
def placeI (p c j : Int) : Int := if 0 ≤ p ∧ p ≤ 4096 then p + 3 * c + j else -1
def errC (ws : List Int) (o : Bool) (p c j : Int) : Int := if mayC c then errA ws o (placeI p c j) else 60
def wordC (ws : List Int) (p c j : Int) : Int := wordAt ws (placeI p c j)
theorem mayC_pos {c : Int} (h : mayC c = true) : 0 ≤ c ∧ c < 256 := of_decide_eq_true h
theorem mayC_neg {c : Int} (h : mayC c = false) : ¬ (0 ≤ c ∧ c < 256) := of_decide_eq_false h
theorem smay_any (p c : Int) (w : World) : Calls Try.prog 36 #[.agg #[.int .i64 p, .int .i64 c]] w fun e w' => e = .returned (.bool (mayC c)) ∧ Below w.heap.size w w' := by
  unfold mayC
  by_cases h1 : 0 ≤ c
  · by_cases h2 : c < 256
    · have h1' : ¬ c < 0 := by omega
      go_enter Try.func36, Try.ntmps36
      go_wp2
      go_ret
      exact ⟨by first | (simp; done) | (simp; omega), (Below.refl _ _).alloc (Nat.le_refl _) _⟩
    · go_enter Try.func36, Try.ntmps36
      go_wp2
      go_ret
      exact ⟨by first | (simp; done) | (simp; omega), (Below.refl _ _).alloc (Nat.le_refl _) _⟩
  · go_enter Try.func36, Try.ntmps36
    go_wp2
    go_ret
    exact ⟨by first | (simp; done) | (simp; omega), (Below.refl _ _).alloc (Nat.le_refl _) _⟩
theorem splace_any (p c j : Int) (hc : mayC c = true) (hj : 0 ≤ j ∧ j < 3) (w : World) : Calls Try.prog 38 #[.agg #[.int .i64 p, .int .i64 c], .int .i64 j] w fun e w' => e = .returned (.int .i64 (placeI p c j)) ∧ Below w.heap.size w w' := by
  obtain ⟨hc0, hc1⟩ := mayC_pos hc
  obtain ⟨hj0, hj1⟩ := hj
  clear hc
  by_cases h1 : 0 ≤ p
  · by_cases h2 : p ≤ 4096
    · have e : placeI p c j = p + 3 * c + j := by simp [placeI, h1, h2]
      have e1 : wrap64 (3 * c) = 3 * c := Go.IntWalk.wrap64_in _ ⟨by omega, by omega⟩
      have e2 : wrap64 (p + 3 * c) = p + 3 * c := Go.IntWalk.wrap64_in _ ⟨by omega, by omega⟩
      have e3 : wrap64 (p + 3 * c + j) = p + 3 * c + j := Go.IntWalk.wrap64_in _ ⟨by omega, by omega⟩
      have h1' : ¬ p < 0 := by omega
      have h2' : ¬ 4096 < p := by omega
      rw [e]
      clear e hc0 hc1 hj0 hj1
      go_enter Try.func38, Try.ntmps38
      go_wp2
      go_ret
      exact ⟨rfl, (Below.refl _ _).alloc (Nat.le_refl _) _⟩
    · have e : placeI p c j = -1 := by simp [placeI, h2]
      rw [e]
      clear e hc0 hc1 hj0 hj1
      have h1' : ¬ p < 0 := by omega
      have h2' : 4096 < p := by omega
      go_enter Try.func38, Try.ntmps38
      go_wp2
      go_ret
      exact ⟨rfl, (Below.refl _ _).alloc (Nat.le_refl _) _⟩
  · have e : placeI p c j = -1 := by simp [placeI, h1]
    rw [e]
    clear e hc0 hc1 hj0 hj1
    have h1' : p < 0 := by omega
    go_enter Try.func38, Try.ntmps38
    go_wp2
    go_ret
    exact ⟨rfl, (Below.refl _ _).alloc (Nat.le_refl _) _⟩
theorem MemAt.hop {T : TypeId} {w w' : World} {b g : Nat} {ws : List Int} {o : Bool} {c : Int} (h : MemAt T w b g ws o c) (k : Below w.heap.size w w') : MemAt T w' b g ws o c := h.on k
theorem below_step {a w w' : World} (h : Below a.heap.size a w) (k : Below w.heap.size w w') : Below a.heap.size a w' := h.trans (k.mono h.size)
theorem below_alloc_step {a w' : World} {x : Obj} (k : Below (a.alloc x).heap.size (a.alloc x) w') : Below a.heap.size a w' := below_step ((Below.refl _ _).alloc (Nat.le_refl _) x) k
theorem spot_cells {a w' : World} {x y : Value} {T : TypeId} (k : Below (a.alloc (.cells #[x, y] T)).heap.size (a.alloc (.cells #[x, y] T)) w') : w'.cell? ⟨a.heap.size, 0, none⟩ = some x ∧ w'.cell? ⟨a.heap.size, 1, none⟩ = some y ∧ a.heap.size < w'.heap.size :=
  ⟨(k.cell (p := ⟨a.heap.size, 0, none⟩) (by simp)).trans (by simp), (k.cell (p := ⟨a.heap.size, 1, none⟩) (by simp)).trans (by simp), by have := k.size; simp at this; omega⟩
theorem chg_from {a w w' : World} {b g : Nat} (h : Below a.heap.size a w) (k : Chg b g w w') : Chg b g a w' := (Chg.trans ⟨h.os, h.tape, h.output, h.size, fun i hi _ _ => h.block i hi⟩ k)
section
variable {w : World} {b g : Nat} {ws : List Int} {o : Bool} {n : Int}
/-- a load that is let by -/
theorem cload_ok (h : MemAt 90 w b g ws o n) {p c j : Int} (hj : 0 ≤ j ∧ j < 3) (hok : errC ws o p c j = 0) : Calls Try.prog 61 #[.agg #[.int .i64 p, .int .i64 c], .pointer (some ⟨b, 0, none⟩), .int .i64 j] w fun e w' => e = .returned (.tuple #[.int .u64 (wordC ws p c j), .int .i64 0]) ∧ MemAt 90 w' b g ws false (up n) ∧ Chg b g w w' := by
  cases hm : mayC c
  · simp [errC, hm] at hok
  · have hA : errA ws o (placeI p c j) = 0 := by simpa [errC, hm] using hok
    have hk : hasB ws (placeI p c j) = true ∧ o = true := by
      unfold errA at hA
      cases q : hasB ws (placeI p c j) <;> cases o <;> simp [q] at hA ⊢
    have H1 := Lib.hid (smay_any p c)
    simp only [hm] at H1
    have H2 := Lib.hid (splace_any p c j hm hj)
    have H3 := Lib.hid (fun (w1 : World) (h1 : Below w.heap.size w w1) => load_any (h.hop h1) (placeI p c j))
    have e1 : toldW ws o (placeI p c j) = wordC ws p c j := by simp [toldW, wordC, hk.1, hk.2]
    have e2 : spentO ws o (placeI p c j) = false := by simp [spentO, hk.1]
    have e3 : spentC ws o (placeI p c j) n = up n := by simp [spentC, hk.1, hk.2]
    simp only [hA, e1, e2, e3] at H3
    generalize wordC ws p c j = x at H3 ⊢
    generalize placeI p c j = i at H2 H3
    clear hA hk e1 e2 e3 hok hm h
    go_enter Try.func61, Try.ntmps61
    go_wp2_with (first
      | (go_at_call 36; refine (H1.out _).mono ?_; rintro e w1 ⟨rfl, hw⟩; have HB1 := Lib.hid (below_alloc_step hw); obtain ⟨q0, q1, q2⟩ := spot_cells hw; clear hw)
      | (go_at_call 38; refine (H2.out _).mono ?_; rintro e w2 ⟨rfl, hw⟩; have HB2 := Lib.hid (below_step HB1.out hw); clear hw)
      | (go_at_call 80; refine (H3.out _ HB2.out).mono ?_; rintro e w3 ⟨rfl, hm1, hc1⟩; have HM := Lib.hid (And.intro hm1 (chg_from HB2.out hc1)); clear hm1 hc1))
    go_ret2
    exact ⟨rfl, HM.out.1, HM.out.2⟩
theorem errA_told {i : Int} (h : ¬ errA ws o i = 0) : toldW ws o i = 0 ∧ spentO ws o i = o ∧ spentC ws o i n = n := by
  unfold errA at h
  cases q : hasB ws i <;> cases o <;> simp [q] at h <;> simp [toldW, spentO, spentC, q]
theorem cload_no (h : MemAt 90 w b g ws o n) {p c j : Int} (hj : 0 ≤ j ∧ j < 3) (hok : ¬ errC ws o p c j = 0) : Calls Try.prog 61 #[.agg #[.int .i64 p, .int .i64 c], .pointer (some ⟨b, 0, none⟩), .int .i64 j] w fun e w' => e = .returned (.tuple #[.int .u64 0, .int .i64 (errC ws o p c j)]) ∧ MemAt 90 w' b g ws o n ∧ Chg b g w w' := by
  have H1 := Lib.hid (smay_any p c)
  cases hm : mayC c
  · have e : errC ws o p c j = 60 := by simp [errC, hm]
    rw [e]
    simp only [hm] at H1
    have HM := Lib.hid h
    clear e hok h hm
    go_enter Try.func61, Try.ntmps61
    go_wp2_with (go_at_call 36; refine (H1.out _).mono ?_; rintro e w1 ⟨rfl, hw⟩; have HB := Lib.hid (below_alloc_step hw); clear hw)
    go_ret2
    exact ⟨rfl, HM.out.hop HB.out, chg_from HB.out (Chg.refl _ _ _)⟩
  · have e0 : errC ws o p c j = errA ws o (placeI p c j) := by simp [errC, hm]
    rw [e0] at hok ⊢
    simp only [hm] at H1
    obtain ⟨e1, e2, e3⟩ := errA_told (n := n) hok
    have H2 := Lib.hid (splace_any p c j hm hj)
    have H3 := Lib.hid (fun (w1 : World) (h1 : Below w.heap.size w w1) => load_any (h.hop h1) (placeI p c j))
    simp only [e1, e2, e3] at H3
    generalize errA ws o (placeI p c j) = x at H3 ⊢
    generalize placeI p c j = i at H2 H3
    clear e0 e1 e2 e3 hok hm h
    go_enter Try.func61, Try.ntmps61
    go_wp2_with (first
      | (go_at_call 36; refine (H1.out _).mono ?_; rintro e w1 ⟨rfl, hw⟩; have HB1 := Lib.hid (below_alloc_step hw); obtain ⟨q0, q1, q2⟩ := spot_cells hw; clear hw)
      | (go_at_call 38; refine (H2.out _).mono ?_; rintro e w2 ⟨rfl, hw⟩; have HB2 := Lib.hid (below_step HB1.out hw); clear hw)
      | (go_at_call 80; refine (H3.out _ HB2.out).mono ?_; rintro e w3 ⟨rfl, hm1, hc1⟩; have HM := Lib.hid (And.intro hm1 (chg_from HB2.out hc1)); clear hm1 hc1))
    go_ret2
    exact ⟨rfl, HM.out.1, HM.out.2⟩
/-- the words behind a store -/
def storeC (ws : List Int) (p c j v : Int) : List Int := ws.set (placeI p c j).toNat v
theorem cstore_ok (h : MemAt 90 w b g ws o n) {p c j : Int} (v : Int) (hj : 0 ≤ j ∧ j < 3) (hok : errC ws o p c j = 0) : Calls Try.prog 60 #[.agg #[.int .i64 p, .int .i64 c], .pointer (some ⟨b, 0, none⟩), .int .i64 j, .int .u64 v] w fun e w' => e = .returned (.int .i64 0) ∧ MemAt 90 w' b g (storeC ws p c j v) false (up n) ∧ Chg b g w w' := by
  cases hm : mayC c
  · simp [errC, hm] at hok
  · have hA : errA ws o (placeI p c j) = 0 := by simpa [errC, hm] using hok
    have hk : hasB ws (placeI p c j) = true ∧ o = true := by
      unfold errA at hA
      cases q : hasB ws (placeI p c j) <;> cases o <;> simp [q] at hA ⊢
    have H1 := Lib.hid (smay_any p c)
    simp only [hm] at H1
    have H2 := Lib.hid (splace_any p c j hm hj)
    have H3 := Lib.hid (fun (w1 : World) (h1 : Below w.heap.size w w1) => store_any (h.hop h1) (placeI p c j) v)
    have e1 : Go.Proofs.Ytmmijcmlnhmooaa.stored ws o (placeI p c j) v = storeC ws p c j v := by simp [Go.Proofs.Ytmmijcmlnhmooaa.stored, storeC, hk.1, hk.2]
    have e2 : spentO ws o (placeI p c j) = false := by simp [spentO, hk.1]
    have e3 : spentC ws o (placeI p c j) n = up n := by simp [spentC, hk.1, hk.2]
    simp only [hA, e1, e2, e3] at H3
    generalize storeC ws p c j v = x at H3 ⊢
    generalize placeI p c j = i at H2 H3
    clear hA hk e1 e2 e3 hok hm h
    go_enter Try.func60, Try.ntmps60
    go_wp2_with (first
      | (go_at_call 36; refine (H1.out _).mono ?_; rintro e w1 ⟨rfl, hw⟩; have HB1 := Lib.hid (below_alloc_step hw); obtain ⟨q0, q1, q2⟩ := spot_cells hw; clear hw)
      | (go_at_call 38; refine (H2.out _).mono ?_; rintro e w2 ⟨rfl, hw⟩; have HB2 := Lib.hid (below_step HB1.out hw); clear hw)
      | (go_at_call 79; refine (H3.out _ HB2.out).mono ?_; rintro e w3 ⟨rfl, hm1, hc1⟩; have HM := Lib.hid (And.intro hm1 (chg_from HB2.out hc1)); clear hm1 hc1))
    go_ret
    exact ⟨rfl, HM.out.1, HM.out.2⟩
theorem errA_stored {i v : Int} (h : ¬ errA ws o i = 0) : Go.Proofs.Ytmmijcmlnhmooaa.stored ws o i v = ws := by
  unfold errA at h
  cases q : hasB ws i <;> cases o <;> simp [q] at h <;> simp [Go.Proofs.Ytmmijcmlnhmooaa.stored, q]
theorem cstore_no (h : MemAt 90 w b g ws o n) {p c j : Int} (v : Int) (hj : 0 ≤ j ∧ j < 3) (hok : ¬ errC ws o p c j = 0) : Calls Try.prog 60 #[.agg #[.int .i64 p, .int .i64 c], .pointer (some ⟨b, 0, none⟩), .int .i64 j, .int .u64 v] w fun e w' => e = .returned (.int .i64 (errC ws o p c j)) ∧ MemAt 90 w' b g ws o n ∧ Chg b g w w' := by
  have H1 := Lib.hid (smay_any p c)
  cases hm : mayC c
  · have e : errC ws o p c j = 60 := by simp [errC, hm]
    rw [e]
    simp only [hm] at H1
    have HM := Lib.hid h
    clear e hok h hm
    go_enter Try.func60, Try.ntmps60
    go_wp2_with (go_at_call 36; refine (H1.out _).mono ?_; rintro e w1 ⟨rfl, hw⟩; have HB := Lib.hid (below_alloc_step hw); clear hw)
    go_ret
    exact ⟨rfl, HM.out.hop HB.out, chg_from HB.out (Chg.refl _ _ _)⟩
  · have e0 : errC ws o p c j = errA ws o (placeI p c j) := by simp [errC, hm]
    rw [e0] at hok ⊢
    simp only [hm] at H1
    obtain ⟨_, e2, e3⟩ := errA_told (n := n) hok
    have e1 := errA_stored (v := v) hok
    have H2 := Lib.hid (splace_any p c j hm hj)
    have H3 := Lib.hid (fun (w1 : World) (h1 : Below w.heap.size w w1) => store_any (h.hop h1) (placeI p c j) v)
    simp only [e1, e2, e3] at H3
    generalize errA ws o (placeI p c j) = x at H3 ⊢
    generalize placeI p c j = i at H2 H3
    clear e0 e1 e2 e3 hok hm h
    go_enter Try.func60, Try.ntmps60
    go_wp2_with (first
      | (go_at_call 36; refine (H1.out _).mono ?_; rintro e w1 ⟨rfl, hw⟩; have HB1 := Lib.hid (below_alloc_step hw); obtain ⟨q0, q1, q2⟩ := spot_cells hw; clear hw)
      | (go_at_call 38; refine (H2.out _).mono ?_; rintro e w2 ⟨rfl, hw⟩; have HB2 := Lib.hid (below_step HB1.out hw); clear hw)
      | (go_at_call 79; refine (H3.out _ HB2.out).mono ?_; rintro e w3 ⟨rfl, hm1, hc1⟩; have HM := Lib.hid (And.intro hm1 (chg_from HB2.out hc1)); clear hm1 hc1))
    go_ret
    exact ⟨rfl, HM.out.1, HM.out.2⟩
end
end Go.Proofs.Ytmmijcmlnhmooaa
