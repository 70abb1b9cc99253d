import Derived.Test.YtpimfhkigbcniaaW2
namespace Go.Proofs.Ytpimfhkigbcniaa.Bo
open Go.ChangeShapes Go.WideShapes Go.ChangeAt Go.RowKit Go.Shelf Md En
attribute [local go_sem] Oper.semAt_some

/-- cells but the boxes of R lie as they lay -/
structure KC (R : Nat → Prop) (W W' : World) : Prop where
  size : W.heap.size ≤ W'.heap.size
  cells : ∀ k o, ¬ R k → W.heap[k]? = some o → o.isCells = true → W'.heap[k]? = some o
theorem KC.refl (R : Nat → Prop) (W : World) : KC R W W := ⟨Nat.le_refl _, fun _ _ _ h _ => h⟩
theorem KC.trans {R : Nat → Prop} {A B C : World} (h : KC R A B) (k : KC R B C) : KC R A C := ⟨Nat.le_trans h.size k.size, fun i o r e c => k.cells i o r (h.cells i o r e c) c⟩
theorem KC.put {R : Nat → Prop} (W : World) (l : Nat) (o o' : Obj) (h : W.heap[l]? = some o) (hc : o.isCells = false) : KC R W (W.putObj l o') :=
  ⟨by simp, fun k q _ e c => by
    by_cases hk : k = l
    · subst hk; rw [h] at e; cases e; rw [hc] at c; cases c
    · rw [World.putObj_heap_other (fun e' => hk (by rw [e']))]; exact e⟩
theorem KC.alloc {R : Nat → Prop} {W W' : World} (h : KC R W W') (o : Obj) : KC R W (W'.alloc o) :=
  ⟨by have := h.size; simp; omega, fun k q r e c => by
    have q1 := h.cells k q r e c
    exact (Below.heap_alloc _ _ _ (Array.getElem?_eq_some_iff.1 q1).1).trans q1⟩
theorem KC.set {R : Nat → Prop} {W W' : World} (h : KC R W W') {g : Nat} (hg : R g) (i : Nat) (v : Value) : KC R W (W'.setCell ⟨g, i, none⟩ v) :=
  ⟨by have := h.size; simpa using this, fun k q r e c => by
    have q1 := h.cells k q r e c
    have hk : k ≠ g := fun e => r (e ▸ hg)
    simp only [World.setCell]
    rw [Array.getElem?_modify, if_neg (fun e => hk e.symm)]
    exact q1⟩
theorem KC.cell {R : Nat → Prop} {W W' : World} (h : KC R W W') {a : Addr} (r : ¬ R a.block) {v : Value} (e : W.cell? a = some v) : W'.cell? a = some v := by
  obtain ⟨o, ho, hc⟩ := cells_of_cell e
  have h2 := h.cells _ o r ho hc
  rw [← e]
  unfold World.cell?
  rw [ho, h2]
theorem KC.of_below {R : Nat → Prop} {W W' : World} (h : Below W.heap.size W W') : KC R W W' := ⟨h.size, fun k _ _ e _ => (h.block k (Array.getElem?_eq_some_iff.1 e).1).trans e⟩
theorem DnsAt.kc {B : Nat} {R : Nat → Prop} {w w' : World} {b off : Nat} {ds : List Dn} (h : DnsAt B w b off ds) (hb : KC R w w') (hr : ∀ x, R x → B ≤ x) : DnsAt B w' b off ds :=
  ⟨h.1, fun k d hk => by
    obtain ⟨cs, h1, h2⟩ := h.2 k d hk
    refine ⟨cs, fun j hj => ?_, h2⟩
    have hs : j < cs.size := by rw [h2.size]; exact hj
    rw [Array.getElem?_eq_getElem hs]
    exact hb.cell (a := ⟨b, _, none⟩) (fun r => by have h3 := hr _ r; have h4 := h.1; exact absurd h3 (by show ¬ B ≤ b; omega)) ((h1 j hj).trans (Array.getElem?_eq_getElem hs))⟩
theorem abides_alloc {β : Type} {B : Nat} {J : β → World → Prop} (h : AbidesFrom B J) {s : β} {W : World} (hs : J s W) (o : Obj) : J s (W.alloc o) :=
  h s W _ none hs (World.grownBy_alloc W o none) (fun r e => by cases e)
theorem cell_new1 (W : World) (v : Value) (t : TypeId) : (W.alloc (.cells #[v] t)).cell? ⟨W.heap.size, 0, none⟩ = some v ∧ (W.alloc (.cells #[v] t)).frozen? ⟨W.heap.size, 0, none⟩ = false :=
  ⟨by rw [cell_of_row _ _ 0 _ _ _ (heap_alloc_new W _)]; rfl, by rw [World.frozen?, show (W.alloc (.cells #[v] t)).heap[W.heap.size]? = _ from heap_alloc_new W _]; rfl⟩
theorem cell_al {W : World} {a : Addr} {v : Value} (o : Obj) (h : W.cell? a = some v) : (W.alloc o).cell? a = some v := cell_kept h (World.grownBy_alloc W o none) (fun _ e => by cases e)
theorem frozen_al {W : World} {a : Addr} {v : Value} (o : Obj) (h : W.cell? a = some v) (hf : W.frozen? a = false) : (W.alloc o).frozen? a = false := (frozen_kept h (World.grownBy_alloc W o none) (fun _ e => by cases e)).trans hf
theorem cnL_snoc {ds : List Dn} {k : Nat} {d : Dn} (h : ds[k]? = some d) : cnL (ds.take (k + 1)) = cnL (ds.take k) ++ cn4 d := by
  unfold cnL
  rw [List.take_add_one, h]
  simp
theorem cnL_len (ds : List Dn) : (cnL ds).length = 4 * ds.length := by
  unfold cnL
  induction ds with
  | nil => rfl
  | cons d ds ih => simp only [List.flatMap_cons, List.length_append, ih, List.length_cons]; simp [cn4]; omega
theorem cnL_pre {ds : List Dn} {k : Nat} {d : Dn} (h : ds[k]? = some d) (q r : List Int) (e : cn4 d = q ++ r) : cnL (ds.take k) ++ q <+: cnL ds := by
  have h1 := cnL_snoc h
  have h2 : cnL ds = cnL (ds.take (k + 1)) ++ cnL (ds.drop (k + 1)) := by
    unfold cnL
    rw [← List.flatMap_append, List.take_append_drop]
  rw [h2, h1, e]
  exact ⟨r ++ cnL (ds.drop (k + 1)), by simp⟩
set_option maxRecDepth 100000 in
set_option maxHeartbeats 4000000 in
theorem counts1_in (n : Nat) (hn : 1 ≤ n) (l Bs B b off len cap : Nat) (ds : List Dn) (hlen : len = ds.length) (hmx : len ≤ 9223372036854775807) (R : Nat → Prop) (J Jx : List Int → World → Prop) (B0 : Nat) (hJ : AbidesFrom B0 J)
    (hY : ∀ pre x W, J pre W → pre.length < 4 * ds.length → YieldAt Fence.wide (n - 1) Try.prog l #[.int .i64 x] W fun e W' =>
      (e = .returned (.bool true) ∧ J (pre ++ [x]) W' ∧ KC R W W') ∨ (e = .returned (.bool false) ∧ Jx (pre ++ [x]) W'))
    (W : World) (hr : ∀ x, R x → B ≤ x ∧ x < W.heap.size) (hBs : W.cell? ⟨Bs, 0, none⟩ = some (.slice (some ⟨b, off, none⟩) len cap)) (hD : DnsAt B W b off ds) (h0 : J [] W) :
    CallsIn Fence.wide n Try.prog 23 #[.func (.yield l) #[] #[], .pointer (some ⟨Bs, 0, none⟩)] W fun e W' => (∃ v, e = .returned v) ∧
      ((∃ ys, ys = cnL ds ∧ J ys W') ∨ (∃ pre, pre <+: cnL ds ∧ Jx pre W')) := by
  refine callsIn_of_wp Try.func23 rfl trivial ?_ rfl
  simp only [Try.ntmps23, List.size_toArray, List.length_cons, List.length_nil, Nat.reduceAdd, Nat.reduceSub, Array.replicate_succ, Array.replicate_zero, List.push_toArray, List.append_toArray, List.nil_append, List.cons_append]
  gi_wp2
  gi_loopw [7] (fun i wr => ∃ k : Nat, k ≤ len ∧ i = .int .i64 k ∧ J (cnL (ds.take k)) wr ∧ KC R W wr)
    (fun i _ => len - (intOf i).toNat)
  case atStart => exact ⟨0, Nat.zero_le _, rfl, h0, KC.refl _ _⟩
  case round =>
    obtain ⟨k, hk, rfl, hJs, hnx⟩ := hrel
    by_cases hlt : k < len
    · have hd : ds[k]? = some ds[k] := List.getElem?_eq_getElem (by omega)
      obtain ⟨cs, hc, hcd⟩ := (hD.kc hnx (fun x h => (hr x h).1)).2 k _ hd
      have hpl : (cnL (ds.take k)).length = 4 * k := by rw [cnL_len, List.length_take]; omega
      obtain ⟨dk, hdk⟩ : ∃ dk, ds[k] = dk := ⟨_, rfl⟩
      rw [hdk] at hd hcd
      have J1 := abides_alloc hJ hJs (.cells cs 38)
      obtain ⟨f1, t1, as1, bd1, hy1, hR1⟩ := hY _ dk.steps _ J1 (by omega)
      have nr : ¬ R wr.heap.size := fun h => by have h1 := (hr _ h).2; have h2 := hnx.size; omega
      have HC := Lib.hid hc
      have HD := Lib.hid hcd
      have b1 := box_cells hcd (heap_alloc_new wr (.cells cs 38))
      obtain ⟨q3, q5, q15, q16, q17, q18⟩ := b1
      clear hc hcd q3 q5
      gi_wp2_with (first
        | (refine wpListIn_load_at rfl 38 _ rfl b (off + k * 19) rfl cs _ (fun j hj => HC.out j (by rw [HD.out.size] at hj; exact hj)) Try.underlying38 rfl (by rw [HD.out.size]; exact deedInfo) ?_)
        | (refine wpListIn_store_at rfl 38 _ _ rfl wr.heap.size cs rfl rfl _ _ (heap_alloc_new _ _) (by rw [HD.out.size]; exact deedInfo) (by rw [HD.out.size]; rfl) HD.out.one ?_; rw [World.setRow_alloc_new]))
      refine hR1.mono ?_
      rintro e W1 (⟨rfl, J2, k1⟩ | ⟨rfl, x1⟩)
      rotate_left
      · gi_wp2
        repeat (refine ⟨fun _ h => (by cases h), ?_⟩; gi_wp2)
        refine bodyPost_ret (results_none rfl _ _ _) rfl ?_
        exact ⟨⟨_, rfl⟩, .inr ⟨_, cnL_pre hd [dk.steps] _ rfl, x1⟩⟩
      have q16 := k1.cell (a := ⟨wr.heap.size, 16, none⟩) nr q16
      have q17 := k1.cell (a := ⟨wr.heap.size, 17, none⟩) nr q17
      have q18 := k1.cell (a := ⟨wr.heap.size, 18, none⟩) nr q18
      obtain ⟨f2, t2, as2, bd2, hy2, hR2⟩ := hY _ dk.ahead _ J2 (by simp only [List.length_append, List.length_cons, List.length_nil]; omega)
      clear hy1 hR1
      gi_wp2
      refine hR2.mono ?_
      rintro e W2 (⟨rfl, J3, k2⟩ | ⟨rfl, x2⟩)
      rotate_left
      · gi_wp2
        repeat (refine ⟨fun _ h => (by cases h), ?_⟩; gi_wp2)
        refine bodyPost_ret (results_none rfl _ _ _) rfl ?_
        exact ⟨⟨_, rfl⟩, .inr ⟨_, by simpa using cnL_pre hd [dk.steps, dk.ahead] _ rfl, x2⟩⟩
      have q17 := k2.cell (a := ⟨wr.heap.size, 17, none⟩) nr q17
      have q18 := k2.cell (a := ⟨wr.heap.size, 18, none⟩) nr q18
      obtain ⟨f3, t3, as3, bd3, hy3, hR3⟩ := hY _ dk.frm _ J3 (by simp only [List.length_append, List.length_cons, List.length_nil]; omega)
      clear hy2 hR2
      gi_wp2
      refine hR3.mono ?_
      rintro e W3 (⟨rfl, J4, k3⟩ | ⟨rfl, x3⟩)
      rotate_left
      · gi_wp2
        repeat (refine ⟨fun _ h => (by cases h), ?_⟩; gi_wp2)
        refine bodyPost_ret (results_none rfl _ _ _) rfl ?_
        exact ⟨⟨_, rfl⟩, .inr ⟨_, by simpa using cnL_pre hd [dk.steps, dk.ahead, dk.frm] _ rfl, x3⟩⟩
      have q18 := k3.cell (a := ⟨wr.heap.size, 18, none⟩) nr q18
      obtain ⟨f4, t4, as4, bd4, hy4, hR4⟩ := hY _ dk.til _ J4 (by simp only [List.length_append, List.length_cons, List.length_nil]; omega)
      clear hy3 hR3
      gi_wp2
      refine hR4.mono ?_
      rintro e W4 (⟨rfl, J5, k4⟩ | ⟨rfl, x4⟩)
      rotate_left
      · gi_wp2
        refine bodyPost_ret (results_none rfl _ _ _) rfl ?_
        exact ⟨⟨_, rfl⟩, .inr ⟨_, by simpa using cnL_pre hd [dk.steps, dk.ahead, dk.frm, dk.til] [] rfl, x4⟩⟩
      clear hy4 hR4
      gi_wp2
      go_roundw
      case rel => exact ⟨k + 1, by omega, by simp, by rw [cnL_snoc hd]; simpa [cn4] using J5, ((((hnx.alloc _).trans k1).trans k2).trans k3).trans k4⟩
      case measure => simp [intOf]; omega
    · obtain rfl : k = len := by omega
      gi_wp2
      go_end0
      refine ⟨⟨_, rfl⟩, .inl ⟨_, ?_, hJs⟩⟩
      rw [hlen, List.take_length]
set_option maxRecDepth 100000 in
set_option maxHeartbeats 1000000 in
theorem counts1_nil (n l Bs cap : Nat) (p : Option Addr) (J : List Int → World → Prop) (W : World) (hBs : W.cell? ⟨Bs, 0, none⟩ = some (.slice p 0 cap)) (h0 : J [] W) :
    CallsIn Fence.wide n Try.prog 23 #[.func (.yield l) #[] #[], .pointer (some ⟨Bs, 0, none⟩)] W fun e W' => (∃ v, e = .returned v) ∧ J [] W' := by
  refine callsIn_of_wp Try.func23 rfl trivial ?_ rfl
  simp only [Try.ntmps23, List.size_toArray, List.length_cons, List.length_nil, Nat.reduceAdd, Nat.reduceSub, Array.replicate_succ, Array.replicate_zero, List.push_toArray, List.append_toArray, List.nil_append, List.cons_append]
  gi_wp2
  gi_loopw [7] (fun i wr => i = .int .i64 0 ∧ J [] wr) (fun _ _ => 0)
  case atStart => exact ⟨rfl, h0⟩
  case round =>
    obtain ⟨rfl, hJs⟩ := hrel
    gi_wp2
    go_end0
    exact ⟨⟨_, rfl⟩, hJs⟩
set_option maxHeartbeats 1000000 in
theorem counts_any (p : Option Addr) (len cap : Nat) (w : World) : Calls Try.prog 19 #[.slice p len cap] w fun e w' => e = .returned (.func (.func 23) #[] #[.pointer (some ⟨w.heap.size, 0, none⟩)]) ∧ w' = w.alloc (.cells #[.slice p len cap] 30) := by
  go_enter Try.func19, Try.ntmps19
  go_wp2
  go_ret
  exact ⟨rfl, rfl⟩
/-- counts tells all numbers that count, or the first of them -/
theorem counts_stops (n : Nat) (hn : 1 ≤ n) (R : Nat → Prop) (Bs B : Nat) (v : Value) (ds : List Dn) (hmx : ds.length ≤ 9223372036854775807) (w : World) (hlt : Bs < w.heap.size) (hB : B ≤ w.heap.size) (hBs : w.cell? ⟨Bs, 0, none⟩ = some v) (hD : DnL B w v ds) (hr : ∀ x, R x → B ≤ x ∧ x < w.heap.size) :
    SeqStopsK Fence.wide n Try.prog 23 #[.pointer (some ⟨Bs, 0, none⟩)] (fun x : Int => #[Value.int .i64 x]) (KC R) (fun ys => ys = cnL ds) (fun pre => pre <+: cnL ds) (4 * ds.length) w := fun l J Jx W hW hJ _ hY h0 => by
  have hc' := (hW.cell (p := ⟨Bs, 0, none⟩) hlt).trans hBs
  rcases hD.below (hW.mono hB) with ⟨rfl, p, c, rfl⟩ | ⟨b, off, c, rfl, hd⟩
  · exact (counts1_nil n l Bs c p J W hc' h0).mono fun e W' ⟨he, hj⟩ => ⟨he, .inl ⟨_, rfl, hj⟩⟩
  · exact counts1_in n hn l Bs B b off ds.length c ds rfl hmx R J Jx _ hJ hY W (fun x h => ⟨(hr x h).1, Nat.lt_of_lt_of_le (hr x h).2 hW.size⟩) hc' hd h0
def inD (x : Int) : Bool := decide (0 ≤ x) && decide (x ≤ 1099511627776)
def allD (l : List Int) : Bool := l.all inD
theorem allD_no {l : List Int} {x : Int} (h : inD x = false) : allD (l ++ [x]) = false := by simp [allD, h]
theorem allD_yes {l : List Int} {x : Int} (h : inD x = true) (hl : allD l = true) : allD (l ++ [x]) = true := by
  unfold allD at *
  rw [List.all_append, hl]
  simp [h]
theorem allD_pre {l m : List Int} (h : l <+: m) (hl : allD l = false) : allD m = false := by
  obtain ⟨q, hq⟩ := h
  unfold allD at *
  rw [← hq, List.all_append, hl]
  rfl
theorem inD_lo {x : Int} (h : x < 0) : inD x = false := by simp [inD]; omega
theorem inD_hi {x : Int} (h : 1099511627776 < x) : inD x = false := by simp [inD]; omega
theorem inD_ok {x : Int} (h1 : 0 ≤ x) (h2 : x ≤ 1099511627776) : inD x = true := by simp [inD]; omega
set_option maxRecDepth 100000 in
set_option maxHeartbeats 4000000 in
/-- bounds.mayBe -/
theorem may18_any (p : Option Addr) (len cap : Nat) (ds : List Dn) (hmx : ds.length ≤ 9223372036854775807) (w : World) (hD : DnL w.heap.size w (.slice p len cap) ds) :
    Calls Try.prog 15 #[.slice p len cap] w fun e w' => e = .returned (.bool (allD (cnL ds))) ∧ Below w.heap.size w w' := by
  refine (callsIn_wide (n := 3)).1 (callsIn_of_wp_marks Try.func15 rfl trivial ?_ rfl)
  simp only [Try.ntmps15, List.size_toArray, List.length_cons, List.length_nil, Nat.reduceAdd, Nat.reduceSub, Array.replicate_succ, Array.replicate_zero, List.push_toArray, List.append_toArray, List.nil_append, List.cons_append]
  gi_wp2_with (refine ⟨trivial, ?_⟩; gi_at_call 19; refine (callsIn_wide.2 (counts_any _ _ _ _)).mono ?_; rintro e w' ⟨rfl, rfl⟩)
  have c0 := cell_new1 w (.bool false) 4
  have c1 := cell_new1 (w.alloc (.cells #[.bool false] 4)) (.slice p len cap) 30
  rw [World.size_alloc] at c1
  have hB0 : Below w.heap.size w ((w.alloc (.cells #[.bool false] 4)).alloc (.cells #[.slice p len cap] 30)) := ((Below.refl _ w).alloc (Nat.le_refl _) _).alloc (by simp) _
  refine wpIn_rangeFunc_ownF rfl (by omega) (gf := 23) (lb := #[.pointer (some ⟨w.heap.size + 1, 0, none⟩)]) rfl trivial (enters_of Try.func23 (by kernel_rfl) rfl)
    (counts_stops _ (by omega) (fun x => x = w.heap.size) (w.heap.size + 1) w.heap.size (.slice p len cap) ds hmx _ (by simp) (by simp; omega) c1.1 (hD.below hB0) (fun x h => by subst h; exact ⟨Nat.le_refl _, by simp; omega⟩)) KC.trans (fun W l o o' _ h hc _ => KC.put W l o o' h hc) (Below.refl _ _) (fun _ => rfl)
    (fun pre W => (allD pre = true ∧ W.cell? ⟨w.heap.size, 0, none⟩ = some (.bool false) ∧ W.frozen? ⟨w.heap.size, 0, none⟩ = false) ∧ Below w.heap.size w W)
    (fun c pre W => (c = .ret ∧ allD pre = false ∧ W.cell? ⟨w.heap.size, 0, none⟩ = some (.bool false)) ∧ Below w.heap.size w W)
    (OwnFrom.and (Own.from (fun s A B row hs hg hr => ⟨hs.1, cell_kept hs.2.1 hg hr, (frozen_kept hs.2.1 hg hr).trans hs.2.2⟩) _) (ownFrom_below (Nat.le_refl _) (by simp; omega)))
    (fun c => OwnFrom.and (Own.from (fun s A B row hs hg hr => ⟨hs.1, hs.2.1, cell_kept hs.2.2 hg hr⟩) _) (ownFrom_below (Nat.le_refl _) (by simp; omega)))
    ⟨⟨rfl, cell_al _ c0.1, frozen_al _ c0.1 c0.2⟩, hB0⟩
    (fun x => { tmps := #[.slice p len cap, undef, .pointer (some ⟨w.heap.size, 0, none⟩), .int .i64 x, .slice p len cap, .func (.func 23) #[] #[.pointer (some ⟨w.heap.size + 1, 0, none⟩)], .int .i64 x, undef, undef, undef, undef, undef, undef], defers := [] }) ?assign ?body ?done ?stop
  case assign =>
    intro l x W K hK
    gi_wp2
    exact hK
  case body =>
    rintro l pre x W ⟨⟨hp, hcr, hfr⟩, hB⟩ _
    by_cases h1 : x < 0
    · gi_wp2
      exact ⟨KeepsOthers.setCell _ _ _, ⟨rfl, allD_no (inD_lo h1), World.cell?_setCell_same' _ _ _ (by rw [hcr]; rfl)⟩, hB.setCell (p := ⟨w.heap.size, 0, none⟩) (Nat.le_refl _) _⟩
    · by_cases h2 : 1099511627776 < x
      · gi_wp2
        exact ⟨KeepsOthers.setCell _ _ _, ⟨rfl, allD_no (inD_hi h2), World.cell?_setCell_same' _ _ _ (by rw [hcr]; rfl)⟩, hB.setCell (p := ⟨w.heap.size, 0, none⟩) (Nat.le_refl _) _⟩
      · gi_wp2
        exact ⟨KeepsOthers.refl _, KC.refl _ _, ⟨allD_yes (inD_ok h1 h2) hp, hcr, hfr⟩, hB⟩
  case done =>
    rintro D ys W hD' rfl ⟨⟨hp, hcr, hfr⟩, hB⟩ hK
    gi_wp2
    have hK' := (KeepsOthers.setCell W ⟨w.heap.size, 0, none⟩ (.bool true)).same D _ hK rfl
    refine ⟨by simp, .inl ⟨_, _, rfl, run_takeDeferred hK', ?_⟩⟩
    have hc5 := cell_kept (World.cell?_setCell_same' W ⟨w.heap.size, 0, none⟩ (.bool true) (by rw [hcr]; rfl)) (grownBy_putObj' _ D (.deferred none)) (fun r e => by cases e; exact ⟨_, hK', rfl⟩)
    refine ⟨.bool true, ?_, by rw [hp], (hB.setCell (p := ⟨w.heap.size, 0, none⟩) (Nat.le_refl _) _).trans (belowK_b (w := w) (Nat.le_refl _) _ D _ _ (by simp at hD'; omega) hK' rfl rfl)⟩
    simp [results, Try.f15, go_sem, hc5]
  case stop =>
    rintro D c pre W hD' hpre ⟨⟨rfl, hin, hcr⟩, hB⟩ hK
    gi_wp2
    refine ⟨by simp, .inl ⟨_, _, rfl, run_takeDeferred hK, ?_⟩⟩
    have hc5 := cell_kept hcr (grownBy_putObj' _ D (.deferred none)) (fun r e => by cases e; exact ⟨_, hK, rfl⟩)
    have hz : allD (cnL ds) = false := allD_pre hpre hin
    refine ⟨.bool false, ?_, by rw [hz], hB.trans (belowK_b (w := w) (Nat.le_refl _) W D _ _ (by simp at hD'; omega) hK rfl rfl)⟩
    simp [results, Try.f15, go_sem, hc5]
end Go.Proofs.Ytpimfhkigbcniaa.Bo
