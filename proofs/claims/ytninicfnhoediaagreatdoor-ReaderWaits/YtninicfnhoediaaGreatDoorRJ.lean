import Derived.Test.YtninicfnhoediaaGreatDoorRF
import Derived.Test.YtninicfnhoediaaGreatDoorKS
namespace Go.Proofs.YtninicfnhoediaaGreatDoor
open Go.ChangeShapes Go.WideShapes Go.ChangeAt Go.RowKit Num
attribute [local go_sem] run_store_float

/-- what an instruction's doing may count on -/
structure Fit (m : Mac) : Prop where
  st : ∀ x ∈ m.st, okN x
  high : m.st.length ≤ 64
  cells : m.cells ≤ 256
  reads : m.reads.length ≤ 1024
  out : m.out.length ≤ 1024
  buf : m.buf.length ≤ 32
  few : (m.buf.length : Int) ≤ m.wmax
  deep : m.calls.length ≤ 16
  how : m.how = 0
  err : m.err = 0
theorem fit_of {m : Mac} (h : Inv m) (h0 : m.how = 0) : Fit m := by
  have h1 := h.high
  have h2 := h.used
  have h3 := h.fuel
  have h4 := h.reads
  have h5 := h.out
  have h6 := h.few
  have h7 := h.wmax
  refine ⟨h.st, ?_, h.cells.2, ?_, by omega, by omega, h6, h.deep, h0, ?_⟩
  · split at h1 <;> omega
  · split at h4 <;> omega
  · have := h.fail
    by_cases e : m.err = 0
    · exact e
    · have := this.2 e
      omega
theorem fit_begun {m : Mac} (h : Fit m) : Fit (begM m) := ⟨h.st, h.high, h.cells, h.reads, h.out, h.buf, h.few, h.deep, h.how, h.err⟩
theorem two_of {l : List Nat} (h : 2 ≤ l.length) : ∃ y z s, l = y :: z :: s := by
  match l, h with
  | y :: z :: s, _ => exact ⟨y, z, s, rfl⟩
theorem one_of {l : List Nat} (h : 1 ≤ l.length) : ∃ y s, l = y :: s := by
  match l, h with
  | y :: s, _ => exact ⟨y, s, rfl⟩
section
variable {W w : World} {br bl : Nat} {F0 K : List Nat} {m : Mac} {cs : List Ins}
/-- its read -/
theorem rread_any (h : Rg W F0 br bl K w m cs) (hf : Fit m) {y : Nat} {s : List Nat} (hs : m.st = y :: s) : Calls Tryz.prog 129 #[.pointer (some ⟨br, 0, none⟩)] w fun r w' => r = .returned (askV (readM m).2) ∧ Rg W F0 br bl K w' (readM m).1 cs := by
  have hy : okN y := hf.st y (by rw [hs]; simp)
  unfold readM
  cases ha : addrB m with
  | false => exact rread_no h hs hf.high hy.2 ha
  | true =>
    have e : m.st.drop 1 = s := by rw [hs]; rfl
    cases hh : hasC m.buf (addrV m) with
    | false =>
      rw [if_pos rfl, if_neg Bool.false_ne_true, e]
      exact rread_wait h hs hf.high hy.2 hf.buf ha hh
    | true =>
      rw [if_pos rfl, if_pos rfl, e]
      exact rread_own h hs hf.high hy.2 hf.buf hf.reads ha hh
theorem rwrite_any (h : Rg W F0 br bl K w m cs) (hf : Fit m) {y z : Nat} {s : List Nat} (hs : m.st = y :: z :: s) : Calls Tryz.prog 130 #[.pointer (some ⟨br, 0, none⟩)] w fun r w' => r = .returned (askV (writeM m).2) ∧ Rg W F0 br bl K w' (writeM m).1 cs := by
  have hy : okN y := hf.st y (by rw [hs]; simp)
  unfold writeM
  cases hu : m.upd with
  | false => exact rwrite_ro h hu
  | true =>
    cases ha : addrB m with
    | false => exact rwrite_no h hs hf.high hy.2 hu ha
    | true =>
      have e : m.st.drop 2 = s := by rw [hs]; rfl
      have e2 : m.st.getD 1 0 = z := by rw [hs]; rfl
      rw [if_pos rfl, if_pos rfl, e, e2]
      cases hh : hasC m.buf (addrV m) with
      | false =>
        by_cases hfull : (m.buf.length : Int) = m.wmax
        · have hp : mayP m.wmax m.buf (addrV m) = false := by unfold mayP; rw [hh]; simp; omega
          rw [hp]
          exact rwrite_full h hs hf.high hy.2 hf.buf hu ha hh hfull
        · have hp : mayP m.wmax m.buf (addrV m) = true := by unfold mayP; rw [hh]; simp; have := hf.few; omega
          rw [hp, if_pos rfl]
          have := rwrite_first h hs hf.high hy.2 hf.buf hu ha hh hfull
          rw [hu] at this
          exact this
      | true =>
        have hp : mayP m.wmax m.buf (addrV m) = true := by unfold mayP; rw [hh]; rfl
        rw [hp, if_pos rfl]
        have := rwrite_again h hs hf.high hy.2 hf.buf hu ha hh
        rw [hu] at this
        exact this
theorem Fit.on {m m' : Mac} (h : Fit m) (e : m' = m) : Fit m' := e ▸ h
set_option maxHeartbeats 1000000 in
theorem rdo_any (h : Rg W F0 br bl K w m cs) (hf : Fit m) {k many : Nat} {n : Int} {x : Nat} (hi : mayB ⟨k, n, x⟩ many = true) (hro : roomB m ⟨k, n, x⟩ = true) : Calls Tryz.prog 90 #[.pointer (some ⟨br, 0, none⟩), insV ⟨k, n, x⟩] w fun r w' => r = .returned (askV (doM m ⟨k, n, x⟩).2) ∧ Rg W F0 br bl K w' (doM m ⟨k, n, x⟩).1 cs := by
  obtain ⟨hk, hlo, hhi⟩ := fits_parts hi
  clear hi
  unfold roomB at hro
  simp only [Bool.and_eq_true, decide_eq_true_eq] at hro
  obtain ⟨⟨r1, r2⟩, _⟩ := hro
  have hkk : k = 1 ∨ k = 2 ∨ k = 3 ∨ k = 4 ∨ k = 5 ∨ k = 6 ∨ k = 7 ∨ k = 8 ∨ k = 9 ∨ k = 10 ∨ k = 11 ∨ k = 12 ∨ k = 13 ∨ k = 14 ∨ k = 15 ∨ k = 16 ∨ k = 17 ∨ k = 18 ∨ k = 19 ∨ k = 20 := by omega
  have hs2 := hf.high
  rcases hkk with rfl | rfl | rfl | rfl | rfl | rfl | rfl | rfl | rfl | rfl | rfl | rfl | rfl | rfl | rfl | rfl | rfl | rfl | rfl | rfl
  · have r2' : (m.st.length : Int) - 0 + 1 ≤ 64 := r2
    exact rdo_push h (by omega)
  · have r1' : (1 : Int) ≤ (m.st.length : Int) := r1
    obtain ⟨y, s, hs⟩ := one_of (l := m.st) (by omega)
    have := rdo_drop h (n := n) (x := x) hs hs2
    rw [show s = m.st.drop 1 by rw [hs]; rfl] at this
    exact this
  · have r1' : (1 : Int) ≤ (m.st.length : Int) := r1
    obtain ⟨y, s, hs⟩ := one_of (l := m.st) (by omega)
    have := rdo_dup h (n := n) (x := x) hs hs2
    rw [show y = m.st.getD 0 0 by rw [hs]; rfl] at this
    exact this
  · have r1' : (2 : Int) ≤ (m.st.length : Int) := r1
    obtain ⟨y, z, s, hs⟩ := two_of (l := m.st) (by omega)
    have := rdo_swap h (n := n) (x := x) hs hs2
    have e : doM m ⟨(4 : Nat), n, x⟩ = ({ m with st := z :: y :: s }, ask0) := by
      show ({ m with st := m.st.getD 1 0 :: m.st.getD 0 0 :: m.st.drop 2 }, ask0) = _
      rw [hs]
      rfl
    rw [e]
    exact this
  · have r1' : n + 1 ≤ (m.st.length : Int) := r1
    have h0 : 0 ≤ n := hlo
    obtain ⟨q, rfl⟩ : ∃ q : Nat, n = q := ⟨n.toNat, by omega⟩
    exact rdo_pick h (k := q) rfl (by omega) hs2
  · have h0 : 0 ≤ n := hlo
    have h7 : n ≤ 7 := hhi
    obtain ⟨q, rfl⟩ : ∃ q : Nat, n = q := ⟨n.toNat, by omega⟩
    have r2' : (m.st.length : Int) - 0 + 1 ≤ 64 := r2
    exact rdo_arg h (k := q) rfl (by omega) (by omega)
  · have h0 : 0 ≤ n := hlo
    have h7 : n ≤ 7 := hhi
    obtain ⟨q, rfl⟩ : ∃ q : Nat, n = q := ⟨n.toNat, by omega⟩
    have r2' : (m.st.length : Int) - 0 + 1 ≤ 64 := r2
    exact rdo_get h (k := q) rfl (by omega) (by omega)
  · have h0 : 0 ≤ n := hlo
    have h7 : n ≤ 7 := hhi
    obtain ⟨q, rfl⟩ : ∃ q : Nat, n = q := ⟨n.toNat, by omega⟩
    have r1' : (1 : Int) ≤ (m.st.length : Int) := r1
    obtain ⟨y, s, hs⟩ := one_of (l := m.st) (by omega)
    have := rdo_set h (x := x) (n := q) rfl (by omega) hs hs2
    have e : doM m ⟨(8 : Nat), q, x⟩ = ({ m with loc := updF m.loc q y, st := s }, ask0) := by
      show ({ m with loc := updF m.loc q (m.st.getD 0 0), st := m.st.drop 1 }, ask0) = _
      rw [hs]
      rfl
    rw [e]
    exact this
  · have h0 : 1 ≤ n := hlo
    have h7 : n ≤ 8 := hhi
    have r1' : (1 : Int) ≤ (m.st.length : Int) := r1
    obtain ⟨y, s, hs⟩ := one_of (l := m.st) (by omega)
    have := rdo_one h (x := x) (n := n) ⟨h0, h7⟩ hs hs2 (hf.st y (by rw [hs]; simp))
    have e : doM m ⟨(9 : Nat), n, x⟩ = ({ m with st := oneV n y :: s }, ask0) := by
      show ({ m with st := oneV n (m.st.getD 0 0) :: m.st.drop 1 }, ask0) = _
      rw [hs]
      rfl
    rw [e]
    exact this
  · have h0 : 1 ≤ n := hlo
    have h7 : n ≤ 12 := hhi
    have r1' : (2 : Int) ≤ (m.st.length : Int) := r1
    obtain ⟨y, z, s, hs⟩ := two_of (l := m.st) (by omega)
    have := rdo_two h (x := x) (n := n) ⟨h0, h7⟩ hs hs2 (hf.st y (by rw [hs]; simp)) (hf.st z (by rw [hs]; simp))
    have e : doM m ⟨(10 : Nat), n, x⟩ = ({ m with st := twoV n z y :: s }, ask0) := by
      show ({ m with st := twoV n (m.st.getD 1 0) (m.st.getD 0 0) :: m.st.drop 2 }, ask0) = _
      rw [hs]
      rfl
    rw [e]
    exact this
  · exact rdo_jump h
  · have r1' : (1 : Int) ≤ (m.st.length : Int) := r1
    obtain ⟨y, s, hs⟩ := one_of (l := m.st) (by omega)
    have e : doM m ⟨(12 : Nat), n, x⟩ = ({ m with place := if trueB y then n else m.place, st := s }, ask0) := by
      show ({ m with place := if trueB (m.st.getD 0 0) then n else m.place, st := m.st.drop 1 }, ask0) = _
      rw [hs]
      rfl
    rw [e]
    cases hy : trueB y with
    | true => exact rdo_if1 h hs hs2 hy
    | false => exact rdo_if0 h hs hs2 hy
  · have r1' : (1 : Int) ≤ (m.st.length : Int) := r1
    obtain ⟨y, s, hs⟩ := one_of (l := m.st) (by omega)
    have e : doM m ⟨(13 : Nat), n, x⟩ = ({ m with place := if trueB y then m.place else n, st := s }, ask0) := by
      show ({ m with place := if trueB (m.st.getD 0 0) then m.place else n, st := m.st.drop 1 }, ask0) = _
      rw [hs]
      rfl
    rw [e]
    cases hy : trueB y with
    | true => exact rdo_un1 h hs hs2 hy
    | false => exact rdo_un0 h hs hs2 hy
  · exact rdo_call h (by have := hf.deep; omega)
  · show Calls _ _ _ _ fun r w' => r = .returned (askV (retM m).2) ∧ Rg W F0 br bl K w' (retM m).1 cs
    cases hc : m.calls with
    | nil =>
      rw [retM_nil hc]
      exact rdo_ret0 h hf.how hf.err hc
    | cons c q =>
      rw [retM_cons hc]
      exact rdo_ret h hc hf.deep
  · have r1' : (1 : Int) ≤ (m.st.length : Int) := r1
    obtain ⟨y, s, hs⟩ := one_of (l := m.st) (by omega)
    exact rdo_read h (fun F u hu => rread_any hu hf hs)
  · have r1' : (2 : Int) ≤ (m.st.length : Int) := r1
    obtain ⟨y, z, s, hs⟩ := two_of (l := m.st) (by omega)
    exact rdo_write h (fun F u hu => rwrite_any hu hf hs)
  · have r1' : (1 : Int) ≤ (m.st.length : Int) := r1
    obtain ⟨y, s, hs⟩ := one_of (l := m.st) (by omega)
    have e : doM m ⟨(18 : Nat), n, x⟩ = ({ m with out := m.out ++ [y], st := s }, ask0) := by
      show ({ m with out := m.out ++ [m.st.getD 0 0], st := m.st.drop 1 }, ask0) = _
      rw [hs]
      rfl
    rw [e]
    exact rdo_emit h hs hs2 hf.out
  · exact rdo_abort h
  · exact rdo_halt h hf.how hf.err
end
end Go.Proofs.YtninicfnhoediaaGreatDoor
namespace Go.Proofs.YtninicfnhoediaaGreatDoor
open Go.ChangeShapes Go.WideShapes Go.ChangeAt Go.RowKit Num
attribute [local go_sem] run_store_float

section
variable {W w : World} {br bl : Nat} {F0 K : List Nat} {m : Mac} {cs : List Ins}
/-- what Step looks at -/
theorem Rg.looks (h : Rg W F0 br bl K w m cs) : ∃ (bad : Bool) (pk : Option Addr) (ck : Nat), (w.cell? ⟨br, 2, none⟩ = some (.int .i64 m.fuel) ∧ w.cell? ⟨br, 5, none⟩ = some (.slice pk cs.length ck) ∧ w.cell? ⟨br, 6, none⟩ = some (.bool bad) ∧ w.cell? ⟨br, 11, none⟩ = some (.int .i64 m.place) ∧ w.cell? ⟨br, 12, none⟩ = some (.int .i64 m.used) ∧ w.cell? ⟨br, 13, none⟩ = some (.int .i64 m.wait) ∧ w.cell? ⟨br, 14, none⟩ = some (.int .i64 m.how)) ∧ (w.frozen? ⟨br, 11, none⟩ = false ∧ w.frozen? ⟨br, 12, none⟩ = false ∧ br < w.heap.size) ∧ ((bad = false ∧ m.code = cs) ∨ (bad = true ∧ m.code = [])) ∧ CodeAt w pk cs := by
  obtain ⟨q, hr, _⟩ := h
  exact ⟨q.bad, q.pk, q.ck, ⟨(hr.cell 2).trans rfl, by rw [← hr.nk]; exact (hr.cell 5).trans rfl, (hr.cell 6).trans rfl, (hr.cell 11).trans rfl, (hr.cell 12).trans rfl, (hr.cell 13).trans rfl, (hr.cell 14).trans rfl⟩, ⟨hr.free 11, hr.free 12, hr.ltB⟩, hr.bad, hr.cod⟩
/-- it begins an instruction -/
theorem Rg.begun (h : Rg W F0 br bl K w m cs) : Rg W F0 br bl K ((w.setCell ⟨br, 12, none⟩ (.int .i64 (m.used + 1))).setCell ⟨br, 11, none⟩ (.int .i64 (m.place + 1))) (begM m) cs := by
  have g1 := h.set 12 (.int .i64 (m.used + 1)) { m with used := m.used + 1 } (fun q => rfl) ⟨rfl, rfl, rfl, rfl, rfl, rfl, rfl, rfl, rfl⟩ id
  exact g1.set 11 (.int .i64 (m.place + 1)) (begM m) (fun q => rfl) ⟨rfl, rfl, rfl, rfl, rfl, rfl, rfl, rfl, rfl⟩ id
set_option maxRecDepth 100000 in
set_option maxHeartbeats 1000000 in
theorem rstep_waits (h : Rg W F0 br bl K w m cs) (hw : 0 ≤ m.wait) : Calls Tryz.prog 48 #[.pointer (some ⟨br, 0, none⟩)] w fun r w' => r = .returned (askV (askRead m.wait)) ∧ Rg W F0 br bl K w' m cs := by
  obtain ⟨bad, pk, ck, ⟨e1, e2, e3, e4, e5, e6, e7⟩, ⟨f1, f2, f3⟩, _, _⟩ := h.looks
  have G9 := Lib.hid h
  clear h
  go_enter Tryz.func48, Tryz.ntmps48
  go_wp2
  exact ask_back rfl w.heap.size (askRead m.wait) rfl (heap_new (by simp)) rfl ⟨rfl, G9.out.alloc _⟩
set_option maxRecDepth 100000 in
set_option maxHeartbeats 1000000 in
theorem rstep_over (h : Rg W F0 br bl K w m cs) (hw : ¬ 0 ≤ m.wait) (hh : ¬ m.how = 0) : Calls Tryz.prog 48 #[.pointer (some ⟨br, 0, none⟩)] w fun r w' => r = .returned (askV askEnd) ∧ Rg W F0 br bl K w' m cs := by
  obtain ⟨bad, pk, ck, ⟨e1, e2, e3, e4, e5, e6, e7⟩, ⟨f1, f2, f3⟩, _, _⟩ := h.looks
  have G9 := Lib.hid h
  clear h
  go_enter Tryz.func48, Tryz.ntmps48
  go_wp2
  exact ask_back rfl w.heap.size askEnd rfl (heap_new (by simp)) rfl ⟨rfl, G9.out.alloc _⟩
/-- it fails ahead of any instruction -/
theorem Rg.failN (h : Rg W F0 br bl K w m cs) (e : Int) : ∃ F, (∀ n, Calls Tryz.prog 88 #[.pointer (some ⟨br, 0, none⟩), .int .i64 e] ((w.alloc (askO ask0)).drewN n) fun r w' => r = .returned (askV askEnd) ∧ Rg (w.alloc (askO ask0)) F br bl K w' (failM m e).1 cs) ∧ ∀ u m', Rg (w.alloc (askO ask0)) F br bl K u m' cs → u.heap[w.heap.size]? = some (askO ask0) ∧ ∀ u', Turn [w.heap.size] [w.heap.size] u u' → Rg W F0 br bl K u' m' cs := by
  obtain ⟨F, h1, hX⟩ := h.leave (askO ask0)
  exact ⟨F, fun n => rfails_any (h1.same (Same.drewN _ n)) e, hX⟩
set_option maxRecDepth 100000 in
set_option maxHeartbeats 1000000 in
theorem rstep_bad (h : Rg W F0 br bl K w m cs) (hw : ¬ 0 ≤ m.wait) (hh : m.how = 0) (hb : ∃ pk ck, w.cell? ⟨br, 5, none⟩ = some (.slice pk cs.length ck) ∧ w.cell? ⟨br, 6, none⟩ = some (.bool true)) : Calls Tryz.prog 48 #[.pointer (some ⟨br, 0, none⟩)] w fun r w' => r = .returned (askV askEnd) ∧ Rg W F0 br bl K w' (failM m 50).1 cs := by
  obtain ⟨bad, pk, ck, ⟨e1, e2, e3, e4, e5, e6, e7⟩, ⟨f1, f2, f3⟩, _, _⟩ := h.looks
  obtain ⟨pk', ck', _, e3'⟩ := hb
  rw [e3] at e3'
  cases e3'
  obtain ⟨F, hF, hX⟩ := h.failN 50
  have HX := Lib.hid hX
  have HFA : Hid (Calls Tryz.prog 88 #[.pointer (some ⟨br, 0, none⟩), .int .i64 50] (w.alloc (askO ask0)) fun r w' => r = .returned (askV askEnd) ∧ Rg (w.alloc (askO ask0)) F br bl K w' (failM m 50).1 cs) := hF 0
  clear h hF hX
  go_enter Tryz.func48, Tryz.ntmps48
  go_wp2_with (go_at_call 88; refine HFA.out.mono ?_; rintro e u1 ⟨rfl, q⟩; obtain ⟨r1, r2⟩ := HX.out _ _ q; obtain ⟨⟨c0, c1, c2, c3, c4⟩, d0, d1, d2, d3⟩ := askO_cells r1; have G1 := Lib.hid (And.intro r1 r2); clear q r1 r2; unfold askV)
  exact ask_back rfl w.heap.size askEnd rfl (askO_set G1.out.1) rfl ⟨rfl, G1.out.2 _ (turn4 _ _ _ _ _ _)⟩
set_option maxRecDepth 100000 in
set_option maxHeartbeats 1000000 in
theorem rstep_fuel (h : Rg W F0 br bl K w m cs) (hw : ¬ 0 ≤ m.wait) (hh : m.how = 0) (hc : w.cell? ⟨br, 6, none⟩ = some (.bool false)) (hf : m.used = m.fuel) : Calls Tryz.prog 48 #[.pointer (some ⟨br, 0, none⟩)] w fun r w' => r = .returned (askV askEnd) ∧ Rg W F0 br bl K w' (failM m 80).1 cs := by
  obtain ⟨bad, pk, ck, ⟨e1, e2, e3, e4, e5, e6, e7⟩, ⟨f1, f2, f3⟩, _, _⟩ := h.looks
  rw [e3] at hc
  cases hc
  obtain ⟨F, hF, hX⟩ := h.failN 80
  have HX := Lib.hid hX
  have HFA := Lib.hid hF
  rw [← hf] at e1
  clear h hF hX hf
  generalize m.used = us at *
  go_enter Tryz.func48, Tryz.ntmps48
  go_wp2
  go_quiet (fail)
  go_wp2_with (go_at_call 88; refine (HFA.out _).mono ?_; rintro e u1 ⟨rfl, q⟩; obtain ⟨r1, r2⟩ := HX.out _ _ q; obtain ⟨⟨c0, c1, c2, c3, c4⟩, d0, d1, d2, d3⟩ := askO_cells r1; have G1 := Lib.hid (And.intro r1 r2); clear q r1 r2; unfold askV)
  exact ask_back rfl w.heap.size askEnd rfl (askO_set G1.out.1) rfl ⟨rfl, G1.out.2 _ (turn4 _ _ _ _ _ _)⟩
set_option maxRecDepth 100000 in
set_option maxHeartbeats 1000000 in
theorem rstep_far (h : Rg W F0 br bl K w m cs) (hw : ¬ 0 ≤ m.wait) (hh : m.how = 0) (hc : w.cell? ⟨br, 6, none⟩ = some (.bool false)) (hf : ¬ m.used = m.fuel) (hp : (cs.length : Int) ≤ m.place) : Calls Tryz.prog 48 #[.pointer (some ⟨br, 0, none⟩)] w fun r w' => r = .returned (askV askEnd) ∧ Rg W F0 br bl K w' (failM m 50).1 cs := by
  obtain ⟨bad, pk, ck, ⟨e1, e2, e3, e4, e5, e6, e7⟩, ⟨f1, f2, f3⟩, _, _⟩ := h.looks
  rw [e3] at hc
  cases hc
  obtain ⟨F, hF, hX⟩ := h.failN 50
  have HX := Lib.hid hX
  have HFA := Lib.hid hF
  have hfd : (m.used == m.fuel) = false := by simpa using hf
  clear h hF hX
  generalize cs.length = n at *
  go_enter Tryz.func48, Tryz.ntmps48
  go_wp2
  go_quiet (fail)
  go_wp2
  go_quiet (fail)
  go_wp2_with (go_at_call 88; refine (HFA.out _).mono ?_; rintro e u1 ⟨rfl, q⟩; obtain ⟨r1, r2⟩ := HX.out _ _ q; obtain ⟨⟨c0, c1, c2, c3, c4⟩, d0, d1, d2, d3⟩ := askO_cells r1; have G1 := Lib.hid (And.intro r1 r2); clear q r1 r2; unfold askV)
  exact ask_back rfl w.heap.size askEnd rfl (askO_set G1.out.1) rfl ⟨rfl, G1.out.2 _ (turn4 _ _ _ _ _ _)⟩
end
end Go.Proofs.YtninicfnhoediaaGreatDoor
namespace Go.Proofs.YtninicfnhoediaaGreatDoor
open Go.ChangeShapes Go.WideShapes Go.ChangeAt Go.RowKit Num
attribute [local go_sem] run_store_float

/-- behind the last of a drawn region: the world gets a letter of its own -/
theorem wpSeqE_end {P : Program} {ops : Array Oper} {Q : Exit → Act → World → Prop} {S : World → Prop} {a : Act} {w : World} (h : ∀ u, u = w → Q .normal a u) : wpSeqE P ops Q S [] a w := h w rfl
section
variable {W w : World} {br bl : Nat} {F0 K : List Nat} {m : Mac} {cs : List Ins}
set_option maxRecDepth 100000 in
set_option maxHeartbeats 2000000 in
theorem rstep_do (h : Rg W F0 br bl K w m cs) (hI : Inv m) (hw : ¬ 0 ≤ m.wait) (hh : m.how = 0) (hc : w.cell? ⟨br, 6, none⟩ = some (.bool false)) (hf : ¬ m.used = m.fuel) (hcs : m.code = cs) {k : Nat} (hk0 : m.place = k) (hp : k < cs.length) : Calls Tryz.prog 48 #[.pointer (some ⟨br, 0, none⟩)] w fun r w' => r = .returned (askV (if roomB (begM m) (ci cs k) then doM (begM m) (ci cs k) else failM (begM m) 82).2) ∧ Rg W F0 br bl K w' (if roomB (begM m) (ci cs k) then doM (begM m) (ci cs k) else failM (begM m) 82).1 cs := by
  obtain ⟨bad, pk, ck, ⟨e1, e2, e3, e4, e5, e6, e7⟩, ⟨f1, f2, f3⟩, _, hcode⟩ := h.looks
  rw [e3] at hc
  cases hc
  obtain ⟨g, o, hpk, hg, j0, j1, j2⟩ := hcode k hp
  have hmay := hI.may k (by rw [hcs]; exact hp)
  rw [hcs] at hmay
  have hlen : cs.length ≤ 1024 := by rw [← hcs]; exact hI.len
  have hus := hI.used
  have hfu := hI.fuel
  have hFit := fit_begun (fit_of hI hh)
  rw [hpk] at e2
  rw [hk0] at e4
  rcases hci : ci cs k with ⟨op, n0, x0⟩
  rw [hci] at j0 j1 j2 hmay
  obtain ⟨p, rfl⟩ : ∃ p : Nat, op = p := ⟨op.toNat, by have := hmay.1; unfold mayB knownB at this; simp at this; omega⟩
  obtain ⟨F, h1, hX⟩ := h.leave (askO ask0)
  have HX := Lib.hid hX
  have hn : 0 ≤ n0 ∧ n0 ≤ 1023 := by
    obtain ⟨⟨q1, q2⟩, q3, q4⟩ := fits_parts hmay.1
    have q5 : ∀ j, j < 21 → 0 ≤ (shp j).lo ∧ (shp j).hi ≤ 1023 := by decide
    have := q5 p q2
    omega
  have HRO : Hid (∀ u, Rg (w.alloc (askO ask0)) F br bl K u (begM m) cs → Calls Tryz.prog 89 #[.pointer (some ⟨br, 0, none⟩), insV ⟨p, n0, x0⟩] u fun e w' => e = .returned (.bool (roomB (begM m) ⟨p, n0, x0⟩)) ∧ Below u.heap.size u w') := fun u hu => rroom_any hu (fits_parts hmay.1).1 hFit.high hFit.deep hn
  have HDO : Hid (roomB (begM m) ⟨p, n0, x0⟩ = true → ∀ u, Rg (w.alloc (askO ask0)) F br bl K u (begM m) cs → Calls Tryz.prog 90 #[.pointer (some ⟨br, 0, none⟩), insV ⟨p, n0, x0⟩] u fun r w' => r = .returned (askV (doM (begM m) ⟨p, n0, x0⟩).2) ∧ Rg (w.alloc (askO ask0)) F br bl K w' (doM (begM m) ⟨p, n0, x0⟩).1 cs) := fun hro u hu => rdo_any hu hFit hmay.1 hro
  have HFA : Hid (∀ u, Rg (w.alloc (askO ask0)) F br bl K u (begM m) cs → Calls Tryz.prog 88 #[.pointer (some ⟨br, 0, none⟩), .int .i64 82] u fun r w' => r = .returned (askV askEnd) ∧ Rg (w.alloc (askO ask0)) F br bl K w' (failM (begM m) 82).1 cs) := fun u hu => rfails_any hu 82
  have HBG : Hid (∀ u, Rg (w.alloc (askO ask0)) F br bl K u m cs → (u.cell? ⟨br, 12, none⟩ = some (.int .i64 m.used) ∧ u.cell? ⟨br, 11, none⟩ = some (.int .i64 (k : Int)) ∧ u.frozen? ⟨br, 11, none⟩ = false ∧ u.frozen? ⟨br, 12, none⟩ = false ∧ br < u.heap.size) ∧ Hid (Rg (w.alloc (askO ask0)) F br bl K ((u.setCell ⟨br, 12, none⟩ (.int .i64 (m.used + 1))).setCell ⟨br, 11, none⟩ (.int .i64 ((k : Int) + 1))) (begM m) cs)) := fun u hu => by
    obtain ⟨_, _, _, ⟨_, _, _, z4, z5, _, _⟩, ⟨z6, z7, z8⟩, _, _⟩ := hu.looks
    rw [hk0] at z4
    refine ⟨⟨z5, z4, z6, z7, z8⟩, ?_⟩
    have := hu.begun
    rw [hk0] at this
    exact this
  have G0 := Lib.hid h1
  have HS : Hid (∀ u, Below w.heap.size w u → u.cell? ⟨br, 5, none⟩ = some (.slice (some ⟨g, o, none⟩) cs.length ck) ∧ u.cell? ⟨br, 11, none⟩ = some (.int .i64 (k : Int)) ∧ u.cell? ⟨g, o + k * 3, none⟩ = some (.int .i64 p) ∧ u.cell? ⟨g, o + k * 3 + 1, none⟩ = some (.int .i64 n0) ∧ u.cell? ⟨g, o + k * 3 + 2, none⟩ = some (.float .f64 x0)) := fun u hu => ⟨(hu.cell (p := ⟨br, 5, none⟩) f3).trans e2, (hu.cell (p := ⟨br, 11, none⟩) f3).trans e4, (hu.cell (p := ⟨g, o + k * 3, none⟩) hg).trans j0, (hu.cell (p := ⟨g, o + k * 3 + 1, none⟩) hg).trans j1, (hu.cell (p := ⟨g, o + k * 3 + 2, none⟩) hg).trans j2⟩
  have hkn : (k : Int) < (cs.length : Int) := by omega
  have hkn2 : ¬ (cs.length : Int) ≤ (k : Int) := by omega
  have hfd : (m.used == m.fuel) = false := by simpa using hf
  clear h h1 hX hmay hFit hcode hI hpk hk0 hn hcs
  generalize cs.length = n at *
  clear hci
  cases hro : roomB (begM m) ⟨p, n0, x0⟩
  · rw [if_neg Bool.false_ne_true]
    rw [hro] at HRO
    clear hro HDO
    go_enter Tryz.func48, Tryz.ntmps48
    go_wp2
    go_quiet (fail)
    go_wp2
    go_quiet (fail)
    go_wp2
    refine wp_region_seqE (fun u => u.cell? ⟨br, 5, none⟩ = some (.slice (some ⟨g, o, none⟩) n ck) ∧ u.cell? ⟨br, 11, none⟩ = some (.int .i64 (k : Int)) ∧ u.cell? ⟨g, o + k * 3, none⟩ = some (.int .i64 p) ∧ u.cell? ⟨g, o + k * 3 + 1, none⟩ = some (.int .i64 n0) ∧ u.cell? ⟨g, o + k * 3 + 2, none⟩ = some (.float .f64 x0)) ((0, true) :: (1, true) :: (2, true) :: (3, true) :: (4, true) :: (5, true) :: (6, true) :: (7, true) :: (8, true) :: (9, true) :: (10, true) :: (11, false) :: (12, false) :: []) (by kernel_rfl) (by kernel_rfl) (fun _ _ _ _ _ h => h) (HS.out _ ((((below_alloc w (askO ask0)).trans ((Same.drewN _ _).below _)).trans ((Same.drewN _ _).below _)).trans ((Same.drew _).below _))) ?_
    repeat (first
      | (refine wpSeqE_take (v := ?_) rfl (by rfl) (fun wq hSq => ?_) ?_; rotate_left; (focus ((try dsimp only at hSq); go_simp; try with_reducible rfl)); simp only [Act.put, List.setIfInBounds_toArray, List.set_cons_zero, List.set_cons_succ]))
    refine wpSeqE_do rfl (by rfl) (fun K hK => ?_)
    go_simp
    refine hK.out _ _ (fun _ => HS.out _ (bl_new ((below_alloc w (askO ask0)).trans ((Same.drewN _ _).below _)) _)) ?_
    clear hK K
    try simp only [Act.put, List.setIfInBounds_toArray, List.set_cons_zero, List.set_cons_succ]
    refine wpSeqE_do rfl (by rfl) (fun K hK => ?_)
    go_simp
    refine hK.out _ _ (fun z => absurd rfl z) ?_
    clear hK K
    refine wpSeqE_end (fun u hu => ?_)
    have hG : Rg (w.alloc (askO ask0)) F br bl K u m cs := by rw [hu]; exact (G0.out.same (Same.drewN _ _)).alloc (insO ⟨p, n0, x0⟩)
    have hI1 : u.heap[w.heap.size + 1]? = some (insO ⟨p, n0, x0⟩) := by rw [hu]; exact heap_new (by simp)
    clear hu
    obtain ⟨i0, i1, i2, i3⟩ := cells3_of hI1
    obtain ⟨⟨z1, z2, z3, z4, z5⟩, G2⟩ := HBG.out u hG
    have hne : br ≠ w.heap.size + 1 := by omega
    have hI2 : Hid (((u.setCell ⟨br, 12, none⟩ (.int .i64 (m.used + 1))).setCell ⟨br, 11, none⟩ (.int .i64 ((k : Int) + 1))).heap[w.heap.size + 1]? = some (insO ⟨p, n0, x0⟩)) := by
      show _ = _
      rw [heap_setCell_other _ _ _ _ (by simp; omega), heap_setCell_other _ _ _ _ (by simp; omega)]
      exact hI1
    clear hG hI1 HBG
    go_wp2_with (first
      | (go_at_call 88; refine (HFA.out _ G3.out).mono ?_; rintro e u4 ⟨rfl, q⟩; obtain ⟨r1, r2⟩ := HX.out _ _ q; obtain ⟨⟨c0, c1, c2, c3, c4⟩, d0, d1, d2, d3⟩ := askO_cells r1; have G9 := Lib.hid (And.intro r1 r2); clear q r1 r2; unfold askV)
      | (go_at_call 89; refine (HRO.out _ G2.out).mono ?_; rintro e u3 ⟨rfl, q⟩; have G3 := Lib.hid (G2.out.on q); clear q))
    exact ask_back rfl w.heap.size askEnd rfl (askO_set G9.out.1) rfl ⟨rfl, G9.out.2 _ (turn4 _ _ _ _ _ _)⟩
  · rw [if_pos rfl]
    rw [hro] at HRO
    have HD2 := Lib.hid (HDO.out hro)
    clear HDO
    generalize hdm : doM (begM m) ⟨p, n0, x0⟩ = dm at *
    obtain ⟨M, ak, ac, ax, af⟩ := dm
    clear hro hdm
    go_enter Tryz.func48, Tryz.ntmps48
    go_wp2
    go_quiet (fail)
    go_wp2
    go_quiet (fail)
    go_wp2
    refine wp_region_seqE (fun u => u.cell? ⟨br, 5, none⟩ = some (.slice (some ⟨g, o, none⟩) n ck) ∧ u.cell? ⟨br, 11, none⟩ = some (.int .i64 (k : Int)) ∧ u.cell? ⟨g, o + k * 3, none⟩ = some (.int .i64 p) ∧ u.cell? ⟨g, o + k * 3 + 1, none⟩ = some (.int .i64 n0) ∧ u.cell? ⟨g, o + k * 3 + 2, none⟩ = some (.float .f64 x0)) ((0, true) :: (1, true) :: (2, true) :: (3, true) :: (4, true) :: (5, true) :: (6, true) :: (7, true) :: (8, true) :: (9, true) :: (10, true) :: (11, false) :: (12, false) :: []) (by kernel_rfl) (by kernel_rfl) (fun _ _ _ _ _ h => h) (HS.out _ ((((below_alloc w (askO ask0)).trans ((Same.drewN _ _).below _)).trans ((Same.drewN _ _).below _)).trans ((Same.drew _).below _))) ?_
    repeat (first
      | (refine wpSeqE_take (v := ?_) rfl (by rfl) (fun wq hSq => ?_) ?_; rotate_left; (focus ((try dsimp only at hSq); go_simp; try with_reducible rfl)); simp only [Act.put, List.setIfInBounds_toArray, List.set_cons_zero, List.set_cons_succ]))
    refine wpSeqE_do rfl (by rfl) (fun K hK => ?_)
    go_simp
    refine hK.out _ _ (fun _ => HS.out _ (bl_new ((below_alloc w (askO ask0)).trans ((Same.drewN _ _).below _)) _)) ?_
    clear hK K
    try simp only [Act.put, List.setIfInBounds_toArray, List.set_cons_zero, List.set_cons_succ]
    refine wpSeqE_do rfl (by rfl) (fun K hK => ?_)
    go_simp
    refine hK.out _ _ (fun z => absurd rfl z) ?_
    clear hK K
    refine wpSeqE_end (fun u hu => ?_)
    have hG : Rg (w.alloc (askO ask0)) F br bl K u m cs := by rw [hu]; exact (G0.out.same (Same.drewN _ _)).alloc (insO ⟨p, n0, x0⟩)
    have hI1 : u.heap[w.heap.size + 1]? = some (insO ⟨p, n0, x0⟩) := by rw [hu]; exact heap_new (by simp)
    clear hu
    obtain ⟨i0, i1, i2, i3⟩ := cells3_of hI1
    obtain ⟨⟨z1, z2, z3, z4, z5⟩, G2⟩ := HBG.out u hG
    have hne : br ≠ w.heap.size + 1 := by omega
    have hI2 : Hid (((u.setCell ⟨br, 12, none⟩ (.int .i64 (m.used + 1))).setCell ⟨br, 11, none⟩ (.int .i64 ((k : Int) + 1))).heap[w.heap.size + 1]? = some (insO ⟨p, n0, x0⟩)) := by
      show _ = _
      rw [heap_setCell_other _ _ _ _ (by simp; omega), heap_setCell_other _ _ _ _ (by simp; omega)]
      exact hI1
    clear hG hI1 HBG
    go_wp2_with (first
      | (go_at_call 90; refine (HD2.out _ G3.out).mono ?_; rintro e u4 ⟨rfl, q⟩; obtain ⟨r1, r2⟩ := HX.out _ _ q; obtain ⟨⟨c0, c1, c2, c3, c4⟩, d0, d1, d2, d3⟩ := askO_cells r1; have G9 := Lib.hid (And.intro r1 r2); clear q r1 r2; unfold askV)
      | (go_at_call 89; refine (HRO.out _ G2.out).mono ?_; rintro e u3 ⟨rfl, q⟩; obtain ⟨k0, k1, k2, k3⟩ := cells3_of ((q.block _ (lt_of_block hI2.out)).trans hI2.out); have G3 := Lib.hid (G2.out.on q); clear q))
    exact ask_back rfl w.heap.size ⟨ak, ac, ax, af⟩ rfl (askO_set (k' := ⟨ak, ac, ax, af⟩) G9.out.1) rfl ⟨rfl, G9.out.2 _ (turn4 _ _ (.int .i64 ak) (.int .i64 ac) (.float .f64 ax) (.bool af))⟩
end
end Go.Proofs.YtninicfnhoediaaGreatDoor
namespace Go.Proofs.YtninicfnhoediaaGreatDoor
open Go.ChangeShapes Go.WideShapes Go.ChangeAt Go.RowKit Num

section
variable {W w : World} {br bl : Nat} {F0 K : List Nat} {m : Mac} {cs : List Ins}
/-- the document's Step -/
theorem rstep_any (h : Rg W F0 br bl K w m cs) (hI : Inv m) : Calls Tryz.prog 48 #[.pointer (some ⟨br, 0, none⟩)] w fun r w' => r = .returned (askV (stepM m).2) ∧ Rg W F0 br bl K w' (stepM m).1 cs := by
  unfold stepM
  by_cases hw : 0 ≤ m.wait
  · rw [if_pos hw]
    exact rstep_waits h hw
  · rw [if_neg hw]
    by_cases hh : m.how = 0
    · rw [if_pos hh]
      obtain ⟨bad, pk, ck, ⟨_, e2, e3, _⟩, _, hbad, _⟩ := h.looks
      have hus := hI.used
      have hfu := hI.fuel
      have hpl := hI.place
      rcases hbad with ⟨rfl, hcs⟩ | ⟨rfl, hcs⟩
      · by_cases hf : m.used = m.fuel
        · rw [if_neg (by omega)]
          exact rstep_fuel h hw hh e3 hf
        · rw [if_pos (by omega)]
          by_cases hp : m.place < (m.code.length : Int)
          · rw [if_pos hp]
            obtain ⟨k, hk⟩ : ∃ k : Nat, m.place = k := ⟨m.place.toNat, by omega⟩
            have hk2 : k < cs.length := by rw [hk, hcs] at hp; omega
            have := rstep_do h hI hw hh e3 hf hcs hk hk2
            have e : insM m = ci cs k := by unfold insM; rw [hk, hcs]; rfl
            rw [e]
            exact this
          · rw [if_neg hp]
            rw [hcs] at hp
            exact rstep_far h hw hh e3 hf (by omega)
      · have h0 := hI.idle hcs
        rw [if_pos (by omega), if_neg (by rw [hcs]; simp; omega)]
        exact rstep_bad h hw hh ⟨pk, ck, e2, e3⟩
    · rw [if_neg hh]
      exact rstep_over h hw hh
/-- the document's Give -/
theorem rgive_any (h : Rg W F0 br bl K w m cs) (hI : Inv m) (x : Nat) : Calls Tryz.prog 86 #[.pointer (some ⟨br, 0, none⟩), .float .f64 x] w fun r w' => r = .returned (.int .i64 (giveE m)) ∧ Rg W F0 br bl K w' (giveM m x) cs := by
  unfold giveE giveM
  by_cases hw : 0 ≤ m.wait
  · rw [if_pos hw, if_pos hw]
    have h1 := hI.high
    have h2 := hI.reads
    rw [if_pos hw] at h1 h2
    have := hI.used
    have := hI.fuel
    exact rgive_yes h hw (by omega) (by omega) x
  · rw [if_neg hw, if_neg hw]
    exact (rgive_no h (by omega) x).mono fun e w' ⟨a, b⟩ => ⟨a, by rw [b]; exact h⟩
end
/-- both machines, the program's and the document's, in one memory, made since N; beside them the blocks X, which are none of theirs -/
structure Both (N wr : World) (bm br bl : Nat) (K KR X : List Nat) (F : List Nat) (q : Rp) (m m' : Mac) (cs : List Ins) : Prop where
  mc : Mc wr bm F K m'
  rf : RefAt wr br q m cs
  at_ : q.bl = bl ∧ fpK q cs = KR
  s1 : Sep F (Fr br q)
  s2 : Sep K (Fr br q)
  a1 : Abv N.heap.size F
  a2 : Abv N.heap.size [br, bl]
  x1 : Sep X F
  x2 : Sep X (Fr br q)
  x3 : Sep X K
  ax : Abv N.heap.size X
  lx : Blw wr X
  bk : Blw N KR
  bel : Below N.heap.size N wr
  sh : Shaped5 N
/-- the first has gone on, the second has not yet -/
def Half (N wr : World) (bm br bl : Nat) (K KR X : List Nat) (m m' : Mac) (cs : List Ins) : Prop := ∃ F q, Both N wr bm br bl K KR X F q m m' cs
abbrev Duo (N wr : World) (bm br bl : Nat) (K KR X : List Nat) (m : Mac) (cs : List Ins) : Prop := Half N wr bm br bl K KR X m m cs
section
variable {N wr : World} {bm br bl : Nat} {K KR X : List Nat} {m m' : Mac} {cs : List Ins}
theorem Half.on (h : Half N wr bm br bl K KR X m m' cs) {u : World} (k : Below wr.heap.size wr u) : Half N u bm br bl K KR X m m' cs := by
  obtain ⟨F, q, h⟩ := h
  exact ⟨F, q, { h with mc := h.mc.on k, rf := h.rf.on k, lx := fun x hx => Nat.lt_of_lt_of_le (h.lx x hx) k.size, bel := h.bel.trans (k.mono h.bel.size) }⟩
theorem Half.alloc (h : Half N wr bm br bl K KR X m m' cs) (o : Obj) : Half N (wr.alloc o) bm br bl K KR X m m' cs := h.on (below_alloc _ o)
theorem Half.same (h : Half N wr bm br bl K KR X m m' cs) {u : World} (k : Same wr u) : Half N u bm br bl K KR X m m' cs := h.on (k.below _)
theorem Half.bel (h : Half N wr bm br bl K KR X m m' cs) : Below N.heap.size N wr := by obtain ⟨F, q, h⟩ := h; exact h.bel
/-- a store into one of the blocks beside them -/
theorem Half.put (h : Half N wr bm br bl K KR X m m' cs) {g : Nat} (hg : g ∈ X) (i : Nat) (v : Value) : Half N (wr.setCell ⟨g, i, none⟩ v) bm br bl K KR X m m' cs := by
  obtain ⟨F, q, h⟩ := h
  have t := turn_set wr g i v
  have k1 : Kept (Fr br q) wr (wr.setCell ⟨g, i, none⟩ v) := t.kept (fun x hx y => by simp at y; subst y; exact h.x2 _ hg hx) h.rf.lt
  have k2 : Kept (fpK q cs) wr (wr.setCell ⟨g, i, none⟩ v) := t.kept (fun x hx y => by simp at y; subst y; rw [h.at_.2] at hx; exact absurd (h.bk _ hx) (Nat.not_lt.2 (h.ax _ hg))) h.rf.ltk
  refine ⟨F, q, { h with mc := h.mc.turn t (fun x hx y => by simp at y; subst y; exact h.x1 _ hg hx) (fun x hx y => by simp at y; subst y; exact h.x3 _ hg hx), rf := h.rf.keep k1 k2, lx := fun x hx => Nat.lt_of_lt_of_le (h.lx x hx) t.size, bel := h.bel.setCell (h.ax g hg) v }⟩
/-- the program's machine has gone on, whatever it had come to -/
theorem Both.goes {F : List Nat} {q : Rp} {m1 : Mac} (h : Both N wr bm br bl K KR X F q m m1 cs) {u : World} {m' : Mac} (g : Gm wr F bm K u m') : ∃ F', Both N u bm br bl K KR X F' q m m' cs ∧ Turn F F' wr u := by
  obtain ⟨F', hM, t⟩ := g.mc
  have k1 : Kept (Fr br q) wr u := t.kept h.s1.symm h.rf.lt
  have k2 : Kept (fpK q cs) wr u := t.kept (fun x hx y => absurd (h.bk x (by rw [← h.at_.2]; exact hx)) (Nat.not_lt.2 (h.a1 x y))) h.rf.ltk
  exact ⟨F', { h with mc := hM, rf := h.rf.keep k1 k2, s1 := (h.s1.symm.turn h.rf.lt t).symm, a1 := h.a1.turn h.bel.size t, x1 := h.x1.turn h.lx t, lx := fun x hx => Nat.lt_of_lt_of_le (h.lx x hx) t.size, bel := h.bel.trans (t.below h.a1 h.bel.size) }, t⟩
theorem Both.first {F : List Nat} {q : Rp} (h : Both N wr bm br bl K KR X F q m m cs) {u : World} {m' : Mac} (g : Gm wr F bm K u m') : Half N u bm br bl K KR X m m' cs ∧ Kept X wr u := by
  obtain ⟨F', h1, t⟩ := h.goes g
  exact ⟨⟨F', q, h1⟩, t.kept h.x1 h.lx⟩
/-- so has the document's -/
theorem Both.second {F : List Nat} {q : Rp} (h : Both N wr bm br bl K KR X F q m m' cs) {v : World} (g : Rg wr (Fr br q) br bl KR v m' cs) : Duo N v bm br bl K KR X m' cs ∧ Kept X wr v := by
  obtain ⟨q', k1, k2, t, k4⟩ := g
  have hb : ∀ x, x = br ∨ x = bl → x ∈ Fr br q := fun x hx => by rcases hx with rfl | rfl <;> simp [Fr, h.at_.1]
  have t1 : Sep F [br, bl] := fun x hx y => h.s1 x hx (hb x (by simpa using y))
  have t2 : Sep K [br, bl] := fun x hx y => h.s2 x hx (hb x (by simpa using y))
  have t3 : Sep X [br, bl] := fun x hx y => h.x2 x hx (hb x (by simpa using y))
  refine ⟨⟨F, q', { h with mc := h.mc.turn t t1 t2, rf := k1, at_ := k2, s1 := fun x hx y => ?_, s2 := fun x hx y => ?_, x2 := fun x hx y => ?_, lx := fun x hx => Nat.lt_of_lt_of_le (h.lx x hx) t.size, bel := h.bel.trans (t.below h.a2 h.bel.size) }⟩, t.kept t3 h.lx⟩
  · exact (k4 x y).elim (h.s1 x hx) (fun z => absurd (h.mc.blw x hx) (Nat.not_lt.2 z))
  · exact (k4 x y).elim (h.s2 x hx) (fun z => absurd (h.mc.blwK x hx) (Nat.not_lt.2 z))
  · exact (k4 x y).elim (h.x2 x hx) (fun z => absurd (h.lx x hx) (Nat.not_lt.2 z))
theorem Both.tab {F : List Nat} {q : Rp} (h : Both N wr bm br bl K KR X F q m m' cs) : TabAt wr F :=
  ⟨h.sh.on h.bel, fun z => absurd (World.block_lt_of_cell? N _ (h.sh.shp 0 (by omega)).1) (Nat.not_lt.2 (h.a1 _ z))⟩
/-- the program's step, then the document's -/
theorem Duo.step (h : Duo N wr bm br bl K KR X m cs) (hI : Inv m) : Calls Tryz.prog 104 #[.pointer (some ⟨bm, 0, none⟩)] wr fun e u => e = .returned (askV (stepM m).2) ∧ Half N u bm br bl K KR X m (stepM m).1 cs ∧ Kept X wr u := by
  obtain ⟨F, q, h⟩ := h
  exact (step_any h.mc.gm h.tab hI).mono fun e u ⟨b1, b2⟩ => ⟨b1, h.first b2⟩
theorem Half.step {u : World} {m : Mac} (h : Half N u bm br bl K KR X m (stepM m).1 cs) (hI : Inv m) : Calls Tryz.prog 48 #[.pointer (some ⟨br, 0, none⟩)] u fun e v => e = .returned (askV (stepM m).2) ∧ Duo N v bm br bl K KR X (stepM m).1 cs ∧ Kept X u v := by
  obtain ⟨F, q, h⟩ := h
  exact (rstep_any ⟨q, h.rf, h.at_, Turn.refl _ _, fun x hx => .inl hx⟩ hI).mono fun e v ⟨b1, b2⟩ => ⟨b1, h.second b2⟩
theorem Duo.give (h : Duo N wr bm br bl K KR X m cs) (hI : Inv m) (x : Nat) : Calls Tryz.prog 106 #[.pointer (some ⟨bm, 0, none⟩), .float .f64 x] wr fun e u => e = .returned (.int .i64 (giveE m)) ∧ Half N u bm br bl K KR X m (giveM m x) cs ∧ Kept X wr u := by
  obtain ⟨F, q, h⟩ := h
  exact (give_any h.mc.gm hI x).mono fun e u ⟨b1, b2⟩ => ⟨b1, h.first b2⟩
theorem Half.give {u : World} {m : Mac} {x : Nat} (h : Half N u bm br bl K KR X m (giveM m x) cs) (hI : Inv m) : Calls Tryz.prog 86 #[.pointer (some ⟨br, 0, none⟩), .float .f64 x] u fun e v => e = .returned (.int .i64 (giveE m)) ∧ Duo N v bm br bl K KR X (giveM m x) cs ∧ Kept X u v := by
  obtain ⟨F, q, h⟩ := h
  exact (rgive_any ⟨q, h.rf, h.at_, Turn.refl _ _, fun x hx => .inl hx⟩ hI x).mono fun e v ⟨b1, b2⟩ => ⟨b1, h.second b2⟩
end
end Go.Proofs.YtninicfnhoediaaGreatDoor
