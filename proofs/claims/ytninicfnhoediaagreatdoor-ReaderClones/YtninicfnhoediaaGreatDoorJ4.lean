import Derived.Test.YtninicfnhoediaaGreatDoorJ3
import Derived.Test.YtninicfnhoediaaGreatDoorJ2
import Derived.Laws.MakeOwn
import Derived.Deep.AppendSrc
import Derived.Deep.MidRow
import Derived.Deep.RegionLaw
import Derived.Maps.AppendAt
import Derived.Test.YtninicfnhoediaaGreatDoorTw
import Derived.Deep.CutBlock
import Derived.Deep.DeepCutAuto
import Derived.Test.YtninicfnhoediaaGreatDoorJ1
namespace Go.Proofs.YtninicfnhoediaaGreatDoor
open Go.ChangeShapes Go.WideShapes Go.ChangeAt Go.RowKit Num
attribute [local go_sem] run_store_float
structure Fit (m : Mac) : Prop where
  st : ∀ x ∈ m.st, okN x
  high : m.st.length ≤ 64
  cells : m.cells ≤ 256
  reads : m.reads.length ≤ 1024
  out : m.out.length ≤ 1024
  buf : m.buf.length ≤ 32
  few : (m.buf.length : Int) ≤ m.wmax
  deep : m.calls.length ≤ 16
  how : m.how = 0
  err : m.err = 0
theorem fit_of {m : Mac} (h : Inv m) (h0 : m.how = 0) : Fit m := by
  have h1 := h.high
  have h2 := h.used
  have h3 := h.fuel
  have h4 := h.reads
  have h5 := h.out
  have h6 := h.few
  have h7 := h.wmax
  refine ⟨h.st, ?_, h.cells.2, ?_, by omega, by omega, h6, h.deep, h0, ?_⟩
  · split at h1 <;> omega
  · split at h4 <;> omega
  · have := h.fail
    by_cases e : m.err = 0
    · exact e
    · have := this.2 e
      omega
theorem fit_begun {m : Mac} (h : Fit m) : Fit (begM m) := ⟨h.st, h.high, h.cells, h.reads, h.out, h.buf, h.few, h.deep, h.how, h.err⟩
theorem two_of {l : List Nat} (h : 2 ≤ l.length) : ∃ y z s, l = y :: z :: s := by
  match l, h with
  | y :: z :: s, _ => exact ⟨y, z, s, rfl⟩
theorem one_of {l : List Nat} (h : 1 ≤ l.length) : ∃ y s, l = y :: s := by
  match l, h with
  | y :: s, _ => exact ⟨y, s, rfl⟩
section
variable {W w : World} {br bl : Nat} {F0 K : List Nat} {m : Mac} {cs : List Ins}
theorem rread_any (h : Rg W F0 br bl K w m cs) (hf : Fit m) {y : Nat} {s : List Nat} (hs : m.st = y :: s) : Calls Tryz.prog 129 #[.pointer (some ⟨br, 0, none⟩)] w fun r w' => r = .returned (askV (readM m).2) ∧ Rg W F0 br bl K w' (readM m).1 cs := by
  have hy : okN y := hf.st y (by rw [hs]; simp)
  unfold readM
  cases ha : addrB m with
  | false => exact rread_no h hs hf.high hy.2 ha
  | true =>
    have e : m.st.drop 1 = s := by rw [hs]; rfl
    cases hh : hasC m.buf (addrV m) with
    | false =>
      rw [if_pos rfl, if_neg Bool.false_ne_true, e]
      exact rread_wait h hs hf.high hy.2 hf.buf ha hh
    | true =>
      rw [if_pos rfl, if_pos rfl, e]
      exact rread_own h hs hf.high hy.2 hf.buf hf.reads ha hh
theorem rwrite_any (h : Rg W F0 br bl K w m cs) (hf : Fit m) {y z : Nat} {s : List Nat} (hs : m.st = y :: z :: s) : Calls Tryz.prog 130 #[.pointer (some ⟨br, 0, none⟩)] w fun r w' => r = .returned (askV (writeM m).2) ∧ Rg W F0 br bl K w' (writeM m).1 cs := by
  have hy : okN y := hf.st y (by rw [hs]; simp)
  unfold writeM
  cases hu : m.upd with
  | false => exact rwrite_ro h hu
  | true =>
    cases ha : addrB m with
    | false => exact rwrite_no h hs hf.high hy.2 hu ha
    | true =>
      have e : m.st.drop 2 = s := by rw [hs]; rfl
      have e2 : m.st.getD 1 0 = z := by rw [hs]; rfl
      rw [if_pos rfl, if_pos rfl, e, e2]
      cases hh : hasC m.buf (addrV m) with
      | false =>
        by_cases hfull : (m.buf.length : Int) = m.wmax
        · have hp : mayP m.wmax m.buf (addrV m) = false := by unfold mayP; rw [hh]; simp; omega
          rw [hp]
          exact rwrite_full h hs hf.high hy.2 hf.buf hu ha hh hfull
        · have hp : mayP m.wmax m.buf (addrV m) = true := by unfold mayP; rw [hh]; simp; have := hf.few; omega
          rw [hp, if_pos rfl]
          have := rwrite_first h hs hf.high hy.2 hf.buf hu ha hh hfull
          rw [hu] at this
          exact this
      | true =>
        have hp : mayP m.wmax m.buf (addrV m) = true := by unfold mayP; rw [hh]; rfl
        rw [hp, if_pos rfl]
        have := rwrite_again h hs hf.high hy.2 hf.buf hu ha hh
        rw [hu] at this
        exact this
set_option maxHeartbeats 1000000 in
theorem rdo_any (h : Rg W F0 br bl K w m cs) (hf : Fit m) {k many : Nat} {n : Int} {x : Nat} (hi : mayB ⟨k, n, x⟩ many = true) (hro : roomB m ⟨k, n, x⟩ = true) : Calls Tryz.prog 90 #[.pointer (some ⟨br, 0, none⟩), insV ⟨k, n, x⟩] w fun r w' => r = .returned (askV (doM m ⟨k, n, x⟩).2) ∧ Rg W F0 br bl K w' (doM m ⟨k, n, x⟩).1 cs := by
  obtain ⟨hk, hlo, hhi⟩ := fits_parts hi
  clear hi
  unfold roomB at hro
  simp only [Bool.and_eq_true, decide_eq_true_eq] at hro
  obtain ⟨⟨r1, r2⟩, _⟩ := hro
  have hkk : k = 1 ∨ k = 2 ∨ k = 3 ∨ k = 4 ∨ k = 5 ∨ k = 6 ∨ k = 7 ∨ k = 8 ∨ k = 9 ∨ k = 10 ∨ k = 11 ∨ k = 12 ∨ k = 13 ∨ k = 14 ∨ k = 15 ∨ k = 16 ∨ k = 17 ∨ k = 18 ∨ k = 19 ∨ k = 20 := by omega
  have hs2 := hf.high
  rcases hkk with rfl | rfl | rfl | rfl | rfl | rfl | rfl | rfl | rfl | rfl | rfl | rfl | rfl | rfl | rfl | rfl | rfl | rfl | rfl | rfl
  · have r2' : (m.st.length : Int) - 0 + 1 ≤ 64 := r2
    exact rdo_push h (by omega)
  · have r1' : (1 : Int) ≤ (m.st.length : Int) := r1
    obtain ⟨y, s, hs⟩ := one_of (l := m.st) (by omega)
    have := rdo_drop h (n := n) (x := x) hs hs2
    rw [show s = m.st.drop 1 by rw [hs]; rfl] at this
    exact this
  · have r1' : (1 : Int) ≤ (m.st.length : Int) := r1
    obtain ⟨y, s, hs⟩ := one_of (l := m.st) (by omega)
    have := rdo_dup h (n := n) (x := x) hs hs2
    rw [show y = m.st.getD 0 0 by rw [hs]; rfl] at this
    exact this
  · have r1' : (2 : Int) ≤ (m.st.length : Int) := r1
    obtain ⟨y, z, s, hs⟩ := two_of (l := m.st) (by omega)
    have := rdo_swap h (n := n) (x := x) hs hs2
    have e : doM m ⟨(4 : Nat), n, x⟩ = ({ m with st := z :: y :: s }, ask0) := by
      show ({ m with st := m.st.getD 1 0 :: m.st.getD 0 0 :: m.st.drop 2 }, ask0) = _
      rw [hs]
      rfl
    rw [e]
    exact this
  · have r1' : n + 1 ≤ (m.st.length : Int) := r1
    have h0 : 0 ≤ n := hlo
    obtain ⟨q, rfl⟩ : ∃ q : Nat, n = q := ⟨n.toNat, by omega⟩
    exact rdo_pick h (k := q) rfl (by omega) hs2
  · have h0 : 0 ≤ n := hlo
    have h7 : n ≤ 7 := hhi
    obtain ⟨q, rfl⟩ : ∃ q : Nat, n = q := ⟨n.toNat, by omega⟩
    have r2' : (m.st.length : Int) - 0 + 1 ≤ 64 := r2
    exact rdo_arg h (k := q) rfl (by omega) (by omega)
  · have h0 : 0 ≤ n := hlo
    have h7 : n ≤ 7 := hhi
    obtain ⟨q, rfl⟩ : ∃ q : Nat, n = q := ⟨n.toNat, by omega⟩
    have r2' : (m.st.length : Int) - 0 + 1 ≤ 64 := r2
    exact rdo_get h (k := q) rfl (by omega) (by omega)
  · have h0 : 0 ≤ n := hlo
    have h7 : n ≤ 7 := hhi
    obtain ⟨q, rfl⟩ : ∃ q : Nat, n = q := ⟨n.toNat, by omega⟩
    have r1' : (1 : Int) ≤ (m.st.length : Int) := r1
    obtain ⟨y, s, hs⟩ := one_of (l := m.st) (by omega)
    have := rdo_set h (x := x) (n := q) rfl (by omega) hs hs2
    have e : doM m ⟨(8 : Nat), q, x⟩ = ({ m with loc := updF m.loc q y, st := s }, ask0) := by
      show ({ m with loc := updF m.loc q (m.st.getD 0 0), st := m.st.drop 1 }, ask0) = _
      rw [hs]
      rfl
    rw [e]
    exact this
  · have h0 : 1 ≤ n := hlo
    have h7 : n ≤ 8 := hhi
    have r1' : (1 : Int) ≤ (m.st.length : Int) := r1
    obtain ⟨y, s, hs⟩ := one_of (l := m.st) (by omega)
    have := rdo_one h (x := x) (n := n) ⟨h0, h7⟩ hs hs2 (hf.st y (by rw [hs]; simp))
    have e : doM m ⟨(9 : Nat), n, x⟩ = ({ m with st := oneV n y :: s }, ask0) := by
      show ({ m with st := oneV n (m.st.getD 0 0) :: m.st.drop 1 }, ask0) = _
      rw [hs]
      rfl
    rw [e]
    exact this
  · have h0 : 1 ≤ n := hlo
    have h7 : n ≤ 12 := hhi
    have r1' : (2 : Int) ≤ (m.st.length : Int) := r1
    obtain ⟨y, z, s, hs⟩ := two_of (l := m.st) (by omega)
    have := rdo_two h (x := x) (n := n) ⟨h0, h7⟩ hs hs2 (hf.st y (by rw [hs]; simp)) (hf.st z (by rw [hs]; simp))
    have e : doM m ⟨(10 : Nat), n, x⟩ = ({ m with st := twoV n z y :: s }, ask0) := by
      show ({ m with st := twoV n (m.st.getD 1 0) (m.st.getD 0 0) :: m.st.drop 2 }, ask0) = _
      rw [hs]
      rfl
    rw [e]
    exact this
  · exact rdo_jump h
  · have r1' : (1 : Int) ≤ (m.st.length : Int) := r1
    obtain ⟨y, s, hs⟩ := one_of (l := m.st) (by omega)
    have e : doM m ⟨(12 : Nat), n, x⟩ = ({ m with place := if trueB y then n else m.place, st := s }, ask0) := by
      show ({ m with place := if trueB (m.st.getD 0 0) then n else m.place, st := m.st.drop 1 }, ask0) = _
      rw [hs]
      rfl
    rw [e]
    cases hy : trueB y with
    | true => exact rdo_if1 h hs hs2 hy
    | false => exact rdo_if0 h hs hs2 hy
  · have r1' : (1 : Int) ≤ (m.st.length : Int) := r1
    obtain ⟨y, s, hs⟩ := one_of (l := m.st) (by omega)
    have e : doM m ⟨(13 : Nat), n, x⟩ = ({ m with place := if trueB y then m.place else n, st := s }, ask0) := by
      show ({ m with place := if trueB (m.st.getD 0 0) then m.place else n, st := m.st.drop 1 }, ask0) = _
      rw [hs]
      rfl
    rw [e]
    cases hy : trueB y with
    | true => exact rdo_un1 h hs hs2 hy
    | false => exact rdo_un0 h hs hs2 hy
  · exact rdo_call h (by have := hf.deep; omega)
  · show Calls _ _ _ _ fun r w' => r = .returned (askV (retM m).2) ∧ Rg W F0 br bl K w' (retM m).1 cs
    cases hc : m.calls with
    | nil =>
      rw [retM_nil hc]
      exact rdo_ret0 h hf.how hf.err hc
    | cons c q =>
      rw [retM_cons hc]
      exact rdo_ret h hc hf.deep
  · have r1' : (1 : Int) ≤ (m.st.length : Int) := r1
    obtain ⟨y, s, hs⟩ := one_of (l := m.st) (by omega)
    exact rdo_read h (fun F u hu => rread_any hu hf hs)
  · have r1' : (2 : Int) ≤ (m.st.length : Int) := r1
    obtain ⟨y, z, s, hs⟩ := two_of (l := m.st) (by omega)
    exact rdo_write h (fun F u hu => rwrite_any hu hf hs)
  · have r1' : (1 : Int) ≤ (m.st.length : Int) := r1
    obtain ⟨y, s, hs⟩ := one_of (l := m.st) (by omega)
    have e : doM m ⟨(18 : Nat), n, x⟩ = ({ m with out := m.out ++ [y], st := s }, ask0) := by
      show ({ m with out := m.out ++ [m.st.getD 0 0], st := m.st.drop 1 }, ask0) = _
      rw [hs]
      rfl
    rw [e]
    exact rdo_emit h hs hs2 hf.out
  · exact rdo_abort h
  · exact rdo_halt h hf.how hf.err
end
end Go.Proofs.YtninicfnhoediaaGreatDoor
namespace Go.Proofs.YtninicfnhoediaaGreatDoor
open Go.ChangeShapes Go.WideShapes Go.ChangeAt Go.RowKit Num
attribute [local go_sem] run_store_float
section
variable {W w : World} {br bl : Nat} {F0 K : List Nat} {m : Mac} {cs : List Ins}
theorem Rg.looks (h : Rg W F0 br bl K w m cs) : ∃ (bad : Bool) (pk : Option Addr) (ck : Nat), (w.cell? ⟨br, 2, none⟩ = some (.int .i64 m.fuel) ∧ w.cell? ⟨br, 5, none⟩ = some (.slice pk cs.length ck) ∧ w.cell? ⟨br, 6, none⟩ = some (.bool bad) ∧ w.cell? ⟨br, 11, none⟩ = some (.int .i64 m.place) ∧ w.cell? ⟨br, 12, none⟩ = some (.int .i64 m.used) ∧ w.cell? ⟨br, 13, none⟩ = some (.int .i64 m.wait) ∧ w.cell? ⟨br, 14, none⟩ = some (.int .i64 m.how)) ∧ (w.frozen? ⟨br, 11, none⟩ = false ∧ w.frozen? ⟨br, 12, none⟩ = false ∧ br < w.heap.size) ∧ ((bad = false ∧ m.code = cs) ∨ (bad = true ∧ m.code = [])) ∧ CodeAt w pk cs := by
  obtain ⟨q, hr, _⟩ := h
  exact ⟨q.bad, q.pk, q.ck, ⟨(hr.cell 2).trans rfl, by rw [← hr.nk]; exact (hr.cell 5).trans rfl, (hr.cell 6).trans rfl, (hr.cell 11).trans rfl, (hr.cell 12).trans rfl, (hr.cell 13).trans rfl, (hr.cell 14).trans rfl⟩, ⟨hr.free 11, hr.free 12, hr.ltB⟩, hr.bad, hr.cod⟩
theorem Rg.begun (h : Rg W F0 br bl K w m cs) : Rg W F0 br bl K ((w.setCell ⟨br, 12, none⟩ (.int .i64 (m.used + 1))).setCell ⟨br, 11, none⟩ (.int .i64 (m.place + 1))) (begM m) cs := by
  have g1 := h.set 12 (.int .i64 (m.used + 1)) { m with used := m.used + 1 } (fun q => rfl) ⟨rfl, rfl, rfl, rfl, rfl, rfl, rfl, rfl, rfl⟩ id
  exact g1.set 11 (.int .i64 (m.place + 1)) (begM m) (fun q => rfl) ⟨rfl, rfl, rfl, rfl, rfl, rfl, rfl, rfl, rfl⟩ id
set_option maxRecDepth 100000 in
set_option maxHeartbeats 1000000 in
theorem rstep_waits (h : Rg W F0 br bl K w m cs) (hw : 0 ≤ m.wait) : Calls Tryz.prog 48 #[.pointer (some ⟨br, 0, none⟩)] w fun r w' => r = .returned (askV (askRead m.wait)) ∧ Rg W F0 br bl K w' m cs := by
  obtain ⟨bad, pk, ck, ⟨e1, e2, e3, e4, e5, e6, e7⟩, ⟨f1, f2, f3⟩, _, _⟩ := h.looks
  have G9 := Lib.hid h
  clear h
  go_enter Tryz.func48, Tryz.ntmps48
  go_wp2
  exact ask_back rfl w.heap.size (askRead m.wait) rfl (heap_new (by simp)) rfl ⟨rfl, G9.out.alloc _⟩
set_option maxRecDepth 100000 in
set_option maxHeartbeats 1000000 in
theorem rstep_over (h : Rg W F0 br bl K w m cs) (hw : ¬ 0 ≤ m.wait) (hh : ¬ m.how = 0) : Calls Tryz.prog 48 #[.pointer (some ⟨br, 0, none⟩)] w fun r w' => r = .returned (askV askEnd) ∧ Rg W F0 br bl K w' m cs := by
  obtain ⟨bad, pk, ck, ⟨e1, e2, e3, e4, e5, e6, e7⟩, ⟨f1, f2, f3⟩, _, _⟩ := h.looks
  have G9 := Lib.hid h
  clear h
  go_enter Tryz.func48, Tryz.ntmps48
  go_wp2
  exact ask_back rfl w.heap.size askEnd rfl (heap_new (by simp)) rfl ⟨rfl, G9.out.alloc _⟩
theorem Rg.failN (h : Rg W F0 br bl K w m cs) (e : Int) : ∃ F, (∀ n, Calls Tryz.prog 88 #[.pointer (some ⟨br, 0, none⟩), .int .i64 e] ((w.alloc (askO ask0)).drewN n) fun r w' => r = .returned (askV askEnd) ∧ Rg (w.alloc (askO ask0)) F br bl K w' (failM m e).1 cs) ∧ ∀ u m', Rg (w.alloc (askO ask0)) F br bl K u m' cs → u.heap[w.heap.size]? = some (askO ask0) ∧ ∀ u', Turn [w.heap.size] [w.heap.size] u u' → Rg W F0 br bl K u' m' cs := by
  obtain ⟨F, h1, hX⟩ := h.leave (askO ask0)
  exact ⟨F, fun n => rfails_any (h1.same (Same.drewN _ n)) e, hX⟩
set_option maxRecDepth 100000 in
set_option maxHeartbeats 1000000 in
theorem rstep_bad (h : Rg W F0 br bl K w m cs) (hw : ¬ 0 ≤ m.wait) (hh : m.how = 0) (hb : ∃ pk ck, w.cell? ⟨br, 5, none⟩ = some (.slice pk cs.length ck) ∧ w.cell? ⟨br, 6, none⟩ = some (.bool true)) : Calls Tryz.prog 48 #[.pointer (some ⟨br, 0, none⟩)] w fun r w' => r = .returned (askV askEnd) ∧ Rg W F0 br bl K w' (failM m 50).1 cs := by
  obtain ⟨bad, pk, ck, ⟨e1, e2, e3, e4, e5, e6, e7⟩, ⟨f1, f2, f3⟩, _, _⟩ := h.looks
  obtain ⟨pk', ck', _, e3'⟩ := hb
  rw [e3] at e3'
  cases e3'
  obtain ⟨F, hF, hX⟩ := h.failN 50
  have HX := Lib.hid hX
  have HFA : Hid (Calls Tryz.prog 88 #[.pointer (some ⟨br, 0, none⟩), .int .i64 50] (w.alloc (askO ask0)) fun r w' => r = .returned (askV askEnd) ∧ Rg (w.alloc (askO ask0)) F br bl K w' (failM m 50).1 cs) := hF 0
  clear h hF hX
  go_enter Tryz.func48, Tryz.ntmps48
  go_wp2_with (go_at_call 88; refine HFA.out.mono ?_; rintro e u1 ⟨rfl, q⟩; obtain ⟨r1, r2⟩ := HX.out _ _ q; obtain ⟨⟨c0, c1, c2, c3, c4⟩, d0, d1, d2, d3⟩ := askO_cells r1; have G1 := Lib.hid (And.intro r1 r2); clear q r1 r2; unfold askV)
  exact ask_back rfl w.heap.size askEnd rfl (askO_set G1.out.1) rfl ⟨rfl, G1.out.2 _ (turn4 _ _ _ _ _ _)⟩
set_option maxRecDepth 100000 in
set_option maxHeartbeats 1000000 in
theorem rstep_fuel (h : Rg W F0 br bl K w m cs) (hw : ¬ 0 ≤ m.wait) (hh : m.how = 0) (hc : w.cell? ⟨br, 6, none⟩ = some (.bool false)) (hf : m.used = m.fuel) : Calls Tryz.prog 48 #[.pointer (some ⟨br, 0, none⟩)] w fun r w' => r = .returned (askV askEnd) ∧ Rg W F0 br bl K w' (failM m 80).1 cs := by
  obtain ⟨bad, pk, ck, ⟨e1, e2, e3, e4, e5, e6, e7⟩, ⟨f1, f2, f3⟩, _, _⟩ := h.looks
  rw [e3] at hc
  cases hc
  obtain ⟨F, hF, hX⟩ := h.failN 80
  have HX := Lib.hid hX
  have HFA := Lib.hid hF
  rw [← hf] at e1
  clear h hF hX hf
  generalize m.used = us at *
  go_enter Tryz.func48, Tryz.ntmps48
  go_wp2
  go_quiet (fail)
  go_wp2_with (go_at_call 88; refine (HFA.out _).mono ?_; rintro e u1 ⟨rfl, q⟩; obtain ⟨r1, r2⟩ := HX.out _ _ q; obtain ⟨⟨c0, c1, c2, c3, c4⟩, d0, d1, d2, d3⟩ := askO_cells r1; have G1 := Lib.hid (And.intro r1 r2); clear q r1 r2; unfold askV)
  exact ask_back rfl w.heap.size askEnd rfl (askO_set G1.out.1) rfl ⟨rfl, G1.out.2 _ (turn4 _ _ _ _ _ _)⟩
set_option maxRecDepth 100000 in
set_option maxHeartbeats 1000000 in
theorem rstep_far (h : Rg W F0 br bl K w m cs) (hw : ¬ 0 ≤ m.wait) (hh : m.how = 0) (hc : w.cell? ⟨br, 6, none⟩ = some (.bool false)) (hf : ¬ m.used = m.fuel) (hp : (cs.length : Int) ≤ m.place) : Calls Tryz.prog 48 #[.pointer (some ⟨br, 0, none⟩)] w fun r w' => r = .returned (askV askEnd) ∧ Rg W F0 br bl K w' (failM m 50).1 cs := by
  obtain ⟨bad, pk, ck, ⟨e1, e2, e3, e4, e5, e6, e7⟩, ⟨f1, f2, f3⟩, _, _⟩ := h.looks
  rw [e3] at hc
  cases hc
  obtain ⟨F, hF, hX⟩ := h.failN 50
  have HX := Lib.hid hX
  have HFA := Lib.hid hF
  have hfd : (m.used == m.fuel) = false := by simpa using hf
  clear h hF hX
  generalize cs.length = n at *
  go_enter Tryz.func48, Tryz.ntmps48
  go_wp2
  go_quiet (fail)
  go_wp2
  go_quiet (fail)
  go_wp2_with (go_at_call 88; refine (HFA.out _).mono ?_; rintro e u1 ⟨rfl, q⟩; obtain ⟨r1, r2⟩ := HX.out _ _ q; obtain ⟨⟨c0, c1, c2, c3, c4⟩, d0, d1, d2, d3⟩ := askO_cells r1; have G1 := Lib.hid (And.intro r1 r2); clear q r1 r2; unfold askV)
  exact ask_back rfl w.heap.size askEnd rfl (askO_set G1.out.1) rfl ⟨rfl, G1.out.2 _ (turn4 _ _ _ _ _ _)⟩
end
end Go.Proofs.YtninicfnhoediaaGreatDoor
namespace Go.Proofs.YtninicfnhoediaaGreatDoor
open Go.ChangeShapes Go.WideShapes Go.ChangeAt Go.RowKit Num
attribute [local go_sem] run_store_float
theorem wpSeqE_end {P : Program} {ops : Array Oper} {Q : Exit → Act → World → Prop} {S : World → Prop} {a : Act} {w : World} (h : ∀ u, u = w → Q .normal a u) : wpSeqE P ops Q S [] a w := h w rfl
section
variable {W w : World} {br bl : Nat} {F0 K : List Nat} {m : Mac} {cs : List Ins}
set_option maxRecDepth 100000 in
set_option maxHeartbeats 2000000 in
theorem rstep_do (h : Rg W F0 br bl K w m cs) (hI : Inv m) (hw : ¬ 0 ≤ m.wait) (hh : m.how = 0) (hc : w.cell? ⟨br, 6, none⟩ = some (.bool false)) (hf : ¬ m.used = m.fuel) (hcs : m.code = cs) {k : Nat} (hk0 : m.place = k) (hp : k < cs.length) : Calls Tryz.prog 48 #[.pointer (some ⟨br, 0, none⟩)] w fun r w' => r = .returned (askV (if roomB (begM m) (ci cs k) then doM (begM m) (ci cs k) else failM (begM m) 82).2) ∧ Rg W F0 br bl K w' (if roomB (begM m) (ci cs k) then doM (begM m) (ci cs k) else failM (begM m) 82).1 cs := by
  obtain ⟨bad, pk, ck, ⟨e1, e2, e3, e4, e5, e6, e7⟩, ⟨f1, f2, f3⟩, _, hcode⟩ := h.looks
  rw [e3] at hc
  cases hc
  obtain ⟨g, o, hpk, hg, j0, j1, j2⟩ := hcode k hp
  have hmay := hI.may k (by rw [hcs]; exact hp)
  rw [hcs] at hmay
  have hlen : cs.length ≤ 1024 := by rw [← hcs]; exact hI.len
  have hus := hI.used
  have hfu := hI.fuel
  have hFit := fit_begun (fit_of hI hh)
  rw [hpk] at e2
  rw [hk0] at e4
  rcases hci : ci cs k with ⟨op, n0, x0⟩
  rw [hci] at j0 j1 j2 hmay
  obtain ⟨p, rfl⟩ : ∃ p : Nat, op = p := ⟨op.toNat, by have := hmay.1; unfold mayB knownB at this; simp at this; omega⟩
  obtain ⟨F, h1, hX⟩ := h.leave (askO ask0)
  have HX := Lib.hid hX
  have hn : 0 ≤ n0 ∧ n0 ≤ 1023 := by
    obtain ⟨⟨q1, q2⟩, q3, q4⟩ := fits_parts hmay.1
    have q5 : ∀ j, j < 21 → 0 ≤ (shp j).lo ∧ (shp j).hi ≤ 1023 := by decide
    have := q5 p q2
    omega
  have HRO : Hid (∀ u, Rg (w.alloc (askO ask0)) F br bl K u (begM m) cs → Calls Tryz.prog 89 #[.pointer (some ⟨br, 0, none⟩), insV ⟨p, n0, x0⟩] u fun e w' => e = .returned (.bool (roomB (begM m) ⟨p, n0, x0⟩)) ∧ Below u.heap.size u w') := fun u hu => rroom_any hu (fits_parts hmay.1).1 hFit.high hFit.deep hn
  have HDO : Hid (roomB (begM m) ⟨p, n0, x0⟩ = true → ∀ u, Rg (w.alloc (askO ask0)) F br bl K u (begM m) cs → Calls Tryz.prog 90 #[.pointer (some ⟨br, 0, none⟩), insV ⟨p, n0, x0⟩] u fun r w' => r = .returned (askV (doM (begM m) ⟨p, n0, x0⟩).2) ∧ Rg (w.alloc (askO ask0)) F br bl K w' (doM (begM m) ⟨p, n0, x0⟩).1 cs) := fun hro u hu => rdo_any hu hFit hmay.1 hro
  have HFA : Hid (∀ u, Rg (w.alloc (askO ask0)) F br bl K u (begM m) cs → Calls Tryz.prog 88 #[.pointer (some ⟨br, 0, none⟩), .int .i64 82] u fun r w' => r = .returned (askV askEnd) ∧ Rg (w.alloc (askO ask0)) F br bl K w' (failM (begM m) 82).1 cs) := fun u hu => rfails_any hu 82
  have HBG : Hid (∀ u, Rg (w.alloc (askO ask0)) F br bl K u m cs → (u.cell? ⟨br, 12, none⟩ = some (.int .i64 m.used) ∧ u.cell? ⟨br, 11, none⟩ = some (.int .i64 (k : Int)) ∧ u.frozen? ⟨br, 11, none⟩ = false ∧ u.frozen? ⟨br, 12, none⟩ = false ∧ br < u.heap.size) ∧ Hid (Rg (w.alloc (askO ask0)) F br bl K ((u.setCell ⟨br, 12, none⟩ (.int .i64 (m.used + 1))).setCell ⟨br, 11, none⟩ (.int .i64 ((k : Int) + 1))) (begM m) cs)) := fun u hu => by
    obtain ⟨_, _, _, ⟨_, _, _, z4, z5, _, _⟩, ⟨z6, z7, z8⟩, _, _⟩ := hu.looks
    rw [hk0] at z4
    refine ⟨⟨z5, z4, z6, z7, z8⟩, ?_⟩
    have := hu.begun
    rw [hk0] at this
    exact this
  have G0 := Lib.hid h1
  have HS : Hid (∀ u, Below w.heap.size w u → u.cell? ⟨br, 5, none⟩ = some (.slice (some ⟨g, o, none⟩) cs.length ck) ∧ u.cell? ⟨br, 11, none⟩ = some (.int .i64 (k : Int)) ∧ u.cell? ⟨g, o + k * 3, none⟩ = some (.int .i64 p) ∧ u.cell? ⟨g, o + k * 3 + 1, none⟩ = some (.int .i64 n0) ∧ u.cell? ⟨g, o + k * 3 + 2, none⟩ = some (.float .f64 x0)) := fun u hu => ⟨(hu.cell (p := ⟨br, 5, none⟩) f3).trans e2, (hu.cell (p := ⟨br, 11, none⟩) f3).trans e4, (hu.cell (p := ⟨g, o + k * 3, none⟩) hg).trans j0, (hu.cell (p := ⟨g, o + k * 3 + 1, none⟩) hg).trans j1, (hu.cell (p := ⟨g, o + k * 3 + 2, none⟩) hg).trans j2⟩
  have hkn : (k : Int) < (cs.length : Int) := by omega
  have hkn2 : ¬ (cs.length : Int) ≤ (k : Int) := by omega
  have hfd : (m.used == m.fuel) = false := by simpa using hf
  clear h h1 hX hmay hFit hcode hI hpk hk0 hn hcs
  generalize cs.length = n at *
  clear hci
  cases hro : roomB (begM m) ⟨p, n0, x0⟩
  · rw [if_neg Bool.false_ne_true]
    rw [hro] at HRO
    clear hro HDO
    go_enter Tryz.func48, Tryz.ntmps48
    go_wp2
    go_quiet (fail)
    go_wp2
    go_quiet (fail)
    go_wp2
    refine wp_region_seqE (fun u => u.cell? ⟨br, 5, none⟩ = some (.slice (some ⟨g, o, none⟩) n ck) ∧ u.cell? ⟨br, 11, none⟩ = some (.int .i64 (k : Int)) ∧ u.cell? ⟨g, o + k * 3, none⟩ = some (.int .i64 p) ∧ u.cell? ⟨g, o + k * 3 + 1, none⟩ = some (.int .i64 n0) ∧ u.cell? ⟨g, o + k * 3 + 2, none⟩ = some (.float .f64 x0)) ((0, true) :: (1, true) :: (2, true) :: (3, true) :: (4, true) :: (5, true) :: (6, true) :: (7, true) :: (8, true) :: (9, true) :: (10, true) :: (11, false) :: (12, false) :: []) (by kernel_rfl) (by kernel_rfl) (fun _ _ _ _ _ h => h) (HS.out _ ((((below_alloc w (askO ask0)).trans ((Same.drewN _ _).below _)).trans ((Same.drewN _ _).below _)).trans ((Same.drew _).below _))) ?_
    repeat (first
      | (refine wpSeqE_take (v := ?_) rfl (by rfl) (fun wq hSq => ?_) ?_; rotate_left; (focus ((try dsimp only at hSq); go_simp; try with_reducible rfl)); simp only [Act.put, List.setIfInBounds_toArray, List.set_cons_zero, List.set_cons_succ]))
    refine wpSeqE_do rfl (by rfl) (fun K hK => ?_)
    go_simp
    refine hK.out _ _ (fun _ => HS.out _ (bl_new ((below_alloc w (askO ask0)).trans ((Same.drewN _ _).below _)) _)) ?_
    clear hK K
    try simp only [Act.put, List.setIfInBounds_toArray, List.set_cons_zero, List.set_cons_succ]
    refine wpSeqE_do rfl (by rfl) (fun K hK => ?_)
    go_simp
    refine hK.out _ _ (fun z => absurd rfl z) ?_
    clear hK K
    refine wpSeqE_end (fun u hu => ?_)
    have hG : Rg (w.alloc (askO ask0)) F br bl K u m cs := by rw [hu]; exact (G0.out.same (Same.drewN _ _)).alloc (insO ⟨p, n0, x0⟩)
    have hI1 : u.heap[w.heap.size + 1]? = some (insO ⟨p, n0, x0⟩) := by rw [hu]; exact heap_new (by simp)
    clear hu
    obtain ⟨i0, i1, i2, i3⟩ := cells3_of hI1
    obtain ⟨⟨z1, z2, z3, z4, z5⟩, G2⟩ := HBG.out u hG
    have hne : br ≠ w.heap.size + 1 := by omega
    have hI2 : Hid (((u.setCell ⟨br, 12, none⟩ (.int .i64 (m.used + 1))).setCell ⟨br, 11, none⟩ (.int .i64 ((k : Int) + 1))).heap[w.heap.size + 1]? = some (insO ⟨p, n0, x0⟩)) := by
      show _ = _
      rw [heap_setCell_other _ _ _ _ (by simp; omega), heap_setCell_other _ _ _ _ (by simp; omega)]
      exact hI1
    clear hG hI1 HBG
    go_wp2_with (first
      | (go_at_call 88; refine (HFA.out _ G3.out).mono ?_; rintro e u4 ⟨rfl, q⟩; obtain ⟨r1, r2⟩ := HX.out _ _ q; obtain ⟨⟨c0, c1, c2, c3, c4⟩, d0, d1, d2, d3⟩ := askO_cells r1; have G9 := Lib.hid (And.intro r1 r2); clear q r1 r2; unfold askV)
      | (go_at_call 89; refine (HRO.out _ G2.out).mono ?_; rintro e u3 ⟨rfl, q⟩; have G3 := Lib.hid (G2.out.on q); clear q))
    exact ask_back rfl w.heap.size askEnd rfl (askO_set G9.out.1) rfl ⟨rfl, G9.out.2 _ (turn4 _ _ _ _ _ _)⟩
  · rw [if_pos rfl]
    rw [hro] at HRO
    have HD2 := Lib.hid (HDO.out hro)
    clear HDO
    generalize hdm : doM (begM m) ⟨p, n0, x0⟩ = dm at *
    obtain ⟨M, ak, ac, ax, af⟩ := dm
    clear hro hdm
    go_enter Tryz.func48, Tryz.ntmps48
    go_wp2
    go_quiet (fail)
    go_wp2
    go_quiet (fail)
    go_wp2
    refine wp_region_seqE (fun u => u.cell? ⟨br, 5, none⟩ = some (.slice (some ⟨g, o, none⟩) n ck) ∧ u.cell? ⟨br, 11, none⟩ = some (.int .i64 (k : Int)) ∧ u.cell? ⟨g, o + k * 3, none⟩ = some (.int .i64 p) ∧ u.cell? ⟨g, o + k * 3 + 1, none⟩ = some (.int .i64 n0) ∧ u.cell? ⟨g, o + k * 3 + 2, none⟩ = some (.float .f64 x0)) ((0, true) :: (1, true) :: (2, true) :: (3, true) :: (4, true) :: (5, true) :: (6, true) :: (7, true) :: (8, true) :: (9, true) :: (10, true) :: (11, false) :: (12, false) :: []) (by kernel_rfl) (by kernel_rfl) (fun _ _ _ _ _ h => h) (HS.out _ ((((below_alloc w (askO ask0)).trans ((Same.drewN _ _).below _)).trans ((Same.drewN _ _).below _)).trans ((Same.drew _).below _))) ?_
    repeat (first
      | (refine wpSeqE_take (v := ?_) rfl (by rfl) (fun wq hSq => ?_) ?_; rotate_left; (focus ((try dsimp only at hSq); go_simp; try with_reducible rfl)); simp only [Act.put, List.setIfInBounds_toArray, List.set_cons_zero, List.set_cons_succ]))
    refine wpSeqE_do rfl (by rfl) (fun K hK => ?_)
    go_simp
    refine hK.out _ _ (fun _ => HS.out _ (bl_new ((below_alloc w (askO ask0)).trans ((Same.drewN _ _).below _)) _)) ?_
    clear hK K
    try simp only [Act.put, List.setIfInBounds_toArray, List.set_cons_zero, List.set_cons_succ]
    refine wpSeqE_do rfl (by rfl) (fun K hK => ?_)
    go_simp
    refine hK.out _ _ (fun z => absurd rfl z) ?_
    clear hK K
    refine wpSeqE_end (fun u hu => ?_)
    have hG : Rg (w.alloc (askO ask0)) F br bl K u m cs := by rw [hu]; exact (G0.out.same (Same.drewN _ _)).alloc (insO ⟨p, n0, x0⟩)
    have hI1 : u.heap[w.heap.size + 1]? = some (insO ⟨p, n0, x0⟩) := by rw [hu]; exact heap_new (by simp)
    clear hu
    obtain ⟨i0, i1, i2, i3⟩ := cells3_of hI1
    obtain ⟨⟨z1, z2, z3, z4, z5⟩, G2⟩ := HBG.out u hG
    have hne : br ≠ w.heap.size + 1 := by omega
    have hI2 : Hid (((u.setCell ⟨br, 12, none⟩ (.int .i64 (m.used + 1))).setCell ⟨br, 11, none⟩ (.int .i64 ((k : Int) + 1))).heap[w.heap.size + 1]? = some (insO ⟨p, n0, x0⟩)) := by
      show _ = _
      rw [heap_setCell_other _ _ _ _ (by simp; omega), heap_setCell_other _ _ _ _ (by simp; omega)]
      exact hI1
    clear hG hI1 HBG
    go_wp2_with (first
      | (go_at_call 90; refine (HD2.out _ G3.out).mono ?_; rintro e u4 ⟨rfl, q⟩; obtain ⟨r1, r2⟩ := HX.out _ _ q; obtain ⟨⟨c0, c1, c2, c3, c4⟩, d0, d1, d2, d3⟩ := askO_cells r1; have G9 := Lib.hid (And.intro r1 r2); clear q r1 r2; unfold askV)
      | (go_at_call 89; refine (HRO.out _ G2.out).mono ?_; rintro e u3 ⟨rfl, q⟩; obtain ⟨k0, k1, k2, k3⟩ := cells3_of ((q.block _ (lt_of_block hI2.out)).trans hI2.out); have G3 := Lib.hid (G2.out.on q); clear q))
    exact ask_back rfl w.heap.size ⟨ak, ac, ax, af⟩ rfl (askO_set (k' := ⟨ak, ac, ax, af⟩) G9.out.1) rfl ⟨rfl, G9.out.2 _ (turn4 _ _ (.int .i64 ak) (.int .i64 ac) (.float .f64 ax) (.bool af))⟩
end
end Go.Proofs.YtninicfnhoediaaGreatDoor
namespace Go.Proofs.YtninicfnhoediaaGreatDoor
open Go.ChangeShapes Go.WideShapes Go.ChangeAt Go.RowKit Num
section
variable {W w : World} {br bl : Nat} {F0 K : List Nat} {m : Mac} {cs : List Ins}
theorem rstep_any (h : Rg W F0 br bl K w m cs) (hI : Inv m) : Calls Tryz.prog 48 #[.pointer (some ⟨br, 0, none⟩)] w fun r w' => r = .returned (askV (stepM m).2) ∧ Rg W F0 br bl K w' (stepM m).1 cs := by
  unfold stepM
  by_cases hw : 0 ≤ m.wait
  · rw [if_pos hw]
    exact rstep_waits h hw
  · rw [if_neg hw]
    by_cases hh : m.how = 0
    · rw [if_pos hh]
      obtain ⟨bad, pk, ck, ⟨_, e2, e3, _⟩, _, hbad, _⟩ := h.looks
      have hus := hI.used
      have hfu := hI.fuel
      have hpl := hI.place
      rcases hbad with ⟨rfl, hcs⟩ | ⟨rfl, hcs⟩
      · by_cases hf : m.used = m.fuel
        · rw [if_neg (by omega)]
          exact rstep_fuel h hw hh e3 hf
        · rw [if_pos (by omega)]
          by_cases hp : m.place < (m.code.length : Int)
          · rw [if_pos hp]
            obtain ⟨k, hk⟩ : ∃ k : Nat, m.place = k := ⟨m.place.toNat, by omega⟩
            have hk2 : k < cs.length := by rw [hk, hcs] at hp; omega
            have := rstep_do h hI hw hh e3 hf hcs hk hk2
            have e : insM m = ci cs k := by unfold insM; rw [hk, hcs]; rfl
            rw [e]
            exact this
          · rw [if_neg hp]
            rw [hcs] at hp
            exact rstep_far h hw hh e3 hf (by omega)
      · have h0 := hI.idle hcs
        rw [if_pos (by omega), if_neg (by rw [hcs]; simp; omega)]
        exact rstep_bad h hw hh ⟨pk, ck, e2, e3⟩
    · rw [if_neg hh]
      exact rstep_over h hw hh
theorem rgive_any (h : Rg W F0 br bl K w m cs) (hI : Inv m) (x : Nat) : Calls Tryz.prog 86 #[.pointer (some ⟨br, 0, none⟩), .float .f64 x] w fun r w' => r = .returned (.int .i64 (giveE m)) ∧ Rg W F0 br bl K w' (giveM m x) cs := by
  unfold giveE giveM
  by_cases hw : 0 ≤ m.wait
  · rw [if_pos hw, if_pos hw]
    have h1 := hI.high
    have h2 := hI.reads
    rw [if_pos hw] at h1 h2
    have := hI.used
    have := hI.fuel
    exact rgive_yes h hw (by omega) (by omega) x
  · rw [if_neg hw, if_neg hw]
    exact (rgive_no h (by omega) x).mono fun e w' ⟨a, b⟩ => ⟨a, by rw [b]; exact h⟩
end
end Go.Proofs.YtninicfnhoediaaGreatDoor
namespace Go.Proofs.YtninicfnhoediaaGreatDoor
open Go.ChangeShapes Go.WideShapes Go.ChangeAt Go.RowKit Num
attribute [local go_sem] run_store_float
theorem row_at {w : World} {p : Option Addr} {c n : Nat} {l : List Nat} (h : RowAt 71 w p c (fls l)) (hn : l.length = n) (i : Nat) (hi : i < n) : ∃ g, p = some ⟨g, 0, none⟩ ∧ g < w.heap.size ∧ w.cell? ⟨g, i, none⟩ = some (.float .f64 (l.getD i 0)) := by
  rcases h.own.2 with ⟨hv, _⟩ | ⟨g, cap, cur, hv, _⟩
  · injection hv with _ h2 _
    rw [fls_len] at h2
    omega
  · injection hv with h1 _ _
    subst h1
    obtain ⟨r1, _, r2⟩ := row_get h (j := i) (v := .float .f64 (l.getD i 0)) (by simp [fls, show i < l.length by omega])
    exact ⟨g, rfl, r2, r1⟩
theorem trow_at {w : World} {p : Option Addr} {c n : Nat} {l : Wr} (h : TRow w p c l) (hn : l.length = n) (i : Nat) (hi : i < n) : ∃ g, p = some ⟨g, 0, none⟩ ∧ g < w.heap.size ∧ w.cell? ⟨g, i * 2, none⟩ = some (.int .i64 (l.getD i (0, 0)).1) ∧ w.cell? ⟨g, i * 2 + 1, none⟩ = some (.float .f64 (l.getD i (0, 0)).2) := by
  obtain ⟨g, r1, r2, r3, r4, _⟩ := h.at i (by omega)
  rw [show l.getD i (0, 0) = l[i]'(by omega) by simp [show i < l.length by omega]]
  exact ⟨g, r1, r2, r3, r4⟩
end Go.Proofs.YtninicfnhoediaaGreatDoor
namespace Go.Proofs.YtninicfnhoediaaGreatDoor
open Go.ChangeShapes Go.WideShapes Go.ChangeAt Go.RowKit Num
attribute [local go_sem] run_store_float
def TlAt (w : World) (p : Option Addr) (l : Wr) : Prop := ∀ k, k < l.length → ∃ g o, p = some ⟨g, o, none⟩ ∧ g < w.heap.size ∧ w.cell? ⟨g, o + k * 2, none⟩ = some (.int .i64 (l.getD k (0, 0)).1) ∧ w.cell? ⟨g, o + k * 2 + 1, none⟩ = some (.float .f64 (l.getD k (0, 0)).2)
theorem Ro.fl {w : World} {p : Option Addr} {l : List Nat} (h : Ro w p (fls l)) : FlAt w p l := fun k hk => by
  obtain ⟨g, o, e, c, hg⟩ := h.get (j := k) (v := .float .f64 (l.getD k 0)) (by unfold fls; rw [List.getElem?_map, List.getD_eq_getElem?_getD, List.getElem?_eq_getElem hk]; rfl)
  exact ⟨g, o, e, hg, c⟩
theorem Ro.tl {w : World} {p : Option Addr} {l : Wr} (h : Ro w p (l.flatMap tchC)) : TlAt w p l := fun k hk => by
  obtain ⟨a1, a2⟩ := tch_at l hk
  obtain ⟨g, o, e, c, hg⟩ := h.get a1
  obtain ⟨g', o', e', c', _⟩ := h.get a2
  rw [e] at e'
  cases e'
  exact ⟨g, o, e, hg, c, c'⟩
theorem RowAt.fl {w : World} {p : Option Addr} {c : Nat} {l : List Nat} (h : RowAt 71 w p c (fls l)) : FlAt w p l := fun k hk => by
  obtain ⟨g, e, hg, c⟩ := row_at h rfl k hk
  exact ⟨g, 0, e, hg, by rw [Nat.zero_add]; exact c⟩
theorem TRow.tl {w : World} {p : Option Addr} {c : Nat} {l : Wr} (h : TRow w p c l) : TlAt w p l := fun k hk => by
  obtain ⟨g, e, hg, c0, c1⟩ := trow_at h rfl k hk
  exact ⟨g, 0, e, hg, by rw [Nat.zero_add]; exact c0, by rw [Nat.zero_add]; exact c1⟩
theorem TlAt.on {w w' : World} {p : Option Addr} {l : Wr} (h : TlAt w p l) (hb : Below w.heap.size w w') : TlAt w' p l := fun k hk => by
  obtain ⟨g, o, e, hlt, c0, c1⟩ := h k hk
  exact ⟨g, o, e, Nat.lt_of_lt_of_le hlt hb.size, (hb.cell (p := ⟨g, o + k * 2, none⟩) hlt).trans c0, (hb.cell (p := ⟨g, o + k * 2 + 1, none⟩) hlt).trans c1⟩
def Wide (B w : World) (T : TypeId) (sz : Nat) (t : Option Addr × Nat × Nat) : Prop := (t.1 = none ∧ t.2.2 = 0) ∨ ∃ g arr, t.1 = some ⟨g, 0, none⟩ ∧ B.heap.size ≤ g ∧ w.heap[g]? = some (.cells arr T (0, 0)) ∧ arr.size = t.2.2 * sz ∧ t.2.2 ≤ 9223372036854775807
theorem RowAt.wide {B w : World} {p : Option Addr} {c : Nat} {l : List Nat} (h : RowAt 71 w p c (fls l)) (hA : Abv B.heap.size (fpR p)) : Wide B w 71 1 (p, l.length, c) := by
  rcases h.own.2 with ⟨e, _⟩ | ⟨g, cap, cur, e, _, hg, _, hm, hs, _⟩
  · injection e with e1 _ e3
    exact .inl ⟨e1, e3⟩
  · injection e with e1 _ e3
    subst e1 e3
    exact .inr ⟨g, cur, rfl, hA g (by simp [fpR]), hg, hs, by unfold maxLen at hm; exact Nat.le_trans hm (by decide)⟩
theorem TRow.wide {B w : World} {p : Option Addr} {c : Nat} {l : Wr} (h : TRow w p c l) (hA : Abv B.heap.size (fpR p)) : Wide B w 73 2 (p, l.length, c) := by
  rcases h.own.2 with ⟨e, _⟩ | ⟨g, cap, cur, e, _, hg, _, hm, hs, _⟩
  · injection e with e1 _ e3
    exact .inl ⟨e1, e3⟩
  · injection e with e1 _ e3
    subst e1 e3
    exact .inr ⟨g, cur, rfl, hA g (by simp [fpR]), hg, hs, by unfold maxLen at hm; exact Nat.le_trans hm (by decide)⟩
theorem Wide.on {B w w' : World} {T : TypeId} {sz : Nat} {t : Option Addr × Nat × Nat} (h : Wide B w T sz t) (k : Below w.heap.size w w') : Wide B w' T sz t := by
  rcases h with h | ⟨g, arr, h1, h2, h3, h4⟩
  · exact .inl h
  · exact .inr ⟨g, arr, h1, h2, (k.block g (lt_of_block h3)).trans h3, h4⟩
theorem Wide.put {B w : World} {T : TypeId} {sz : Nat} {t : Option Addr × Nat × Nat} (h : Wide B w T sz t) (g i : Nat) (v : Value) : Wide B (w.setCell ⟨g, i, none⟩ v) T sz t := by
  rcases h with h | ⟨g', arr, h1, h2, h3, h4⟩
  · exact .inl h
  · by_cases e : g' = g
    · subst e
      exact .inr ⟨g', _, h1, h2, heap_setCell_same w g' i _ _ v h3, by simpa using h4⟩
    · exact .inr ⟨g', arr, h1, h2, (heap_setCell_other _ _ _ _ (by simpa using e)).trans h3, h4⟩
end Go.Proofs.YtninicfnhoediaaGreatDoor
namespace Go.Proofs.YtninicfnhoediaaGreatDoor
open Go.ChangeShapes Go.WideShapes Go.ChangeAt Go.RowKit Num
attribute [local go_sem] run_store_float
end Go.Proofs.YtninicfnhoediaaGreatDoor
namespace Go.Proofs.YtninicfnhoediaaGreatDoor
open Go.ChangeShapes Go.WideShapes Go.ChangeAt Go.RowKit Num
attribute [local go_sem] run_store_float
end Go.Proofs.YtninicfnhoediaaGreatDoor
namespace Go.Proofs.YtninicfnhoediaaGreatDoor
open Go.ChangeShapes Go.WideShapes Go.ChangeAt Go.RowKit Num
theorem RowAt.ro {E : TypeId} {w : World} {p : Option Addr} {c : Nat} {xs : List Value} (h : RowAt E w p c xs) : Ro w p xs := by
  rcases h.own.2 with ⟨q, hn⟩ | ⟨g, cap, cur, hv, _, hg, _, _, hsz, hx⟩
  · exact .inl ⟨(Value.slice.inj q).1, List.length_eq_zero_iff.1 hn⟩
  · refine .inr ⟨g, 0, (Value.slice.inj hv).1, fun j v hv => ?_⟩
    rw [← hx, List.getElem?_take] at hv
    split at hv
    · show w.cell? ⟨g, 0 + j, none⟩ = some v
      rw [Nat.zero_add, cell_of_row w g j _ _ _ hg]
      simpa using hv
    · cases hv
theorem loc_row {w : World} {b : Nat} (h : w.heap[b]? = some locO) : RowAt 71 w (some ⟨b, 0, none⟩) 8 (fls (eight fun _ => 0)) :=
  ⟨⟨rfl, .inr ⟨b, 8, _, rfl, Nat.zero_le _, h, Nat.le_refl _, by unfold maxLen; omega, rfl, rfl⟩⟩⟩
theorem fpK_blw {w : World} {q : Rp} {cs : List Ins} (h : CodeAt w q.pk cs) : Blw w (fpK q cs) := fun x hx => by
  unfold fpK at hx
  split at hx
  · cases hx
  · obtain ⟨a, ha, rfl⟩ := mem_fpR.1 hx
    obtain ⟨g, o, e, hlt, _⟩ := h 0 (List.length_pos_iff.2 (by assumption))
    rw [ha] at e
    cases e
    exact hlt
theorem RNew.ref {N w wr : World} {a b c e t : Int} {ao : Option Addr} {n cap : Nat} {l : List Nat} {br bl ca : Nat} {pa : Option Addr} {cs : List Ins} (h : RNew w wr (newM a c e t cs l) { rq0 b t ao n cap (!checkB t cs) bl with pa := pa, na := 8, ca := ca } br (eight (argF l))) (hN : Below N.heap.size N w) (hC : CodeAt N ao cs) (hn : cs.length = n) : RefAt wr br { rq0 b t ao n cap (!checkB t cs) bl with pa := pa, na := 8, ca := ca } (newM a c e t cs l) cs := by
  have hk : Blw N (fpK { rq0 b t ao n cap (!checkB t cs) bl with pa := pa, na := 8, ca := ca } cs) := fpK_blw hC
  have hs := hN.size
  exact {
    box := h.box
    loc := loc_row h.loc
    arg := h.row.ro
    st := Ro.nil _
    cal := Ro.nil _
    out := Ro.nil _
    rds := Ro.nil _
    buf := Ro.nil _
    cod := (hC.on hN).on h.bl
    na := rfl
    nk := hn.symm
    bad := by
      by_cases q : checkB t cs = true
      · exact .inl ⟨by simp [rq0, q], by simp [newM, q]⟩
      · exact .inr ⟨by simp [rq0, q], by simp [newM, q]⟩
    tag := rfl
    zc := fun _ => rfl
    ne := h.ne
    ap := fun p hp => by
      simp only [Rp.rows, rq0, List.mem_cons, List.not_mem_nil, or_false] at hp
      rcases hp with rfl | rfl | rfl | rfl | rfl | rfl
      · exact ⟨h.n1, h.n2⟩
      all_goals exact ⟨by simp [fpR], by simp [fpR]⟩
    apk := ⟨fun x => absurd (hk _ x) (Nat.not_lt.2 (Nat.le_trans hs h.a1)), fun x => absurd (hk _ x) (Nat.not_lt.2 (Nat.le_trans hs h.a2))⟩
    lt := fun x hx => by
      simp only [Fr, Rp.rows, rq0, List.flatMap_cons, List.flatMap_nil, List.mem_cons, List.mem_append] at hx
      rcases hx with rfl | rfl | hx
      · exact lt_of_block h.box
      · exact lt_of_block h.loc
      · exact h.row.blw x (by simpa [fpR] using hx)
    ltk := fun x hx => Nat.lt_of_lt_of_le (hk x hx) (Nat.le_trans hs h.bl.size)
    c1 := Nat.le_refl _
    c2 := Nat.le_refl _
    c3 := Nat.le_refl _
    c4 := Nat.le_refl _
    c5 := Nat.le_refl _
    nd := List.nodup_nil }
theorem RNew.abv {w wr : World} {b t : Int} {ao : Option Addr} {n cap : Nat} {l : List Nat} {br bl ca : Nat} {pa : Option Addr} {m : Mac} {bad : Bool} (h : RNew w wr m { rq0 b t ao n cap bad bl with pa := pa, na := 8, ca := ca } br l) : Abv w.heap.size (Fr br { rq0 b t ao n cap bad bl with pa := pa, na := 8, ca := ca }) := fun x hx => by
  simp only [Fr, Rp.rows, rq0, List.flatMap_cons, List.flatMap_nil, List.mem_cons, List.mem_append] at hx
  rcases hx with rfl | rfl | hx
  · exact h.a1
  · exact h.a2
  · exact h.a3 x (by simpa [fpR] using hx)
end Go.Proofs.YtninicfnhoediaaGreatDoor
namespace Go.Proofs.YtninicfnhoediaaGreatDoor
open Go.ChangeShapes Go.WideShapes Go.ChangeAt Go.RowKit Num
attribute [local go_sem] run_store_float
def insC (i : Ins) : List Value := [.int .i64 i.op, .int .i64 i.n, .float .f64 i.x]
theorem flat_at {α : Type} (f : α → List Value) (s : Nat) (hf : ∀ a, (f a).length = s) : ∀ (n : Nat) (l : List α) (m : α), l[n]? = some m → ∀ j, j < s → (l.flatMap f)[n * s + j]? = (f m)[j]?
  | 0, l, m, hm, j, hj => by
    cases l with
    | nil => simp at hm
    | cons a t =>
      simp at hm
      subst hm
      rw [List.flatMap_cons, Nat.zero_mul, Nat.zero_add, List.getElem?_append_left (by rw [hf]; exact hj)]
  | n + 1, l, m, hm, j, hj => by
    cases l with
    | nil => simp at hm
    | cons a t =>
      rw [List.flatMap_cons, List.getElem?_append_right (by rw [hf, Nat.add_mul]; omega)]
      have e : (n + 1) * s + j - (f a).length = n * s + j := by rw [hf, Nat.add_mul]; omega
      rw [e]
      exact flat_at f s hf n t m (by simpa using hm) j hj
theorem insC_len (c : List Ins) : (c.flatMap insC).length = c.length * 3 := by
  induction c with
  | nil => rfl
  | cons i c ih => rw [List.flatMap_cons, List.length_append, ih]; simp [insC]; omega
theorem insC_one (c : List Ins) : ∀ u ∈ c.flatMap insC, u.oneCell' = true := by
  intro u hu
  obtain ⟨i, _, h⟩ := List.mem_flatMap.1 hu
  simp [insC] at h
  rcases h with rfl | rfl | rfl <;> rfl
theorem codeAt_range {w : World} {g off : Nat} {c : List Ins} (hg : g < w.heap.size) (h : w.rangeAt g off (c.flatMap insC)) : CodeAt w (some ⟨g, off, none⟩) c := fun k hk => by
  have e : ∀ j, j < 3 → w.cell? ⟨g, off + (k * 3 + j), none⟩ = (insC (ci c k))[j]? := fun j hj => by
    have h2 := flat_at insC 3 (fun _ => rfl) k c (ci c k) (ci_lt hk) j hj
    cases hq : (insC (ci c k))[j]? with
    | none =>
      rw [List.getElem?_eq_none_iff] at hq
      simp [insC] at hq
      omega
    | some v => exact h _ _ (h2.trans hq)
  exact ⟨g, off, rfl, hg, e 0 (by decide), e 1 (by decide), e 2 (by decide)⟩
theorem range_codeAt {w : World} {b off : Nat} {c : List Ins} (h : CodeAt w (some ⟨b, off, none⟩) c) : w.rangeAt b off (c.flatMap insC) := fun j v hv => by
  have hj : j < c.length * 3 := by
    have := (List.getElem?_eq_some_iff.1 hv).1
    rwa [insC_len] at this
  have hk : j / 3 < c.length := by omega
  obtain ⟨b', off', e, _, c0, c1, c2⟩ := h (j / 3) hk
  cases e
  have hr : j % 3 < 3 := Nat.mod_lt _ (by decide)
  have e2 := flat_at insC 3 (fun _ => rfl) (j / 3) c (ci c (j / 3)) (ci_lt hk) (j % 3) hr
  rw [show j / 3 * 3 + j % 3 = j by omega, hv] at e2
  have h3 : j % 3 = 0 ∨ j % 3 = 1 ∨ j % 3 = 2 := by omega
  rcases h3 with q | q | q
  · rw [show off + j = off + j / 3 * 3 by omega, c0, e2, q]; rfl
  · rw [show off + j = off + j / 3 * 3 + 1 by omega, c1, e2, q]; rfl
  · rw [show off + j = off + j / 3 * 3 + 2 by omega, c2, e2, q]; rfl
theorem src_code {w : World} {ao : Option Addr} {c : List Ins} (cap : Nat) (h : CodeAt w ao c) : Src Tryz.prog 3 24 (.slice ao c.length cap) c.length (c.flatMap insC) w := by
  cases ao with
  | none =>
    cases c with
    | nil => exact Src.ofNil w Tryz.underlying24 cap
    | cons i c =>
      obtain ⟨b, off, e, _⟩ := h 0 (by simp)
      cases e
  | some a =>
    refine Src.ofSlice w Tryz.underlying24 a c.length cap _ (insC_len c) (fun j u hu => ?_) (insC_one c)
    cases c with
    | nil => simp at hu
    | cons i c =>
      obtain ⟨b, off, e, _⟩ := h 0 (by simp)
      cases e
      rw [Addr.add_mid]
      exact range_codeAt h j u hu
theorem fls_get {l : List Nat} {j : Nat} (hj : j < l.length) : (fls l)[j]? = some (.float .f64 (l.getD j 0)) := by
  unfold fls
  rw [List.getElem?_map, List.getElem?_eq_getElem hj, List.getD_eq_getElem?_getD, List.getElem?_eq_getElem hj]
  rfl
theorem src_fl {w : World} {po : Option Addr} {l : List Nat} (co : Nat) (h : FlAt w po l) : Src Tryz.prog 1 27 (.slice po l.length co) l.length (fls l) w := by
  cases po with
  | none =>
    cases l with
    | nil => exact Src.ofNil w Tryz.underlying27 co
    | cons i c =>
      obtain ⟨b, off, e, _⟩ := h 0 (by simp)
      cases e
  | some a =>
    refine Src.ofSlice w Tryz.underlying27 a l.length co _ (by rw [fls_len, Nat.mul_one]) (fun j u hu => ?_) (fls_one l)
    have hj : j < l.length := by
      have := (List.getElem?_eq_some_iff.1 hu).1
      rwa [fls_len] at this
    obtain ⟨b, off, e, _, c⟩ := h j hj
    cases e
    rw [Addr.add_mid, c, ← hu, fls_get hj]
end Go.Proofs.YtninicfnhoediaaGreatDoor
namespace Go.Proofs.YtninicfnhoediaaGreatDoor.Rr
open Go.ChangeShapes Go.WideShapes Go.ChangeAt Go.RowKit Num
attribute [local go_sem] run_store_float frombits_run bits_run
def rowL (l : List Nat) (k n : Nat) : List Nat := (List.range n).map fun i => if i < k then fixB (l.getD i 0) else 0
theorem rowL_len (l : List Nat) (k n : Nat) : (rowL l k n).length = n := by simp [rowL]
theorem rowL_zero (l : List Nat) (n : Nat) : rowL l 0 n = List.replicate n 0 := by
  apply List.ext_getElem
  · simp [rowL]
  · intro i h1 h2
    simp [rowL]
theorem rowL_all {l : List Nat} {n : Nat} (h : l.length = n) : rowL l n n = l.map fixB := by
  apply List.ext_getElem
  · simp [rowL, h]
  · intro i h1 h2
    have hi : i < n := by simpa [rowL] using h1
    simp [rowL, hi, h]
theorem rowL_set (l : List Nat) (k n : Nat) : (rowL l k n).set k (fixB (l.getD k 0)) = rowL l (k + 1) n := by
  apply List.ext_getElem
  · simp [rowL]
  · intro i h1 h2
    rw [List.getElem_set]
    by_cases e : k = i
    · subst e
      simp [rowL]
    · rw [if_neg e]
      simp only [rowL, List.getElem_map, List.getElem_range]
      by_cases q : i < k
      · rw [if_pos q, if_pos (by omega)]
      · rw [if_neg q, if_neg (by omega)]
theorem fMk (n : Nat) (hn : n ≤ 256) (w : World) : (Instr.makeSlice 27 (.int .i64 (n : Int)) (.int .i64 (n : Int))).run Tryz.prog w = .ok (.slice (some ⟨w.heap.size, 0, none⟩) n n) (w.alloc (.cells (fls (List.replicate n 0)).toArray 71)) := by
  obtain ⟨i, hi, hz0, hz1, hz2⟩ := info_parts fInfo
  rw [run_make w 27 71 i (.float .f64 0) Tryz.underlying27 hi hz0 .i64 .i64 n n (by omega) (Int.le_refl _) (by rw [hz2]; omega) (by omega)]
  have e : (madeCells (.float .f64 0 : Value).cells (((n : Int)).toNat * i.size)) = (fls (List.replicate n 0)).toArray := by
    rw [hz1, Nat.mul_one, Int.toNat_natCast]
    apply Array.toList_inj.1
    rw [show (.float .f64 0 : Value).cells = #[.float .f64 0] from rfl, toList_madeCells_one]
    simp [fls]
  rw [e, Int.toNat_natCast]
theorem row_made {w : World} {l : List Nat} {n : Nat} (hl : l.length = n) (hn : n ≤ 256) : RowAt 71 (w.alloc (.cells (fls l).toArray 71)) (some ⟨w.heap.size, 0, none⟩) n (fls l) := ⟨by
  rw [fls_len, hl]
  exact World.ownsRow_lit w _ n (Nat.zero_le _) (by unfold maxLen; omega) (by rw [List.size_toArray, fls_len, hl, Nat.mul_one])⟩
set_option maxRecDepth 100000 in
set_option maxHeartbeats 1000000 in
theorem fixed_any {w : World} {po : Option Addr} {l : List Nat} {k co : Nat} (hk : l.length = k) (hL : FlAt w po l) (hk8 : k ≤ 8) : Calls Tryz.prog 113 #[.slice po k co] w fun e w' => e = .returned (.slice (some ⟨w.heap.size, 0, none⟩) k k) ∧ RowAt 71 w' (some ⟨w.heap.size, 0, none⟩) k (fls (l.map fixB)) ∧ Below w.heap.size w w' := by
  have hmk := fMk k (by omega) w
  have HL0 : Hid (∀ wr, Below w.heap.size w wr → FlAt wr po l) := fun wr h => hL.on h
  have HE : Hid (rowL l k k = l.map fixB) := rowL_all hk
  have HS0 : Hid (RowAt 71 (w.alloc (.cells (fls (List.replicate k 0)).toArray 71)) (some ⟨w.heap.size, 0, none⟩) k (fls (rowL l 0 k))) := by
    have := row_made (w := w) (rowL_len l 0 k) (by omega)
    rw [rowL_zero] at this ⊢
    exact this
  have HAT : Hid (∀ (v x y s : Int) (w : World), Calls Tryz.prog 29 #[.agg #[.int .u64 v, .int .u64 x, .int .u64 y], .int .u64 s] w fun e w' => e = .returned (.float .f64 (Md.Ce.atV v x y s)) ∧ Below w.heap.size w w') := Md.Ce.cat_any
  have HK : Hid (l.length = k) := hk
  clear hL hk
  go_enter Tryz.func113, Tryz.ntmps113
  go_wp2
  go_loopw [11] (fun vi wr => ∃ i : Nat, vi = .int .i64 i ∧ i ≤ k ∧ Hid (RowAt 71 wr (some ⟨w.heap.size, 0, none⟩) k (fls (rowL l i k))) ∧ Hid (Below w.heap.size w wr)) (fun vi _ => k - (intOf vi).toNat)
  case atStart => exact ⟨0, rfl, Nat.zero_le _, HS0.out, below_alloc w _⟩
  case round =>
    obtain ⟨i, rfl, hi, HR, HB⟩ := hrel
    by_cases hlt : i < k
    · have hlt' : (i : Int) < (k : Int) := by omega
      obtain ⟨g, o, rfl, hg, hx⟩ := HL0.out _ HB.out i (by rw [HK.out]; exact hlt)
      have hAt : Hid (∀ y : Nat, Md.Ce.atV 0 (y : Int) 0 0 = fixB y) := fun y => by unfold Md.Ce.atV; rw [if_neg (by omega)]; rfl
      have HS1 := Lib.hid (rowL_set l i k)
      generalize l.getD i 0 = y at hx HS1
      obtain ⟨r0, r1, r2⟩ := row_get HR.out (j := i) (v := .float .f64 ((rowL l i k).getD i 0)) (by rw [fls_get (by rw [rowL_len]; exact hlt)])
      have HD : Hid (∀ u, Below wr.heap.size wr u → u.cell? ⟨w.heap.size, i, none⟩ = some (.float .f64 ((rowL l i k).getD i 0)) ∧ u.frozen? ⟨w.heap.size, i, none⟩ = false ∧ w.heap.size < u.heap.size ∧ RowAt 71 (u.setCell ⟨w.heap.size, i, none⟩ (.float .f64 (fixB y))) (some ⟨w.heap.size, 0, none⟩) k (fls (rowL l (i + 1) k)) ∧ Below w.heap.size w (u.setCell ⟨w.heap.size, i, none⟩ (.float .f64 (fixB y)))) := fun u hu => by
        have h1 := HR.out.on hu
        obtain ⟨a1, a2, a3⟩ := row_get h1 (j := i) (v := .float .f64 ((rowL l i k).getD i 0)) (by rw [fls_get (by rw [rowL_len]; exact hlt)])
        have q := (row_put h1 i (.float .f64 (fixB y))).1
        rw [fls_set, HS1.out] at q
        exact ⟨a1, a2, a3, q, (HB.out.trans (hu.mono HB.out.size)).setCell (Nat.le_refl _) _⟩
      clear HL0 HS0
      go_wp2_with (go_at_call 29; refine (HAT.out _ _ _ _ _).mono ?_; rintro e u ⟨rfl, hb⟩; rw [hAt.out]; obtain ⟨a1, a2, a3, a4, a5⟩ := HD.out _ hb; have HZ := Lib.hid (And.intro a4 a5); clear a4 a5 hb)
      exact ⟨⟨i + 1, by first | rfl | (congr 1), by omega, HZ.out.1, HZ.out.2⟩, by simp [intOf]; omega⟩
    · have hlt' : ¬ (i : Int) < (k : Int) := by omega
      obtain rfl : i = k := by omega
      have HZ := Lib.hid HR.out
      rw [HE.out] at HZ
      go_wp2
      go_ret
      exact ⟨rfl, HZ.out, HB.out⟩
end Go.Proofs.YtninicfnhoediaaGreatDoor.Rr
namespace Go.Proofs.YtninicfnhoediaaGreatDoor.Rr
open Go.ChangeShapes Go.WideShapes Go.ChangeAt Go.RowKit Num
attribute [local go_sem] run_store_float
abbrev trC (a b : Int) (bm : Option Addr) (st t : Int) (pa : Option Addr) (n ca : Nat) : Array Value := #[.int .i64 0, .int .i64 1, .int .i64 2, .int .i64 3, .int .i64 (3 + b), .int .i64 (3 + b + 3 * a), .pointer bm, .int .i64 st, .int .i64 t, .slice pa n ca]
abbrev trO (c : Array Value) : Obj := .cells c 102
abbrev trZ : Array Value := #[.int .i64 0, .int .i64 0, .int .i64 0, .int .i64 0, .int .i64 0, .int .i64 0, .pointer none, .int .i64 0, .int .i64 0, .slice none 0 0]
theorem tr_back {fn : Func} {p u : Tmp} (h : fn.results = #[.cell p 102, .tmp u]) {Q : Ending → World → Prop} {a : Act} {w : World} (g : Nat) {v0 v1 v2 v3 v4 v5 v6 v7 v8 v9 : Value} (may : Bool) (hp : a.tmps.getD p undef = .pointer (some ⟨g, 0, none⟩)) (hu : a.tmps.getD u undef = .bool may)
    (hg : w.heap[g]? = some (.cells #[v0, v1, v2, v3, v4, v5, v6, v7, v8, v9] 102 (0, 0))) (hd : a.defers = []) (hR : Q (.returned (.tuple #[.agg #[v0, v1, v2, v3, v4, v5, v6, v7, v8, v9], .bool may])) w) : bodyPost Tryz.prog fn Q .ret a w := by
  refine bodyPost_ret (v := .tuple #[.agg #[v0, v1, v2, v3, v4, v5, v6, v7, v8, v9], .bool may]) ?_ hd hR
  rw [results_cell_tmp h, hp, hu]
  have hl := run_loadVar_row (P := Tryz.prog) w g 102 102 #[v0, v1, v2, v3, v4, v5, v6, v7, v8, v9] (0, 0) _ hg Tryz.underlying102 rfl (by kernel_rfl)
  simp [asAddr, hl, Result.andThen]
abbrev begW (w : World) (a b c e t : Int) (ao : Option Addr) (n cap : Nat) : World := ((w.alloc (cfgO a b c e)).alloc (prgO t ao n cap)).alloc (trO trZ)
theorem heap_old {w : World} {o y : Obj} {k : Nat} (e : w.heap[k]? = some y) : (w.alloc o).heap[k]? = some y := (Below.heap_alloc _ _ _ (Array.getElem?_eq_some_iff.1 e).1).trans e
theorem begW_boxes {w u : World} {a b c e t : Int} {ao : Option Addr} {n cap : Nat} (h : Below (begW w a b c e t ao n cap).heap.size (begW w a b c e t ao n cap) u) :
    u.heap[w.heap.size]? = some (cfgO a b c e) ∧ u.heap[w.heap.size + 1]? = some (prgO t ao n cap) ∧ u.heap[w.heap.size + 1 + 1]? = some (trO trZ) ∧ Below w.heap.size w u := by
  have h0 : (begW w a b c e t ao n cap).heap[w.heap.size]? = some (cfgO a b c e) := heap_old (heap_old (heap_alloc_new _ _))
  have h1 : (begW w a b c e t ao n cap).heap[w.heap.size + 1]? = some (prgO t ao n cap) := heap_old (heap_new (by simp))
  have h2 : (begW w a b c e t ao n cap).heap[w.heap.size + 1 + 1]? = some (trO trZ) := heap_new (by simp)
  refine ⟨(h.block _ (lt_of_block h0)).trans h0, (h.block _ (lt_of_block h1)).trans h1, (h.block _ (lt_of_block h2)).trans h2, ?_⟩
  exact (((below_alloc w _).trans ((below_alloc _ _).mono (by simp))).trans ((below_alloc _ _).mono (by simp; omega))).trans (h.mono (by simp [begW]; omega))
theorem cells10 {w : World} {x : Nat} {v0 v1 v2 v3 v4 v5 v6 v7 v8 v9 : Value} {T : TypeId} (h : w.heap[x]? = some (.cells #[v0, v1, v2, v3, v4, v5, v6, v7, v8, v9] T (0, 0))) : (w.cell? ⟨x, 0, none⟩ = some v0 ∧ w.cell? ⟨x, 1, none⟩ = some v1 ∧ w.cell? ⟨x, 2, none⟩ = some v2 ∧ w.cell? ⟨x, 3, none⟩ = some v3 ∧ w.cell? ⟨x, 4, none⟩ = some v4 ∧ w.cell? ⟨x, 5, none⟩ = some v5 ∧ w.cell? ⟨x, 6, none⟩ = some v6 ∧ w.cell? ⟨x, 7, none⟩ = some v7 ∧ w.cell? ⟨x, 8, none⟩ = some v8 ∧ w.cell? ⟨x, 9, none⟩ = some v9 ∧ x < w.heap.size) ∧ ∀ j, w.frozen? ⟨x, j, none⟩ = false :=
  ⟨⟨(cell_of_row w x 0 _ _ _ h).trans rfl, (cell_of_row w x 1 _ _ _ h).trans rfl, (cell_of_row w x 2 _ _ _ h).trans rfl, (cell_of_row w x 3 _ _ _ h).trans rfl, (cell_of_row w x 4 _ _ _ h).trans rfl, (cell_of_row w x 5 _ _ _ h).trans rfl, (cell_of_row w x 6 _ _ _ h).trans rfl, (cell_of_row w x 7 _ _ _ h).trans rfl, (cell_of_row w x 8 _ _ _ h).trans rfl, (cell_of_row w x 9 _ _ _ h).trans rfl, lt_of_block h⟩, fun j => frozen_of_row w x j _ _ h⟩
theorem set10 {w : World} {x : Nat} {v0 v1 v2 v3 v4 v5 v6 v7 v8 v9 u0 u1 u2 u3 u4 u5 u6 u7 u8 u9 : Value} {T : TypeId} (h : w.heap[x]? = some (.cells #[v0, v1, v2, v3, v4, v5, v6, v7, v8, v9] T (0, 0))) : ((((((((((w.setCell ⟨x, 0, none⟩ u0).setCell ⟨x, 1, none⟩ u1).setCell ⟨x, 2, none⟩ u2).setCell ⟨x, 3, none⟩ u3).setCell ⟨x, 4, none⟩ u4).setCell ⟨x, 5, none⟩ u5).setCell ⟨x, 6, none⟩ u6).setCell ⟨x, 7, none⟩ u7).setCell ⟨x, 8, none⟩ u8).setCell ⟨x, 9, none⟩ u9).heap[x]? = some (.cells #[u0, u1, u2, u3, u4, u5, u6, u7, u8, u9] T (0, 0)) := by
  have h0 := (heap_setCell_same _ x 0 _ _ u0 h).trans (show _ = some (Obj.cells #[u0, v1, v2, v3, v4, v5, v6, v7, v8, v9] T (0, 0)) from rfl)
  have h1 := (heap_setCell_same _ x 1 _ _ u1 h0).trans (show _ = some (Obj.cells #[u0, u1, v2, v3, v4, v5, v6, v7, v8, v9] T (0, 0)) from rfl)
  have h2 := (heap_setCell_same _ x 2 _ _ u2 h1).trans (show _ = some (Obj.cells #[u0, u1, u2, v3, v4, v5, v6, v7, v8, v9] T (0, 0)) from rfl)
  have h3 := (heap_setCell_same _ x 3 _ _ u3 h2).trans (show _ = some (Obj.cells #[u0, u1, u2, u3, v4, v5, v6, v7, v8, v9] T (0, 0)) from rfl)
  have h4 := (heap_setCell_same _ x 4 _ _ u4 h3).trans (show _ = some (Obj.cells #[u0, u1, u2, u3, u4, v5, v6, v7, v8, v9] T (0, 0)) from rfl)
  have h5 := (heap_setCell_same _ x 5 _ _ u5 h4).trans (show _ = some (Obj.cells #[u0, u1, u2, u3, u4, u5, v6, v7, v8, v9] T (0, 0)) from rfl)
  have h6 := (heap_setCell_same _ x 6 _ _ u6 h5).trans (show _ = some (Obj.cells #[u0, u1, u2, u3, u4, u5, u6, v7, v8, v9] T (0, 0)) from rfl)
  have h7 := (heap_setCell_same _ x 7 _ _ u7 h6).trans (show _ = some (Obj.cells #[u0, u1, u2, u3, u4, u5, u6, u7, v8, v9] T (0, 0)) from rfl)
  have h8 := (heap_setCell_same _ x 8 _ _ u8 h7).trans (show _ = some (Obj.cells #[u0, u1, u2, u3, u4, u5, u6, u7, u8, v9] T (0, 0)) from rfl)
  have h9 := (heap_setCell_same _ x 9 _ _ u9 h8).trans (show _ = some (Obj.cells #[u0, u1, u2, u3, u4, u5, u6, u7, u8, u9] T (0, 0)) from rfl)
  exact h9
theorem oth10 {w : World} {x y : Nat} (u0 u1 u2 u3 u4 u5 u6 u7 u8 u9 : Value) (h : y ≠ x) : ((((((((((w.setCell ⟨x, 0, none⟩ u0).setCell ⟨x, 1, none⟩ u1).setCell ⟨x, 2, none⟩ u2).setCell ⟨x, 3, none⟩ u3).setCell ⟨x, 4, none⟩ u4).setCell ⟨x, 5, none⟩ u5).setCell ⟨x, 6, none⟩ u6).setCell ⟨x, 7, none⟩ u7).setCell ⟨x, 8, none⟩ u8).setCell ⟨x, 9, none⟩ u9).heap[y]? = w.heap[y]? := (heap_setCell_other _ _ _ _ h).trans ((heap_setCell_other _ _ _ _ h).trans ((heap_setCell_other _ _ _ _ h).trans ((heap_setCell_other _ _ _ _ h).trans ((heap_setCell_other _ _ _ _ h).trans ((heap_setCell_other _ _ _ _ h).trans ((heap_setCell_other _ _ _ _ h).trans ((heap_setCell_other _ _ _ _ h).trans ((heap_setCell_other _ _ _ _ h).trans (heap_setCell_other _ _ _ _ h)))))))))
theorem bel10 {B : Nat} {a w : World} {x : Nat} (u0 u1 u2 u3 u4 u5 u6 u7 u8 u9 : Value) (h : Below B a w) (hx : B ≤ x) : Below B a ((((((((((w.setCell ⟨x, 0, none⟩ u0).setCell ⟨x, 1, none⟩ u1).setCell ⟨x, 2, none⟩ u2).setCell ⟨x, 3, none⟩ u3).setCell ⟨x, 4, none⟩ u4).setCell ⟨x, 5, none⟩ u5).setCell ⟨x, 6, none⟩ u6).setCell ⟨x, 7, none⟩ u7).setCell ⟨x, 8, none⟩ u8).setCell ⟨x, 9, none⟩ u9) := (((((((((h.setCell hx _).setCell hx _).setCell hx _).setCell hx _).setCell hx _).setCell hx _).setCell hx _).setCell hx _).setCell hx _).setCell hx _
theorem cells6 {w : World} {x : Nat} {v0 v1 v2 v3 v4 v5 : Value} {T : TypeId} (h : w.heap[x]? = some (.cells #[v0, v1, v2, v3, v4, v5] T (0, 0))) : w.cell? ⟨x, 0, none⟩ = some v0 ∧ w.cell? ⟨x, 1, none⟩ = some v1 ∧ w.cell? ⟨x, 2, none⟩ = some v2 ∧ w.cell? ⟨x, 3, none⟩ = some v3 ∧ w.cell? ⟨x, 4, none⟩ = some v4 ∧ w.cell? ⟨x, 5, none⟩ = some v5 ∧ x < w.heap.size :=
  ⟨(cell_of_row w x 0 _ _ _ h).trans rfl, (cell_of_row w x 1 _ _ _ h).trans rfl, (cell_of_row w x 2 _ _ _ h).trans rfl, (cell_of_row w x 3 _ _ _ h).trans rfl, (cell_of_row w x 4 _ _ _ h).trans rfl, (cell_of_row w x 5 _ _ _ h).trans rfl, lt_of_block h⟩
theorem cells4 {w : World} {x : Nat} {v0 v1 v2 v3 : Value} {T : TypeId} (h : w.heap[x]? = some (.cells #[v0, v1, v2, v3] T (0, 0))) : w.cell? ⟨x, 0, none⟩ = some v0 ∧ w.cell? ⟨x, 1, none⟩ = some v1 ∧ w.cell? ⟨x, 2, none⟩ = some v2 ∧ w.cell? ⟨x, 3, none⟩ = some v3 ∧ x < w.heap.size :=
  ⟨(cell_of_row w x 0 _ _ _ h).trans rfl, (cell_of_row w x 1 _ _ _ h).trans rfl, (cell_of_row w x 2 _ _ _ h).trans rfl, (cell_of_row w x 3 _ _ _ h).trans rfl, lt_of_block h⟩
theorem cells2 {w : World} {x : Nat} {v0 v1 : Value} {T : TypeId} (h : w.heap[x]? = some (.cells #[v0, v1] T (0, 0))) : w.cell? ⟨x, 0, none⟩ = some v0 ∧ w.cell? ⟨x, 1, none⟩ = some v1 ∧ x < w.heap.size :=
  ⟨(cell_of_row w x 0 _ _ _ h).trans rfl, (cell_of_row w x 1 _ _ _ h).trans rfl, lt_of_block h⟩
section
variable {w : World} {a b c e t : Int} {ao : Option Addr} {cs : List Ins} {n cap : Nat} {po : Option Addr} {l : List Nat} {k co : Nat}
set_option maxRecDepth 100000 in
set_option maxHeartbeats 1000000 in
theorem begin_no (h : (Md.cfgB a b c e && decide (k ≤ 8)) = false) : Calls Tryz.prog 75 #[cfgV a b c e, .agg #[.int .i64 t, .slice ao n cap], .slice po k co] w fun r w' => r = .returned (.tuple #[.agg trZ, .bool false]) ∧ Below w.heap.size w w' := by
  have HN : Hid (∀ u, Calls Tryz.prog 65 #[cfgV a b c e, .agg #[.int .i64 t, .slice ao n cap], .slice po k co] u fun r w' => r = .returned (.pointer none) ∧ Below u.heap.size u w') := fun u => mnew_nil h
  have HX : Hid (∀ u, Below (begW w a b c e t ao n cap).heap.size (begW w a b c e t ao n cap) u → u.heap[w.heap.size]? = some (cfgO a b c e) ∧ u.heap[w.heap.size + 1]? = some (prgO t ao n cap) ∧ u.heap[w.heap.size + 1 + 1]? = some (trO trZ) ∧ Below w.heap.size w u) := fun u hb => begW_boxes hb
  have HP := Lib.hid (fun u => Md.place_any a b c e u)
  cases hc : Md.cfgB a b c e
  · simp only [hc] at HP
    go_enter Tryz.func75, Tryz.ntmps75
    go_wp2_with (first
      | (go_at_call 65; refine (HN.out _).mono ?_; rintro e u2 ⟨rfl, q⟩; have H2 := Lib.hid (below_chain (H1.out.alloc H1.out.size _) q); obtain ⟨⟨s0, s1, s2, s3, s4, s5, s6, s7, s8, s9, s10⟩, f⟩ := cells10 (HX.out _ H2.out).2.2.1; have f0 := f 0; have f1 := f 1; have f2 := f 2; have f3 := f 3; have f4 := f 4; have f5 := f 5; have f6 := f 6; have f7 := f 7; have f8 := f 8; have f9 := f 9; clear q f)
      | (go_at_call 97; refine (HP.out _).mono ?_; rintro e u1 ⟨rfl, q⟩; have H1 := Lib.hid q; obtain ⟨b0, b1, b2, b3⟩ := HX.out _ q; obtain ⟨c0, c1, c2, c3, c4⟩ := cells4 b0; obtain ⟨d0, d1, d2⟩ := cells2 b1; clear b0 b1 b2 b3 q))
    exact tr_back rfl (w.heap.size + 1 + 1) false rfl rfl (set10 (HX.out _ H2.out).2.2.1) rfl ⟨rfl, bel10 _ _ _ _ _ _ _ _ _ _ (HX.out _ H2.out).2.2.2 (by omega)⟩
  · simp only [hc] at HP
    go_enter Tryz.func75, Tryz.ntmps75
    go_wp2_with (first
      | (go_at_call 65; refine (HN.out _).mono ?_; rintro e u2 ⟨rfl, q⟩; have H2 := Lib.hid (below_chain (H1.out.alloc H1.out.size _) q); obtain ⟨⟨s0, s1, s2, s3, s4, s5, s6, s7, s8, s9, s10⟩, f⟩ := cells10 (HX.out _ H2.out).2.2.1; have f0 := f 0; have f1 := f 1; have f2 := f 2; have f3 := f 3; have f4 := f 4; have f5 := f 5; have f6 := f 6; have f7 := f 7; have f8 := f 8; have f9 := f 9; clear q f)
      | (go_at_call 97; refine (HP.out _).mono ?_; rintro e u1 ⟨rfl, q⟩; have H1 := Lib.hid q; obtain ⟨b0, b1, b2, b3⟩ := HX.out _ q; obtain ⟨c0, c1, c2, c3, c4⟩ := cells4 b0; obtain ⟨d0, d1, d2⟩ := cells2 b1; clear b0 b1 b2 b3 q))
    exact tr_back rfl (w.heap.size + 1 + 1) false rfl rfl (set10 (HX.out _ H2.out).2.2.1) rfl ⟨rfl, bel10 _ _ _ _ _ _ _ _ _ _ (HX.out _ H2.out).2.2.2 (by omega)⟩
set_option maxRecDepth 100000 in
set_option maxHeartbeats 1000000 in
theorem begin_yes (hc : Md.cfgB a b c e = true) (hn : cs.length = n) (hk : l.length = k) (hk8 : k ≤ 8) (hT : Shaped5 w) (hC : CodeAt w ao cs) (hL : FlAt w po l) (hnl : n ≤ 9223372036854775807) : Calls Tryz.prog 75 #[cfgV a b c e, .agg #[.int .i64 t, .slice ao n cap], .slice po k co] w fun r w' => ∃ bm K pa, r = .returned (.tuple #[.agg (trC a b (some ⟨bm, 0, none⟩) 0 t (some ⟨pa, 0, none⟩) k k), .bool true]) ∧ ∃ F, Mc w' bm F K (newM a c e t cs l) ∧ Abv w.heap.size F ∧ Abv w.heap.size K ∧ pa ∉ F ∧ pa ∉ K ∧ w.heap.size ≤ pa ∧ RowAt 71 w' (some ⟨pa, 0, none⟩) k (fls (l.map fixB)) ∧ Below w.heap.size w w' := by
  have HN : Hid (∀ u, Below w.heap.size w u → Calls Tryz.prog 65 #[cfgV a b c e, .agg #[.int .i64 t, .slice ao n cap], .slice po k co] u fun r w' => ∃ bm K, r = .returned (.pointer (some ⟨bm, 0, none⟩)) ∧ Gm u [] bm K w' (newM a c e t cs l) ∧ Abv u.heap.size K) := fun u hb => mnew_any hn hk (hT.on hb) (hC.on hb) (hL.on hb) hnl hc hk8
  have HX : Hid (∀ u, Below (begW w a b c e t ao n cap).heap.size (begW w a b c e t ao n cap) u → u.heap[w.heap.size]? = some (cfgO a b c e) ∧ u.heap[w.heap.size + 1]? = some (prgO t ao n cap) ∧ u.heap[w.heap.size + 1 + 1]? = some (trO trZ) ∧ Below w.heap.size w u) := fun u hb => begW_boxes hb
  have HP := Lib.hid (fun u => Md.place_any a b c e u)
  simp only [hc] at HP
  have HFX : Hid (∀ u, Below w.heap.size w u → Calls Tryz.prog 113 #[.slice po k co] u fun e w' => e = .returned (.slice (some ⟨u.heap.size, 0, none⟩) k k) ∧ RowAt 71 w' (some ⟨u.heap.size, 0, none⟩) k (fls (l.map fixB)) ∧ Below u.heap.size u w') := fun u hb => fixed_any hk (hL.on hb) hk8
  clear hT hC hL hnl hn hk hc
  generalize newM a c e t cs l = m0 at *
  generalize h4 : 3 + b = p4 at *
  generalize h5 : p4 + 3 * a = p5 at *
  go_enter Tryz.func75, Tryz.ntmps75
  go_wp2_with (first
    | (go_at_call 65; refine (HN.out _ ((HX.out _ (H1.out.alloc H1.out.size _)).2.2.2)).mono ?_; rintro e u2 ⟨bm, K, rfl, q1, q2⟩; have G2 := Lib.hid (And.intro q1 q2); have H2 := Lib.hid (below_chain (H1.out.alloc H1.out.size _) q1.fresh); clear q1 q2)
    | (go_at_call 97; refine (HP.out _).mono ?_; rintro e u1 ⟨rfl, q⟩; have H1 := Lib.hid q; obtain ⟨b0, b1, b2, b3⟩ := HX.out _ q; obtain ⟨c0, c1, c2, c3, c4⟩ := cells4 b0; obtain ⟨d0, d1, d2⟩ := cells2 b1; clear b0 b1 b2 b3 q))
  have Hb0 : Hid (u2.heap[u1.heap.size]? = some (.cells #[.int .i64 0, .int .i64 1, .int .i64 2, .int .i64 3, .int .i64 p4, .int .i64 p5] 51)) := (G2.out.1.fresh.block _ (by simp)).trans (heap_alloc_new _ _)
  obtain ⟨m0', m1, m2, m3⟩ := HX.out _ H2.out
  have HB2 : Hid (Below w.heap.size w u2) := m3
  obtain ⟨d20, d21, d22⟩ := cells2 m1
  obtain ⟨e0, e1, e2, e3, e4, e5, e6⟩ := cells6 Hb0.out
  have HTZ : Hid (u2.heap[w.heap.size + 1 + 1]? = some (trO trZ)) := m2
  have HNE := Lib.hid (show u1.heap.size ≠ w.heap.size + 1 + 1 ∧ w.heap.size + 1 + 1 < u1.heap.size by have := H1.out.size; simp at this; omega)
  clear m0' m1 m2 m3
  refine wp_region_seq (fun u => (u.cell? ⟨u1.heap.size, 0, none⟩ = some (.int .i64 0) ∧ u.cell? ⟨u1.heap.size, 1, none⟩ = some (.int .i64 1) ∧ u.cell? ⟨u1.heap.size, 2, none⟩ = some (.int .i64 2) ∧ u.cell? ⟨u1.heap.size, 3, none⟩ = some (.int .i64 3) ∧ u.cell? ⟨u1.heap.size, 4, none⟩ = some (.int .i64 p4) ∧ u.cell? ⟨u1.heap.size, 5, none⟩ = some (.int .i64 p5)) ∧ u.cell? ⟨w.heap.size + 1, 0, none⟩ = some (.int .i64 t) )  ((0, true) :: (1, true) :: (2, true) :: (3, true) :: (4, true) :: (5, false) :: (6, true) :: (7, false) :: (8, true) :: [])  Md.Cv.follows13 (by kernel_rfl) (fun _ _ _ _ _ h => h)  ⟨⟨e0, e1, e2, e3, e4, e5⟩, d20⟩ ?_
  (repeat ((first | (refine wpSeq_take (v := ?_) rfl (by rfl) (fun wq hSq => ?_) ?_; rotate_left; (focus ((try dsimp only at hSq); go_simp; try with_reducible rfl))) | refine wpSeq_skip rfl (by rfl) ?_); simp only [Act.put, List.setIfInBounds_toArray, List.set_cons_zero, List.set_cons_succ]))
  (refine wpSeq_do rfl (by rfl) (fun KK hK => ?_); go_simp)
  refine (HFX.out _ (HB2.out.trans ((Same.drew u2).below _))).mono ?_
  rintro e u3 ⟨rfl, q1, q2⟩
  have HR := Lib.hid (And.intro q1 q2)
  have HB3 : Hid (Below w.heap.size w u3 ∧ Below u2.heap.size u2 u3) := ⟨(HB2.out.trans ((Same.drew u2).below _)).trans (q2.mono HB2.out.size), ((Same.drew u2).below _).trans q2⟩
  have HT3 : Hid (u3.heap[w.heap.size + 1 + 1]? = some (trO trZ)) := (HB3.out.2.block _ (lt_of_block HTZ.out)).trans HTZ.out
  obtain ⟨e30, e31, e32, e33, e34, e35, e36⟩ := cells6 ((HB3.out.2.block _ (lt_of_block Hb0.out)).trans Hb0.out)
  have d30 : u3.cell? ⟨w.heap.size + 1, 0, none⟩ = some (.int .i64 t) := (HB3.out.2.cell (p := ⟨w.heap.size + 1, 0, none⟩) d22).trans d20
  obtain ⟨⟨s0, s1, s2, s3, s4, s5, s6, s7, s8, s9, s10⟩, f⟩ := cells10 HT3.out
  have f0 := f 0; have f1 := f 1; have f2 := f 2; have f3 := f 3; have f4 := f 4; have f5 := f 5; have f6 := f 6; have f7 := f 7; have f8 := f 8; have f9 := f 9
  clear q1 q2 f
  refine hK.out _ _ ⟨⟨e30, e31, e32, e33, e34, e35⟩, d30⟩ ?_
  (clear hK KK; try simp only [Act.put, List.setIfInBounds_toArray, List.set_cons_zero, List.set_cons_succ])
  (repeat ((first | (refine wpSeq_take (v := ?_) rfl (by rfl) (fun wq hSq => ?_) ?_; rotate_left; (focus ((try dsimp only at hSq); go_simp; try with_reducible rfl))) | refine wpSeq_skip rfl (by rfl) ?_); simp only [Act.put, List.setIfInBounds_toArray, List.set_cons_zero, List.set_cons_succ]))
  (refine wpSeq_do rfl (by rfl) (fun KK hK => ?_); go_simp)
  have O : ∀ j y, y ≠ w.heap.size + 1 + 1 → _ := fun j y hy => Md.Cv.cell_kept (w := u3) (oth10 (.int .i64 0) (.int .i64 1) (.int .i64 2) (.int .i64 3) (.int .i64 p4) (.int .i64 p5) (.pointer (some ⟨bm, 0, none⟩)) (.int .i64 0) (.int .i64 t) (.slice (some ⟨u2.heap.size, 0, none⟩) k k) hy) j
  refine hK.out _ _ ⟨⟨(O 0 _ HNE.out.1).trans e30, (O 1 _ HNE.out.1).trans e31, (O 2 _ HNE.out.1).trans e32, (O 3 _ HNE.out.1).trans e33, (O 4 _ HNE.out.1).trans e34, (O 5 _ HNE.out.1).trans e35⟩, (O 0 _ (by omega)).trans d30⟩ ?_
  clear O
  (clear hK KK; try simp only [Act.put, List.setIfInBounds_toArray, List.set_cons_zero, List.set_cons_succ])
  (repeat ((first | (refine wpSeq_take (v := ?_) rfl (by rfl) (fun wq hSq => ?_) ?_; rotate_left; (focus ((try dsimp only at hSq); go_simp; try with_reducible rfl))) | refine wpSeq_skip rfl (by rfl) ?_); simp only [Act.put, List.setIfInBounds_toArray, List.set_cons_zero, List.set_cons_succ]))
  refine wpSeq_nil ?_
  go_wp2_with fail
  subst h4 h5
  refine tr_back rfl (w.heap.size + 1 + 1) true rfl rfl (set10 HT3.out) rfl ⟨bm, K, u2.heap.size, rfl, ?_⟩
  obtain ⟨F, hM, tF⟩ := G2.out.1.mc
  have lo : Abv (u1.alloc (.cells #[.int .i64 0, .int .i64 1, .int .i64 2, .int .i64 3, .int .i64 (3 + b), .int .i64 (3 + b + 3 * a)] 51)).heap.size F := fun i hi => (tF.own i hi).elim (fun q => by simp at q) id
  have lo2 := G2.out.2
  have sz : (u1.alloc (.cells #[.int .i64 0, .int .i64 1, .int .i64 2, .int .i64 3, .int .i64 (3 + b), .int .i64 (3 + b + 3 * a)] 51)).heap.size = u1.heap.size + 1 := by simp
  rw [sz] at lo lo2
  have hne := HNE.out.2
  have hs2 := tF.size
  rw [sz] at hs2
  have kk : ∀ L : List Nat, Blw u2 L → Abv (u1.heap.size + 1) L → Kept L u2 (((((((((((u3.setCell ⟨w.heap.size + 1 + 1, 0, none⟩ (.int .i64 0)).setCell ⟨w.heap.size + 1 + 1, 1, none⟩ (.int .i64 1)).setCell ⟨w.heap.size + 1 + 1, 2, none⟩ (.int .i64 2)).setCell ⟨w.heap.size + 1 + 1, 3, none⟩ (.int .i64 3)).setCell ⟨w.heap.size + 1 + 1, 4, none⟩ (.int .i64 (3 + b))).setCell ⟨w.heap.size + 1 + 1, 5, none⟩ (.int .i64 (3 + b + 3 * a))).setCell ⟨w.heap.size + 1 + 1, 6, none⟩ (.pointer (some ⟨bm, 0, none⟩))).setCell ⟨w.heap.size + 1 + 1, 7, none⟩ (.int .i64 0)).setCell ⟨w.heap.size + 1 + 1, 8, none⟩ (.int .i64 t)).setCell ⟨w.heap.size + 1 + 1, 9, none⟩ (.slice (some ⟨u2.heap.size, 0, none⟩) k k))) := fun L hb ha => ⟨by have := HB3.out.2.size; simpa using this, fun i hi => (oth10 _ _ _ _ _ _ _ _ _ _ (by have := ha i hi; omega)).trans (HB3.out.2.block i (hb i hi))⟩
  refine ⟨F, hM.keep (kk F hM.blw lo) (kk K hM.blwK lo2), fun i hi => by have := lo i hi; omega, fun i hi => by have := lo2 i hi; omega, fun q => absurd (hM.blw _ q) (Nat.lt_irrefl _), fun q => absurd (hM.blwK _ q) (Nat.lt_irrefl _), by omega, HR.out.1.keep ⟨by simp, fun i hi => oth10 _ _ _ _ _ _ _ _ _ _ ?_⟩, bel10 _ _ _ _ _ _ _ _ _ _ HB3.out.1 (by omega)⟩
  simp [fpR] at hi
  omega
end
end Go.Proofs.YtninicfnhoediaaGreatDoor.Rr
namespace Go.Proofs.YtninicfnhoediaaGreatDoor.Rr
open Go.ChangeShapes Go.WideShapes Go.ChangeAt Go.RowKit Num
attribute [local go_sem] run_store_float
def newX (a b c e t : Int) (cs : List Ins) (l : List Nat) (th : Int) : Rx := ⟨a, b, th, t, l.map fixB, newM a c e t cs l, 0, 1, 0, 0, 0, -1, 0, 0⟩
theorem new_in {a b c e t : Int} {cs : List Ins} {l : List Nat} {th : Int} (hc : Md.cfgB a b c e = true) (hx : ∀ k, k < cs.length → (ci cs k).x < 18446744073709551616) (hl : ∀ x ∈ l, x < 18446744073709551616) (hk : l.length ≤ 8) (ht : 0 ≤ th ∧ th < b) : InX (newX a b c e t cs l th) := by
  obtain ⟨h1, h2, h3, h4⟩ := Md.cfgB_iff.1 hc
  have z : u64B 0 := ⟨by decide, by decide⟩
  exact ⟨⟨h1, h2, rfl, ht, inv_new hc hx hl, by show (l.map fixB).length ≤ 8; simpa using hk, ⟨by show 1 ≤ 1; omega, by show 1 ≤ 4; omega⟩, fun _ => ⟨by show 0 ≤ 2; omega, rfl, rfl, fun _ => rfl, rfl, by show ¬ (0 : Int) ≤ -1; omega⟩, (fun q => by cases q), (fun q => by rcases q with q | q <;> cases q), z, z, z, z⟩, by show (0 : Int) ≤ 0; omega, fun _ => rfl, (fun q => by cases q), (fun q => by cases q), (fun q => by cases q)⟩
section
variable {w : World} {a b c e t th : Int} {ao : Option Addr} {cs : List Ins} {n cap : Nat} {po : Option Addr} {l : List Nat} {k co : Nat}
def mayX (a b c e : Int) (k : Nat) (th : Int) : Bool := Md.cfgB a b c e && decide (k ≤ 8) && decide (0 ≤ th ∧ th < b)
set_option maxRecDepth 100000 in
set_option maxHeartbeats 1000000 in
theorem new_nil (h : (Md.cfgB a b c e && decide (k ≤ 8)) = false) : Calls Tryz.prog 35 #[cfgV a b c e, .int .i64 th, .agg #[.int .i64 t, .slice ao n cap], .slice po k co] w fun r w' => r = .returned (.pointer none) ∧ Below w.heap.size w w' := by
  have HN : Hid (∀ u, Calls Tryz.prog 75 #[cfgV a b c e, .agg #[.int .i64 t, .slice ao n cap], .slice po k co] u fun r w' => r = .returned (.tuple #[.agg trZ, .bool false]) ∧ Below u.heap.size u w') := fun u => begin_no h
  clear h
  go_enter Tryz.func35, Tryz.ntmps35
  go_wp2_with (go_at_call 75; refine (HN.out _).mono ?_; rintro e u1 ⟨rfl, q⟩; have H1 := Lib.hid (below_chain (((below_alloc w _).trans ((below_alloc _ _).mono (by simp)))) q); clear q HN)
  go_ret
  exact ⟨rfl, H1.out.alloc H1.out.size _⟩
def Begun (w w' : World) (bm pa : Nat) (K : List Nat) (k : Nat) (l : List Nat) (m : Mac) : Prop := ∃ F, Mc w' bm F K m ∧ Abv w.heap.size F ∧ Abv w.heap.size K ∧ pa ∉ F ∧ pa ∉ K ∧ w.heap.size ≤ pa ∧ RowAt 71 w' (some ⟨pa, 0, none⟩) k (fls (l.map fixB)) ∧ Below w.heap.size w w'
theorem Begun.on {w w' w2 : World} {bm pa : Nat} {K : List Nat} {k : Nat} {l : List Nat} {m : Mac} (h : Begun w w' bm pa K k l m) (q : Below w'.heap.size w' w2) : Begun w w2 bm pa K k l m := by
  obtain ⟨F, h1, h2, h3, h4, h5, h6, h7, h8⟩ := h
  exact ⟨F, h1.on q, h2, h3, h4, h5, h6, h7.on q, h8.trans (q.mono h8.size)⟩
theorem Begun.below {w w' : World} {bm pa : Nat} {K : List Nat} {k : Nat} {l : List Nat} {m : Mac} (h : Begun w w' bm pa K k l m) : Below w.heap.size w w' := by
  obtain ⟨F, _, _, _, _, _, _, _, h8⟩ := h
  exact h8
theorem Begun.from {w0 w w' : World} {bm pa : Nat} {K : List Nat} {k : Nat} {l : List Nat} {m : Mac} (h : Begun w w' bm pa K k l m) (q : Below w0.heap.size w0 w) : Begun w0 w' bm pa K k l m := by
  obtain ⟨F, h1, h2, h3, h4, h5, h6, h7, h8⟩ := h
  exact ⟨F, h1, h2.mono q.size, h3.mono q.size, h4, h5, Nat.le_trans q.size h6, h7, q.trans (h8.mono q.size)⟩
structure Made (w w' : World) (bx : Nat) (x : Rx) : Prop where
  at_ : ∃ z F r, RawAt w' bx x z none F (comC x) r ∧ Abv w.heap.size (gX bx z none F) ∧ Abv w.heap.size z.KK
  bl : Below w.heap.size w w'
theorem made_of {w u1 u3 : World} {bm pa xc : Nat} {K : List Nat} (hk : l.length = k) (h : Begun w u1 bm pa K k l (newM a c e t cs l)) (hb : Below u1.heap.size u1 u3) (hx : u1.heap.size ≤ xc) (hc : Md.Cv.CmAt u3 xc ⟨2, 3, th, 0, 0, 0⟩) {v : World} (hv : Same (u3.alloc (.cells #[.int .i64 0, .int .i64 1, .int .i64 2, .int .i64 3, .int .i64 (3 + b), .int .i64 (3 + b + 3 * a), .pointer (some ⟨bm, 0, none⟩), .int .i64 0, .int .i64 t, .slice (some ⟨pa, 0, none⟩) k k, .int .i64 th, .int .i64 1, .pointer (some ⟨xc, 0, none⟩), .pointer none] 106)) v) : Made w v u3.heap.size (newX a b c e t cs l th) := by
  obtain ⟨F, h1, h2, h3, h4, h5, h6, h7, h8⟩ := h
  have ha : Below u3.heap.size u3 v := (below_alloc _ _).trans (hv.below _)
  have hb2 : Below u1.heap.size u1 v := hb.trans (ha.mono hb.size)
  have l1 : ∀ i ∈ F, i < u1.heap.size := h1.blw
  have l2 : ∀ i ∈ K, i < u1.heap.size := h1.blwK
  have l3 : pa < u1.heap.size := h7.blw pa (by simp [fpR])
  have hs := hb.size
  have hs8 := h8.size
  refine ⟨⟨⟨bm, K, xc, some ⟨pa, 0, none⟩, k⟩, F, ⟨0, 0, 0, 0, 0, 0, 0, 0, false⟩, ⟨?_, h1.on hb2, hc.on ha, (fun n hn => by cases hn), h7.on hb2, ?_, ?_, ?_⟩, ?_, ?_⟩, h8.trans (hb2.mono hs8)⟩
  · rw [hv.heap]
    refine (heap_alloc_new _ _).trans ?_
    unfold xboxV newX ptrV
    dsimp only
    rw [List.length_map, hk]
    rfl
  · intro i hi q
    have := l1 i q
    simp at hi
    omega
  · intro i hi q
    have q' : i ∈ K ∨ i = pa := by simpa [Rz.KK, fpR] using q
    have := fun z => l2 i z
    simp at hi
    rcases q' with q' | q'
    · have := l2 i q'; omega
    · omega
  · intro i hi q
    simp [fpR] at hi
    subst hi
    exact h4 q
  · intro i hi
    simp only [gX, List.mem_cons, Option.toList_none, List.nil_append] at hi
    rcases hi with hi | hi | hi
    · omega
    · have hi' : i = xc := hi
      omega
    · exact h2 i hi
  · intro i hi
    have q' : i ∈ K ∨ i = pa := by simpa [Rz.KK, fpR] using hi
    rcases q' with q' | q'
    · exact h3 i q'
    · omega
set_option maxRecDepth 100000 in
set_option maxHeartbeats 1000000 in
theorem new_out (hc : Md.cfgB a b c e = true) (hn : cs.length = n) (hk : l.length = k) (hk8 : k ≤ 8) (hT : Shaped5 w) (hC : CodeAt w ao cs) (hL : FlAt w po l) (hnl : n ≤ 9223372036854775807) (ht : ¬ (0 ≤ th ∧ th < b)) : Calls Tryz.prog 35 #[cfgV a b c e, .int .i64 th, .agg #[.int .i64 t, .slice ao n cap], .slice po k co] w fun r w' => r = .returned (.pointer none) ∧ Below w.heap.size w w' := by
  have HN : Hid (∀ u, Below w.heap.size w u → Calls Tryz.prog 75 #[cfgV a b c e, .agg #[.int .i64 t, .slice ao n cap], .slice po k co] u fun r w' => ∃ bm K pa, r = .returned (.tuple #[.agg (trC a b (some ⟨bm, 0, none⟩) 0 t (some ⟨pa, 0, none⟩) k k), .bool true]) ∧ Begun u w' bm pa K k l (newM a c e t cs l)) := fun u hb => begin_yes hc hn hk hk8 (hT.on hb) (hC.on hb) (hL.on hb) hnl
  have HW : Hid (Below w.heap.size w ((w.alloc (cfgO a b c e)).alloc (prgO t ao n cap))) := (below_alloc w _).trans ((below_alloc _ _).mono (by simp))
  clear hc hn hk hk8 hT hC hL hnl
  by_cases h0 : th < 0
  · go_enter Tryz.func35, Tryz.ntmps35
    go_wp2_with (go_at_call 75; refine (HN.out _ HW.out).mono ?_; rintro e u1 ⟨bm, K, pa, rfl, q⟩; have H1 := Lib.hid (q.from HW.out).below; clear q HN)
    go_ret
    exact ⟨rfl, H1.out.alloc H1.out.size _⟩
  · have h1 : b ≤ th := by omega
    go_enter Tryz.func35, Tryz.ntmps35
    go_wp2_with (go_at_call 75; refine (HN.out _ HW.out).mono ?_; rintro e u1 ⟨bm, K, pa, rfl, q⟩; have H1 := Lib.hid (q.from HW.out).below; have e1 : u1.cell? ⟨w.heap.size, 1, none⟩ = some (.int .i64 b) := (newW_boxes4 q.below).2.1; have l1 : w.heap.size < u1.heap.size := (newW_boxes4 q.below).2.2.2.2; clear q HN)
    go_ret
    exact ⟨rfl, H1.out.alloc H1.out.size _⟩
set_option maxRecDepth 100000 in
set_option maxHeartbeats 1000000 in
theorem new_yes (hc : Md.cfgB a b c e = true) (hn : cs.length = n) (hk : l.length = k) (hk8 : k ≤ 8) (hT : Shaped5 w) (hC : CodeAt w ao cs) (hL : FlAt w po l) (hnl : n ≤ 9223372036854775807) (h0 : 0 ≤ th) (h1 : th < b) : Calls Tryz.prog 35 #[cfgV a b c e, .int .i64 th, .agg #[.int .i64 t, .slice ao n cap], .slice po k co] w fun r w' => ∃ bx, r = .returned (.pointer (some ⟨bx, 0, none⟩)) ∧ Made w w' bx (newX a b c e t cs l th) := by
  have HN : Hid (∀ u, Below w.heap.size w u → Calls Tryz.prog 75 #[cfgV a b c e, .agg #[.int .i64 t, .slice ao n cap], .slice po k co] u fun r w' => ∃ bm K pa, r = .returned (.tuple #[.agg (trC a b (some ⟨bm, 0, none⟩) 0 t (some ⟨pa, 0, none⟩) k k), .bool true]) ∧ Begun u w' bm pa K k l (newM a c e t cs l)) := fun u hb => begin_yes hc hn hk hk8 (hT.on hb) (hC.on hb) (hL.on hb) hnl
  have HW : Hid (Below w.heap.size w ((w.alloc (cfgO a b c e)).alloc (prgO t ao n cap))) := (below_alloc w _).trans ((below_alloc _ _).mono (by simp))
  have HMD : Hid (∀ u1 u3 bm pa xc K v, Begun w u1 bm pa K k l (newM a c e t cs l) → Below u1.heap.size u1 u3 → u1.heap.size ≤ xc → Md.Cv.CmAt u3 xc ⟨2, 3, th, 0, 0, 0⟩ → Same (u3.alloc (.cells #[.int .i64 0, .int .i64 1, .int .i64 2, .int .i64 3, .int .i64 (3 + b), .int .i64 (3 + b + 3 * a), .pointer (some ⟨bm, 0, none⟩), .int .i64 0, .int .i64 t, .slice (some ⟨pa, 0, none⟩) k k, .int .i64 th, .int .i64 1, .pointer (some ⟨xc, 0, none⟩), .pointer none] 106)) v → Made w v u3.heap.size (newX a b c e t cs l th)) := fun u1 u3 bm pa xc K v q1 q2 q3 q4 q5 => made_of hk q1 q2 q3 q4 q5
  have HCO : Hid (∀ u, Calls Tryz.prog 76 #[.agg #[.int .i64 0, .int .i64 1, .int .i64 2, .int .i64 3, .int .i64 (3 + b), .int .i64 (3 + b + 3 * a)], .int .i64 th] u fun e w' => ∃ x, e = .returned (.pointer (some ⟨x, 0, none⟩)) ∧ u.heap.size ≤ x ∧ Md.Cv.CmAt w' x ⟨2, 3, th, 0, 0, 0⟩ ∧ Below u.heap.size u w') := fun u => Md.Cv.come_any 0 1 2 3 (3 + b) (3 + b + 3 * a) th u
  clear hc hn hk hk8 hT hC hL hnl
  generalize newX a b c e t cs l th = X at *
  generalize newM a c e t cs l = m0 at *
  have h4 : Hid (∃ p4, p4 = 3 + b) := ⟨_, rfl⟩
  obtain ⟨p5, h5⟩ : ∃ p5, 3 + b + 3 * a = p5 := ⟨_, rfl⟩
  obtain ⟨p4, h4⟩ : ∃ p4, 3 + b = p4 := ⟨_, rfl⟩
  rw [h5, h4] at HMD HCO
  unfold trC at HN
  rw [h5, h4] at HN
  clear h4 h5
  go_enter Tryz.func35, Tryz.ntmps35
  go_wp2_with (go_at_call 75; refine (HN.out _ HW.out).mono ?_; rintro e u1 ⟨bm, K, pa, rfl, q⟩; have H1 := Lib.hid (q.from HW.out); have e1 : u1.cell? ⟨w.heap.size, 1, none⟩ = some (.int .i64 b) := (newW_boxes4 q.below).2.1; have l1 : w.heap.size < u1.heap.size := (newW_boxes4 q.below).2.2.2.2; clear q HN)
  obtain ⟨u2, hu2⟩ : ∃ u2, u2 = u1.alloc (.cells #[.int .i64 0, .int .i64 1, .int .i64 2, .int .i64 3, .int .i64 p4, .int .i64 p5, .pointer (some ⟨bm, 0, none⟩), .int .i64 0, .int .i64 t, .slice (some ⟨pa, 0, none⟩) k k] 102) := ⟨_, rfl⟩
  rw [← hu2]
  have H2 := Lib.hid (H1.out.on (below_alloc u1 (.cells #[.int .i64 0, .int .i64 1, .int .i64 2, .int .i64 3, .int .i64 p4, .int .i64 p5, .pointer (some ⟨bm, 0, none⟩), .int .i64 0, .int .i64 t, .slice (some ⟨pa, 0, none⟩) k k] 102)))
  rw [← hu2] at H2
  obtain ⟨⟨s0, s1, s2, s3, s4, s5, s6, s7, s8, s9, s10⟩, _⟩ := cells10 (show u2.heap[u1.heap.size]? = _ by rw [hu2]; exact heap_alloc_new _ _)
  clear hu2
  refine wp_region_seq (fun u => u.cell? ⟨u1.heap.size, 0, none⟩ = some (.int .i64 0) ∧ u.cell? ⟨u1.heap.size, 1, none⟩ = some (.int .i64 1) ∧ u.cell? ⟨u1.heap.size, 2, none⟩ = some (.int .i64 2) ∧ u.cell? ⟨u1.heap.size, 3, none⟩ = some (.int .i64 3) ∧ u.cell? ⟨u1.heap.size, 4, none⟩ = some (.int .i64 p4) ∧ u.cell? ⟨u1.heap.size, 5, none⟩ = some (.int .i64 p5) ∧ u.cell? ⟨u1.heap.size, 6, none⟩ = some (.pointer (some ⟨bm, 0, none⟩)) ∧ u.cell? ⟨u1.heap.size, 7, none⟩ = some (.int .i64 0) ∧ u.cell? ⟨u1.heap.size, 8, none⟩ = some (.int .i64 t) ∧ u.cell? ⟨u1.heap.size, 9, none⟩ = some (.slice (some ⟨pa, 0, none⟩) k k) )  ((0, true) :: (1, true) :: (2, true) :: (3, true) :: (4, true) :: (5, false) :: (6, true) :: (7, false) :: (8, true) :: [])  Md.Cv.follows13 (by kernel_rfl) (fun _ _ _ _ _ h => h)  ⟨s0, s1, s2, s3, s4, s5, s6, s7, s8, s9⟩ ?_
  (repeat ((first | (refine wpSeq_take (v := ?_) rfl (by rfl) (fun wq hSq => ?_) ?_; rotate_left; (focus ((try dsimp only at hSq); go_simp; try with_reducible rfl))) | refine wpSeq_skip rfl (by rfl) ?_); simp only [Act.put, List.setIfInBounds_toArray, List.set_cons_zero, List.set_cons_succ]))
  (refine wpSeq_do rfl (by rfl) (fun KK hK => ?_); go_simp)
  refine (HCO.out _).mono ?_
  rintro e u3 ⟨xc, rfl, q1, q2, q3⟩
  have H3 : Hid (u2.heap.size ≤ xc ∧ Md.Cv.CmAt u3 xc ⟨2, 3, th, 0, 0, 0⟩ ∧ Below u2.heap.size u2 u3) := ⟨q1, q2, ((Same.drew u2).below _).trans q3⟩
  clear q1 q2 q3
  have ck : ∀ (j : Nat) (v : Value), u2.cell? ⟨u1.heap.size, j, none⟩ = some v → u3.cell? ⟨u1.heap.size, j, none⟩ = some v := fun j v hv => (H3.out.2.2.cell (p := ⟨u1.heap.size, j, none⟩) s10).trans hv
  refine hK.out _ _ ⟨ck 0 _ s0, ck 1 _ s1, ck 2 _ s2, ck 3 _ s3, ck 4 _ s4, ck 5 _ s5, ck 6 _ s6, ck 7 _ s7, ck 8 _ s8, ck 9 _ s9⟩ ?_
  (clear hK KK; try simp only [Act.put, List.setIfInBounds_toArray, List.set_cons_zero, List.set_cons_succ])
  (repeat ((first | (refine wpSeq_take (v := ?_) rfl (by rfl) (fun wq hSq => ?_) ?_; rotate_left; (focus ((try dsimp only at hSq); go_simp; try with_reducible rfl))) | refine wpSeq_skip rfl (by rfl) ?_); simp only [Act.put, List.setIfInBounds_toArray, List.set_cons_zero, List.set_cons_succ]))
  (refine wpSeq_do rfl (by rfl) (fun KK hK => ?_); go_simp)
  have l3 : u1.heap.size < u3.heap.size := Nat.lt_of_lt_of_le s10 H3.out.2.2.size
  have ck2 : ∀ (o : Obj) (j : Nat) (v : Value), u2.cell? ⟨u1.heap.size, j, none⟩ = some v → (u3.alloc o).cell? ⟨u1.heap.size, j, none⟩ = some v := fun o j v hv => (World.cell?_alloc_old _ _ _ (Nat.ne_of_lt l3)).trans (ck j v hv)
  refine hK.out _ _ ⟨ck2 _ 0 _ s0, ck2 _ 1 _ s1, ck2 _ 2 _ s2, ck2 _ 3 _ s3, ck2 _ 4 _ s4, ck2 _ 5 _ s5, ck2 _ 6 _ s6, ck2 _ 7 _ s7, ck2 _ 8 _ s8, ck2 _ 9 _ s9⟩ ?_
  clear ck ck2
  (clear hK KK; try simp only [Act.put, List.setIfInBounds_toArray, List.set_cons_zero, List.set_cons_succ])
  (repeat ((first | (refine wpSeq_take (v := ?_) rfl (by rfl) (fun wq hSq => ?_) ?_; rotate_left; (focus ((try dsimp only at hSq); go_simp; try with_reducible rfl))) | refine wpSeq_skip rfl (by rfl) ?_); simp only [Act.put, List.setIfInBounds_toArray, List.set_cons_zero, List.set_cons_succ]))
  refine wpSeq_nil ?_
  go_wp2_with fail
  go_ret
  exact ⟨_, rfl, HMD.out _ _ _ _ _ _ _ H2.out H3.out.2.2 H3.out.1 H3.out.2.1 (Same.refl _)⟩
end
end Go.Proofs.YtninicfnhoediaaGreatDoor.Rr
namespace Go.Proofs.YtninicfnhoediaaGreatDoor.Rr
open Go.ChangeShapes Go.WideShapes Go.ChangeAt Go.RowKit Num
attribute [local go_sem] run_store_float
structure Dd where
  pa : Option Addr
  ca : Nat
  pr : Option Addr
  cr : Nat
  pw : Option Addr
  cw : Nat
  po : Option Addr
  co : Nat
structure DdAt (w : World) (B : Nat) (D : Dd) (args : List Nat) (m : Mac) : Prop where
  a : RowAt 71 w D.pa D.ca (fls args)
  r : TRow w D.pr D.cr m.reads
  wr : TRow w D.pw D.cw m.buf
  o : RowAt 71 w D.po D.co (fls m.out)
  xa : Abv B (fpR D.pa)
  xr : Abv B (fpR D.pr)
  xw : Abv B (fpR D.pw)
  xo : Abv B (fpR D.po)
theorem DdAt.on {w w' : World} {B : Nat} {D : Dd} {args : List Nat} {m : Mac} (h : DdAt w B D args m) (k : Below w.heap.size w w') : DdAt w' B D args m := ⟨h.a.on k, h.r.on k, h.wr.on k, h.o.on k, h.xa, h.xr, h.xw, h.xo⟩
theorem DdAt.keep {w w' : World} {B : Nat} {D : Dd} {args : List Nat} {m : Mac} (h : DdAt w B D args m) (k : ∀ i, B ≤ i → i < w.heap.size → w'.heap[i]? = w.heap[i]?) (hs : w.heap.size ≤ w'.heap.size) : DdAt w' B D args m :=
  ⟨h.a.keep ⟨hs, fun i hi => k i (h.xa i hi) (h.a.blw i hi)⟩, h.r.keep ⟨hs, fun i hi => k i (h.xr i hi) (h.r.blw i hi)⟩, h.wr.keep ⟨hs, fun i hi => k i (h.xw i hi) (h.wr.blw i hi)⟩, h.o.keep ⟨hs, fun i hi => k i (h.xo i hi) (h.o.blw i hi)⟩, h.xa, h.xr, h.xw, h.xo⟩
theorem DdAt.mono {w : World} {B B' : Nat} {D : Dd} {args : List Nat} {m : Mac} (h : DdAt w B D args m) (k : B' ≤ B) : DdAt w B' D args m := ⟨h.a, h.r, h.wr, h.o, h.xa.mono k, h.xr.mono k, h.xw.mono k, h.xo.mono k⟩
abbrev dC (t : Int) (na : Nat) (m : Mac) (D : Dd) (mark e0 e1 e2 st : Int) : Array Value := #[.int .i64 0, .int .i64 0, .int .i64 0, .int .i64 t, .slice D.pa na D.ca, .int .i64 mark, .int .i64 0, .slice D.pr m.reads.length D.cr, .slice D.pw m.buf.length D.cw, .slice D.po m.out.length D.co, .int .i64 e0, .int .i64 e1, .int .i64 e2, .int .i64 0, .int .i64 0, .int .i64 st, .int .i64 0, .int .i64 0, .int .i64 0]
abbrev dZ : Obj := .cells #[.int .i64 0, .int .i64 0, .int .i64 0, .int .i64 0, .slice none 0 0, .int .i64 0, .int .i64 0, .slice none 0 0, .slice none 0 0, .slice none 0 0, .int .i64 0, .int .i64 0, .int .i64 0, .int .i64 0, .int .i64 0, .int .i64 0, .int .i64 0, .int .i64 0, .int .i64 0] 61
theorem deed_back {fn : Func} {p : Tmp} (h : fn.results = #[.cell p 61]) {R : Ending → World → Prop} {a : Act} {w : World} (g : Nat) {t : Int} {na : Nat} {m : Mac} {D : Dd} {mark e0 e1 e2 st : Int} (hp : a.tmps.getD p undef = .pointer (some ⟨g, 0, none⟩))
    (hg : w.heap[g]? = some (.cells (dC t na m D mark e0 e1 e2 st) 61 (0, 0))) (hd : a.defers = []) (hR : R (.returned (.agg (dC t na m D mark e0 e1 e2 st))) w) : bodyPost Tryz.prog fn R .ret a w :=
  bodyPost_ret (results_cell_row h _ _ g _ _ _ _ hp hg Tryz.underlying61 rfl (by kernel_rfl)) hd hR
theorem deedInfo : (Tryz.prog.info? 61).map (·.size) = some 19 := by kernel_rfl
theorem deed_one (t : Int) (na : Nat) (m : Mac) (D : Dd) (mark e0 e1 e2 st : Int) : (dC t na m D mark e0 e1 e2 st).all (·.oneCell') = true := by simp [Value.oneCell']
section
variable {w : World} {b : Nat} {x : Rx} {z : Rz} {q : Option Nat} {F : List Nat} {c : Md.Cv.Cs} {r : Md.Ce.Rd}
set_option maxRecDepth 100000 in
set_option maxHeartbeats 2000000 in
theorem deed_any (h : RawAt w b x z q F c r) (hI : Inv x.m) (hf : x.args.length ≤ 8) {na : Nat} (hna : x.args.length = na) {m : Mac} (hm : x.m = m) : Calls Tryz.prog 50 #[.pointer (some ⟨b, 0, none⟩)] w fun e w' => ∃ D, e = .returned (.agg (dC x.tag na m D 0 0 0 0 x.steps)) ∧ DdAt w' w.heap.size D x.args m ∧ Below w.heap.size w w' := by
  subst hm hna
  have ho := hI.out
  have hr := hI.reads
  have hu := hI.used
  have hfu := hI.fuel
  have hw0 : (x.m.reads.length : Int) ≤ 1024 := by split at hr <;> omega
  have HC : Hid (∀ u, Below w.heap.size w u → Calls Tryz.prog 91 #[.slice z.pa x.args.length z.ca] u fun e w' => ∃ p' c', e = .returned (.slice p' x.args.length c') ∧ RowAt 71 w' p' c' (fls x.args) ∧ Abv u.heap.size (fpR p') ∧ Below u.heap.size u w') := fun u hu => cloneOut (h.on hu).arg rfl (by omega)
  have HR : Hid (∀ u, Below w.heap.size w u → Calls Tryz.prog 92 #[.pointer (some ⟨z.bm, 0, none⟩)] u fun e w' => ∃ p' c', e = .returned (.slice p' x.m.reads.length c') ∧ TRow w' p' c' x.m.reads ∧ Abv u.heap.size (fpR p') ∧ Below u.heap.size u w') := fun u hu => reads_any (h.on hu).mac.gm (by omega)
  have HWR : Hid (∀ u, Below w.heap.size w u → Calls Tryz.prog 68 #[.pointer (some ⟨z.bm, 0, none⟩)] u fun e w' => e = .returned (.slice (some ⟨u.heap.size, 0, none⟩) x.m.buf.length x.m.buf.length) ∧ TRow w' (some ⟨u.heap.size, 0, none⟩) x.m.buf.length x.m.buf ∧ Below u.heap.size u w') := fun u hu => writes_any (h.on hu).mac.gm
  have HOU : Hid (∀ u, Below w.heap.size w u → Calls Tryz.prog 93 #[.pointer (some ⟨z.bm, 0, none⟩)] u fun e w' => ∃ p' c', e = .returned (.slice p' x.m.out.length c') ∧ RowAt 71 w' p' c' (fls x.m.out) ∧ Abv u.heap.size (fpR p') ∧ Below u.heap.size u w') := fun u hu => out_any (h.on hu).mac.gm (by omega)
  have HB : Hid (∀ u, Below w.heap.size w u → u.cell? ⟨b, 6, none⟩ = some (.pointer (some ⟨z.bm, 0, none⟩)) ∧ u.cell? ⟨b, 7, none⟩ = some (.int .i64 x.steps) ∧ u.cell? ⟨b, 8, none⟩ = some (.int .i64 x.tag) ∧ u.cell? ⟨b, 9, none⟩ = some (.slice z.pa x.args.length z.ca) ∧ b < u.heap.size) := fun u hu => ⟨((h.on hu).cell 6).trans rfl, ((h.on hu).cell 7).trans rfl, ((h.on hu).cell 8).trans rfl, ((h.on hu).cell 9).trans rfl, (h.on hu).ltB⟩
  clear h hI hf ho hr hu hfu hw0
  have H0 : Hid (Below w.heap.size w (w.alloc dZ) ∧ (w.alloc dZ).heap[w.heap.size]? = some dZ) := ⟨below_alloc _ _, heap_alloc_new _ _⟩
  obtain ⟨e6, e7, e8, e9, eb⟩ := HB.out _ H0.out.1
  go_enter Tryz.func50, Tryz.ntmps50
  go_wp2_with fail
  obtain ⟨w1, hw1⟩ : ∃ w1, w1 = w.alloc dZ := ⟨_, rfl⟩
  rw [← hw1] at H0 e6 e7 e8 e9 eb
  rw [show w.alloc (.cells #[.int .i64 0, .int .i64 0, .int .i64 0, .int .i64 0, .slice none 0 0, .int .i64 0, .int .i64 0, .slice none 0 0, .slice none 0 0, .slice none 0 0, .int .i64 0, .int .i64 0, .int .i64 0, .int .i64 0, .int .i64 0, .int .i64 0, .int .i64 0, .int .i64 0, .int .i64 0] 61) = w1 from hw1.symm]
  clear hw1
  refine wp_region_seq (fun u => u.cell? ⟨b, 6, none⟩ = some (.pointer (some ⟨z.bm, 0, none⟩)) ∧ u.cell? ⟨b, 7, none⟩ = some (.int .i64 x.steps) ∧ u.cell? ⟨b, 8, none⟩ = some (.int .i64 x.tag) ∧ u.cell? ⟨b, 9, none⟩ = some (.slice z.pa x.args.length z.ca) )  ((0, true) :: (1, true) :: (2, true) :: (3, true) :: (4, true) :: (5, true) :: (6, true) :: (7, true) :: (9, true) :: (10, true) :: (11, true) :: (12, true) :: (14, true) :: (15, true) :: (16, true) :: (17, true) :: (19, true) :: (20, true) :: (21, true) :: (22, true) :: (24, true) :: (25, true) :: (26, true) :: (27, true) :: (8, false) :: (13, false) :: (18, false) :: (23, false) :: (28, true) :: (29, false) :: [])  Md.Cv.follows13 (by kernel_rfl) (fun _ _ _ _ _ h => h)  ⟨e6, e7, e8, e9⟩ ?_
  (repeat ((first | (refine wpSeq_take (v := ?_) rfl (by rfl) (fun wq hSq => ?_) ?_; rotate_left; (focus ((try dsimp only at hSq); go_simp; try with_reducible rfl))) | refine wpSeq_skip rfl (by rfl) ?_); simp only [Act.put, List.setIfInBounds_toArray, List.set_cons_zero, List.set_cons_succ]))
  (refine wpSeq_do rfl (by rfl) (fun KK hK => ?_); go_simp)
  refine (HC.out _ (H0.out.1.trans ((Same.drew w1).below _))).mono ?_
  rintro e u2 ⟨p2, c2, rfl, a1, a2, a3⟩
  have A2 : Hid (RowAt 71 u2 p2 c2 (fls x.args) ∧ Abv w1.heap.size (fpR p2) ∧ Below w1.heap.size w1 u2 ∧ Below w.heap.size w u2) := ⟨a1, a2, ((Same.drew w1).below _).trans a3, (H0.out.1.trans ((Same.drew w1).below _)).trans (a3.mono H0.out.1.size)⟩
  clear a1 a2 a3
  obtain ⟨s6, s7, s8, s9, _⟩ := HB.out _ A2.out.2.2.2
  refine hK.out _ _ ⟨s6, s7, s8, s9⟩ ?_
  (clear hK KK; try simp only [Act.put, List.setIfInBounds_toArray, List.set_cons_zero, List.set_cons_succ])
  (refine wpSeq_do rfl (by rfl) (fun KK hK => ?_); go_simp)
  refine (HR.out _ A2.out.2.2.2).mono ?_
  rintro e u3 ⟨p3, c3, rfl, a1, a2, a3⟩
  have A3 : Hid (TRow u3 p3 c3 x.m.reads ∧ Abv w1.heap.size (fpR p3) ∧ Below u2.heap.size u2 u3 ∧ Below w1.heap.size w1 u3 ∧ Below w.heap.size w u3) := ⟨a1, a2.mono A2.out.2.2.1.size, a3, A2.out.2.2.1.trans (a3.mono A2.out.2.2.1.size), A2.out.2.2.2.trans (a3.mono A2.out.2.2.2.size)⟩
  clear a1 a2 a3 s6 s7 s8 s9
  obtain ⟨s6, s7, s8, s9, _⟩ := HB.out _ A3.out.2.2.2.2
  refine hK.out _ _ ⟨s6, s7, s8, s9⟩ ?_
  (clear hK KK; try simp only [Act.put, List.setIfInBounds_toArray, List.set_cons_zero, List.set_cons_succ])
  (refine wpSeq_do rfl (by rfl) (fun KK hK => ?_); go_simp)
  refine (HWR.out _ A3.out.2.2.2.2).mono ?_
  rintro e u4 ⟨rfl, a1, a3⟩
  have A4 : Hid (TRow u4 (some ⟨u3.heap.size, 0, none⟩) x.m.buf.length x.m.buf ∧ Abv w1.heap.size (fpR (some ⟨u3.heap.size, 0, none⟩)) ∧ Below u3.heap.size u3 u4 ∧ Below w1.heap.size w1 u4 ∧ Below w.heap.size w u4) := ⟨a1, (fun i hi => by have := A3.out.2.2.2.1.size; simp [fpR] at hi; omega), a3, A3.out.2.2.2.1.trans (a3.mono A3.out.2.2.2.1.size), A3.out.2.2.2.2.trans (a3.mono A3.out.2.2.2.2.size)⟩
  clear a1 a3 s6 s7 s8 s9
  obtain ⟨s6, s7, s8, s9, _⟩ := HB.out _ A4.out.2.2.2.2
  refine hK.out _ _ ⟨s6, s7, s8, s9⟩ ?_
  (clear hK KK; try simp only [Act.put, List.setIfInBounds_toArray, List.set_cons_zero, List.set_cons_succ])
  (refine wpSeq_do rfl (by rfl) (fun KK hK => ?_); go_simp)
  refine (HOU.out _ A4.out.2.2.2.2).mono ?_
  rintro e u5 ⟨p5, c5, rfl, a1, a2, a3⟩
  have A5 : Hid (RowAt 71 u5 p5 c5 (fls x.m.out) ∧ Abv w1.heap.size (fpR p5) ∧ Below u4.heap.size u4 u5 ∧ Below w1.heap.size w1 u5 ∧ Below w.heap.size w u5) := ⟨a1, a2.mono A4.out.2.2.2.1.size, a3, A4.out.2.2.2.1.trans (a3.mono A4.out.2.2.2.1.size), A4.out.2.2.2.2.trans (a3.mono A4.out.2.2.2.2.size)⟩
  clear a1 a2 a3 s6 s7 s8 s9
  obtain ⟨s6, s7, s8, s9, sb⟩ := HB.out _ A5.out.2.2.2.2
  have HZ5 : Hid (u5.heap[w.heap.size]? = some dZ) := (A5.out.2.2.2.1.block _ (lt_of_block H0.out.2)).trans H0.out.2
  have HDD : Hid (DdAt u5 w1.heap.size ⟨p2, c2, p3, c3, some ⟨u3.heap.size, 0, none⟩, x.m.buf.length, p5, c5⟩ x.args x.m) := by
    have b5 := A5.out.2.2.1
    have b4 := A4.out.2.2.1.trans (b5.mono A4.out.2.2.1.size)
    have b3 := A3.out.2.2.1.trans (b4.mono A3.out.2.2.1.size)
    exact ⟨A2.out.1.on b3, A3.out.1.on b4, A4.out.1.on b5, A5.out.1, A2.out.2.1, A3.out.2.1, A4.out.2.1, A5.out.2.1⟩
  have HNE := Lib.hid (show b ≠ w.heap.size ∧ w.heap.size < w1.heap.size from ⟨fun y => by have := (HB.out w (Below.refl _ _)).2.2.2.2; omega, lt_of_block H0.out.2⟩)
  refine hK.out _ _ ⟨s6, s7, s8, s9⟩ ?_
  (clear hK KK; try simp only [Act.put, List.setIfInBounds_toArray, List.set_cons_zero, List.set_cons_succ])
  (repeat ((first | (refine wpSeq_take (v := ?_) rfl (by rfl) (fun wq hSq => ?_) ?_; rotate_left; (focus ((try dsimp only at hSq); go_simp; try with_reducible rfl))) | refine wpSeq_skip rfl (by rfl) ?_); simp only [Act.put, List.setIfInBounds_toArray, List.set_cons_zero, List.set_cons_succ]))
  refine wpSeq_do rfl (by rfl) (fun KK hK => ?_)
  refine wp_store_row 61 _ _ rfl w.heap.size (dC x.tag x.args.length x.m ⟨p2, c2, p3, c3, some ⟨u3.heap.size, 0, none⟩, x.m.buf.length, p5, c5⟩ 0 0 0 0 x.steps) rfl rfl _ _ HZ5.out deedInfo rfl (deed_one _ _ _ _ _ _ _ _ _) ?_
  have O : ∀ j, (u5.setRow w.heap.size (dC x.tag x.args.length x.m ⟨p2, c2, p3, c3, some ⟨u3.heap.size, 0, none⟩, x.m.buf.length, p5, c5⟩ 0 0 0 0 x.steps)).cell? ⟨b, j, none⟩ = u5.cell? ⟨b, j, none⟩ := fun j => cell_setRow_other _ _ _ _ HNE.out.1
  refine hK.out _ _ ⟨(O 6).trans s6, (O 7).trans s7, (O 8).trans s8, (O 9).trans s9⟩ ?_
  clear O
  (clear hK KK; try simp only [Act.put])
  refine wpSeq_nil ?_
  go_wp2_with fail
  refine deed_back (D := ⟨p2, c2, p3, c3, some ⟨u3.heap.size, 0, none⟩, x.m.buf.length, p5, c5⟩) (m := x.m) rfl w.heap.size rfl (setRow_heap _ _ _ _ _ _ HZ5.out) rfl ⟨_, rfl, ?_, Md.Ce.bl_setRow A5.out.2.2.2.2 (Nat.le_refl _) _⟩
  exact (HDD.out.keep (fun i hi hl => setRow_other _ _ _ _ (by have := HNE.out.2; omega)) (by simp)).mono (by have := HNE.out.2; omega)
theorem over_raw (h : RawAt w b x z q F c r) : Calls Tryz.prog 40 #[.pointer (some ⟨b, 0, none⟩)] w fun e w' => e = .returned (.bool (decide ((x.part : Int) = 4))) ∧ w' = w := by
  have h11 : w.cell? ⟨b, 11, none⟩ = some (.int .i64 (x.part : Int)) := (h.cell 11).trans rfl
  have hb := h.ltB
  clear h
  go_enter Tryz.func40, Tryz.ntmps40
  go_wp2
  go_ret
  exact ⟨rfl, rfl⟩
theorem phase_raw (h : RawAt w b x z q F c r) : Calls Tryz.prog 18 #[.pointer (some ⟨b, 0, none⟩)] w fun e w' => e = .returned (.int .i64 (x.part : Int)) ∧ w' = w := by
  have h11 : w.cell? ⟨b, 11, none⟩ = some (.int .i64 (x.part : Int)) := (h.cell 11).trans rfl
  have hb := h.ltB
  clear h
  go_enter Tryz.func18, Tryz.ntmps18
  go_wp2
  go_ret
  exact ⟨rfl, rfl⟩
def markV (x : Rx) : Int := if x.part = 1 then -1 else wrap64 x.stamp
def endI (x : Rx) (v : Int) : Int := if x.part = 4 then v else 0
set_option maxRecDepth 100000 in
theorem mark_any (h : RawAt w b x z q F (comC x) r) {mk : Int} (hk : markV x = mk) : Calls Tryz.prog 51 #[.pointer (some ⟨b, 0, none⟩)] w fun e w' => e = .returned (.int .i64 mk) ∧ w' = w := by
  have h11 : w.cell? ⟨b, 11, none⟩ = some (.int .i64 (x.part : Int)) := (h.cell 11).trans rfl
  have h12 : w.cell? ⟨b, 12, none⟩ = some (.pointer (some ⟨z.xc, 0, none⟩)) := (h.cell 12).trans rfl
  have hb := h.ltB
  have HS := Lib.hid (Md.Cv.stampC_any h.com)
  unfold comC at HS
  dsimp only at HS
  unfold markV at hk
  clear h
  by_cases e : x.part = 1
  · rw [if_pos e] at hk
    subst hk
    rw [e] at h11
    go_enter Tryz.func51, Tryz.ntmps51
    go_wp2
    go_ret
    exact ⟨rfl, rfl⟩
  · rw [if_neg e] at hk
    subst hk
    have e' : ((x.part : Int) == 1) = false := by simp; omega
    clear e
    go_enter Tryz.func51, Tryz.ntmps51
    go_wp2_with (go_at_call 94; refine HS.out.mono ?_; rintro e w1 ⟨rfl, hw⟩; subst w1)
    go_ret
    exact ⟨rfl, rfl⟩
theorem deed_boxed {w u1 : World} {D : Dd} {args : List Nat} {m : Mac} {t : Int} {na : Nat} {mk st : Int} (h : DdAt u1 (w.heap.size + 1) D args m) (hb : Below w.heap.size w u1) (hz : u1.heap[w.heap.size]? = some dZ) : Below w.heap.size w (u1.alloc (.cells (dC t na m D mk 0 0 0 st) 61)) ∧ (u1.alloc (.cells (dC t na m D mk 0 0 0 st) 61)).heap[u1.heap.size]? = some (.cells (dC t na m D mk 0 0 0 st) 61) ∧ (u1.alloc (.cells (dC t na m D mk 0 0 0 st) 61)).heap[w.heap.size]? = some dZ ∧ DdAt (u1.alloc (.cells (dC t na m D mk 0 0 0 st) 61)) (w.heap.size + 1) D args m :=
  ⟨hb.alloc hb.size _, heap_alloc_new _ _, heap_old hz, h.on (below_alloc _ _)⟩
theorem end_set {u4 : World} {g : Nat} {D : Dd} {m : Mac} {t : Int} {na : Nat} {mk st : Int} (h : u4.heap[g]? = some (.cells (dC t na m D mk 0 0 0 st) 61)) : (((u4.setCell ⟨g, 10, none⟩ (.int .i64 m.how)).setCell ⟨g, 11, none⟩ (.int .i64 m.cod)).setCell ⟨g, 12, none⟩ (.int .i64 m.err)).heap[g]? = some (.cells (dC t na m D mk m.how m.cod m.err st) 61) := by
  have a1 := (heap_setCell_same u4 g 10 _ _ (.int .i64 m.how) h).trans (show _ = some (Obj.cells (dC t na m D mk m.how 0 0 st) 61) from rfl)
  have a2 := (heap_setCell_same _ g 11 _ _ (.int .i64 m.cod) a1).trans (show _ = some (Obj.cells (dC t na m D mk m.how m.cod 0 st) 61) from rfl)
  exact (heap_setCell_same _ g 12 _ _ (.int .i64 m.err) a2).trans (show _ = some (Obj.cells (dC t na m D mk m.how m.cod m.err st) 61) from rfl)
theorem end_oth {u4 : World} {g y : Nat} {o : Obj} (h : u4.heap[y]? = some o) (hn : y ≠ g) (a b c : Int) : (((u4.setCell ⟨g, 10, none⟩ (.int .i64 a)).setCell ⟨g, 11, none⟩ (.int .i64 b)).setCell ⟨g, 12, none⟩ (.int .i64 c)).heap[y]? = some o := (heap_setCell_other _ _ _ _ hn).trans ((heap_setCell_other _ _ _ _ hn).trans ((heap_setCell_other _ _ _ _ hn).trans h))
set_option maxRecDepth 100000 in
set_option maxHeartbeats 2000000 in
theorem Deed_any (h : RawAt w b x z q F (comC x) r) (hI : In0 x) {na : Nat} (hna : x.args.length = na) {m : Mac} (hm : x.m = m) {mk e0 e1 e2 : Int} (hk : markV x = mk) (h0 : endI x m.how = e0) (h1 : endI x m.cod = e1) (h2 : endI x m.err = e2) : Calls Tryz.prog 20 #[.pointer (some ⟨b, 0, none⟩)] w fun e w' => ∃ D, e = .returned (.agg (dC x.tag na m D mk e0 e1 e2 x.steps)) ∧ DdAt w' w.heap.size D x.args m ∧ Below w.heap.size w w' := by
  have HD : Hid (∀ u, Below w.heap.size w u → Calls Tryz.prog 50 #[.pointer (some ⟨b, 0, none⟩)] u fun e w' => ∃ D, e = .returned (.agg (dC x.tag na m D 0 0 0 0 x.steps)) ∧ DdAt w' u.heap.size D x.args m ∧ Below u.heap.size u w') := fun u hu => deed_any (h.on hu) hI.inv hI.few hna hm
  have HM : Hid (∀ u, Below w.heap.size w u → Calls Tryz.prog 51 #[.pointer (some ⟨b, 0, none⟩)] u fun e w' => e = .returned (.int .i64 mk) ∧ w' = u) := fun u hu => mark_any (h.on hu) hk
  have HO : Hid (∀ u, Below w.heap.size w u → Calls Tryz.prog 40 #[.pointer (some ⟨b, 0, none⟩)] u fun e w' => e = .returned (.bool (decide ((x.part : Int) = 4))) ∧ w' = u) := fun u hu => over_raw (h.on hu)
  have HE : Hid (∀ u, Below w.heap.size w u → Calls Tryz.prog 52 #[.pointer (some ⟨z.bm, 0, none⟩)] u fun e w' => e = .returned (.agg #[.int .i64 m.how, .int .i64 m.cod, .int .i64 m.err]) ∧ Below u.heap.size u w') := fun u hu => by
    have := end_any (h.on hu).mac.gm
    rwa [hm] at this
  have HB : Hid (∀ u, Below w.heap.size w u → u.cell? ⟨b, 6, none⟩ = some (.pointer (some ⟨z.bm, 0, none⟩)) ∧ b < u.heap.size) := fun u hu => ⟨((h.on hu).cell 6).trans rfl, (h.on hu).ltB⟩
  have hb := h.ltB
  have HL : Hid (b < w.heap.size) := hb
  have H0 : Hid (Below w.heap.size w (w.alloc dZ) ∧ (w.alloc dZ).heap[w.heap.size]? = some dZ) := ⟨below_alloc _ _, heap_alloc_new _ _⟩
  have hb1 := (HB.out _ H0.out.1).2
  unfold endI at h0 h1 h2
  clear h hI hna hm hk
  by_cases p4 : x.part = 4
  · rw [if_pos p4] at h0 h1 h2
    subst h0 h1 h2
    rw [decide_eq_true (by omega)] at HO
    clear p4
    go_enter Tryz.func20, Tryz.ntmps20
    go_wp2_with (first
      | (refine wpList_store_row rfl 61 _ _ rfl w.heap.size (dC x.tag na m D mk m.how m.cod m.err x.steps) rfl rfl _ _ Y6.out deedInfo rfl (deed_one _ _ _ _ _ _ _ _ _) ?_)
      | (refine wpList_load_row rfl 61 _ rfl u1.heap.size rfl _ (dC x.tag na m D mk m.how m.cod m.err x.steps) _ _ X6.out Tryz.underlying61 rfl deedInfo ?_)
      | (go_at_call 52; refine (HE.out _ B3.out.1).mono ?_; rintro e u4 ⟨rfl, q⟩; have X4 : Hid (u4.heap[u1.heap.size]? = some (.cells (dC x.tag na m D mk 0 0 0 x.steps) 61)) := (q.block _ (lt_of_block B3.out.2.1)).trans B3.out.2.1; have Y4 : Hid (u4.heap[w.heap.size]? = some dZ) := (q.block _ (lt_of_block B3.out.2.2.1)).trans B3.out.2.2.1; have B5 : Hid (Below w.heap.size w u4 ∧ DdAt u4 (w.heap.size + 1) D x.args m) := ⟨B3.out.1.trans (q.mono B3.out.1.size), B3.out.2.2.2.on q⟩; have W4 : Hid (Below u1.heap.size u1 u4) := (below_alloc u1 _).trans (q.mono (by simp)); have k10 : u4.cell? ⟨u1.heap.size, 10, none⟩ = some (.int .i64 0) := (cell_of_row _ _ 10 _ _ _ X4.out).trans rfl; have k11 : u4.cell? ⟨u1.heap.size, 11, none⟩ = some (.int .i64 0) := (cell_of_row _ _ 11 _ _ _ X4.out).trans rfl; have k12 : u4.cell? ⟨u1.heap.size, 12, none⟩ = some (.int .i64 0) := (cell_of_row _ _ 12 _ _ _ X4.out).trans rfl; have f10 := frozen_of_row u4 u1.heap.size 10 _ _ X4.out; have f11 := frozen_of_row u4 u1.heap.size 11 _ _ X4.out; have f12 := frozen_of_row u4 u1.heap.size 12 _ _ X4.out; have l4 := lt_of_block X4.out; have X6 := Lib.hid (end_set X4.out); have Y6 := Lib.hid (end_oth Y4.out (show w.heap.size ≠ u1.heap.size from fun e => by have := lt_of_block A1.out.2.2.2; omega) m.how m.cod m.err); clear q)
      | (go_at_call 40; refine (HO.out _ B3.out.1).mono ?_; rintro e u3 ⟨rfl, hw⟩; subst u3; obtain ⟨t6, tb⟩ := HB.out _ B3.out.1)
      | (go_at_call 51; refine (HM.out _ B2.out.1).mono ?_; rintro e u2 ⟨rfl, hw⟩; subst u2; have B3 := Lib.hid (deed_boxed (mk := mk) (t := x.tag) (na := na) (st := x.steps) A1.out.1 A1.out.2.1 A1.out.2.2.2))
      | (refine wpList_store_row rfl 61 _ _ rfl u1.heap.size (dC x.tag na m D 0 0 0 0 x.steps) rfl rfl _ _ (heap_alloc_new _ _) deedInfo rfl (deed_one _ _ _ _ _ _ _ _ _) ?_; rw [World.setRow_alloc_new]; have B2 := Lib.hid (deed_boxed (mk := 0) (t := x.tag) (na := na) (st := x.steps) A1.out.1 A1.out.2.1 A1.out.2.2.2))
      | (go_at_call 50; refine (HD.out _ H0.out.1).mono ?_; rintro e u1 ⟨D, rfl, q1, q2⟩; have A1 : Hid (DdAt u1 (w.heap.size + 1) D x.args m ∧ Below w.heap.size w u1 ∧ w.heap.size ≤ u1.heap.size ∧ u1.heap[w.heap.size]? = some dZ) := ⟨q1.mono (by simp), H0.out.1.trans (q2.mono H0.out.1.size), (H0.out.1.trans (q2.mono H0.out.1.size)).size, (q2.block _ (lt_of_block H0.out.2)).trans H0.out.2⟩; have lb1 := (HB.out _ A1.out.2.1).2; clear q1 q2 HD))
    refine deed_back (D := D) (m := m) rfl w.heap.size rfl (setRow_heap _ _ _ _ _ _ Y6.out) rfl ⟨_, rfl, ?_, ?_⟩
    · have d4 : DdAt (((u4.setCell ⟨u1.heap.size, 10, none⟩ (.int .i64 m.how)).setCell ⟨u1.heap.size, 11, none⟩ (.int .i64 m.cod)).setCell ⟨u1.heap.size, 12, none⟩ (.int .i64 m.err)) (w.heap.size + 1) D x.args m := by
        have d1 := A1.out.1
        have hu := B5.out.1.size
        have hl4 := lt_of_block X4.out
        have bb := W4.out
        exact d1.keep (fun i _ hl => (heap_setCell_other _ _ _ _ (fun (e : i = u1.heap.size) => by omega)).trans ((heap_setCell_other _ _ _ _ (fun (e : i = u1.heap.size) => by omega)).trans ((heap_setCell_other _ _ _ _ (fun (e : i = u1.heap.size) => by omega)).trans (bb.block i hl)))) (by simpa using bb.size)
      exact (d4.keep (fun i hi _ => setRow_other _ _ _ _ (by omega)) (by simp)).mono (by omega)
    · have hs := A1.out.2.2.1
      exact Md.Ce.bl_setRow (((B5.out.1.setCell hs _).setCell hs _).setCell hs _) (Nat.le_refl _) _
  · rw [if_neg p4] at h0 h1 h2
    subst h0 h1 h2
    rw [decide_eq_false (by omega)] at HO
    clear p4
    go_enter Tryz.func20, Tryz.ntmps20
    go_wp2_with (first
      | (refine wpList_store_row rfl 61 _ _ rfl w.heap.size (dC x.tag na m D mk 0 0 0 x.steps) rfl rfl _ _ B3.out.2.2.1 deedInfo rfl (deed_one _ _ _ _ _ _ _ _ _) ?_)
      | (refine wpList_load_row rfl 61 _ rfl u1.heap.size rfl _ (dC x.tag na m D mk 0 0 0 x.steps) _ _ B3.out.2.1 Tryz.underlying61 rfl deedInfo ?_)
      | (go_at_call 40; refine (HO.out _ B3.out.1).mono ?_; rintro e u3 ⟨rfl, hw⟩; subst u3; obtain ⟨t6, tb⟩ := HB.out _ B3.out.1)
      | (go_at_call 51; refine (HM.out _ B2.out.1).mono ?_; rintro e u2 ⟨rfl, hw⟩; subst u2; have B3 := Lib.hid (deed_boxed (mk := mk) (t := x.tag) (na := na) (st := x.steps) A1.out.1 A1.out.2.1 A1.out.2.2.2))
      | (refine wpList_store_row rfl 61 _ _ rfl u1.heap.size (dC x.tag na m D 0 0 0 0 x.steps) rfl rfl _ _ (heap_alloc_new _ _) deedInfo rfl (deed_one _ _ _ _ _ _ _ _ _) ?_; rw [World.setRow_alloc_new]; have B2 := Lib.hid (deed_boxed (mk := 0) (t := x.tag) (na := na) (st := x.steps) A1.out.1 A1.out.2.1 A1.out.2.2.2))
      | (go_at_call 50; refine (HD.out _ H0.out.1).mono ?_; rintro e u1 ⟨D, rfl, q1, q2⟩; have A1 : Hid (DdAt u1 (w.heap.size + 1) D x.args m ∧ Below w.heap.size w u1 ∧ w.heap.size ≤ u1.heap.size ∧ u1.heap[w.heap.size]? = some dZ) := ⟨q1.mono (by simp), H0.out.1.trans (q2.mono H0.out.1.size), (H0.out.1.trans (q2.mono H0.out.1.size)).size, (q2.block _ (lt_of_block H0.out.2)).trans H0.out.2⟩; have lb1 := (HB.out _ A1.out.2.1).2; clear q1 q2 HD))
    refine deed_back (D := D) (m := m) rfl w.heap.size rfl (setRow_heap _ _ _ _ _ _ B3.out.2.2.1) rfl ⟨_, rfl, ?_, Md.Ce.bl_setRow B3.out.1 (Nat.le_refl _) _⟩
    exact (B3.out.2.2.2.keep (fun i hi _ => setRow_other _ _ _ _ (by omega)) (by simp)).mono (by omega)
end
end Go.Proofs.YtninicfnhoediaaGreatDoor.Rr
namespace Go.Proofs.YtninicfnhoediaaGreatDoor.Rr
open Go.ChangeShapes Go.WideShapes Go.ChangeAt Go.RowKit Num
structure WdAt (w : World) (bw gw : Nat) (ws : List Int) (n : Int) : Prop where
  box : w.heap[bw]? = some (.cells #[.slice (some ⟨gw, 0, none⟩) ws.length ws.length, .int .i64 n] 70 (0, 0))
  row : w.heap[gw]? = some (.cells (u64s ws).toArray 53 (0, 0))
  ne : bw ≠ gw
  many : ws.length ≤ 4096
section
variable {w w' : World} {bw gw : Nat} {ws : List Int} {n : Int}
theorem WdAt.ltB (h : WdAt w bw gw ws n) : bw < w.heap.size := lt_of_block h.box
theorem WdAt.ltG (h : WdAt w bw gw ws n) : gw < w.heap.size := lt_of_block h.row
theorem WdAt.cell0 (h : WdAt w bw gw ws n) : w.cell? ⟨bw, 0, none⟩ = some (.slice (some ⟨gw, 0, none⟩) ws.length ws.length) := (cell_of_row w bw 0 _ _ _ h.box).trans rfl
theorem WdAt.cell1 (h : WdAt w bw gw ws n) : w.cell? ⟨bw, 1, none⟩ = some (.int .i64 n) := (cell_of_row w bw 1 _ _ _ h.box).trans rfl
theorem WdAt.free (h : WdAt w bw gw ws n) (j : Nat) : w.frozen? ⟨bw, j, none⟩ = false := frozen_of_row w bw j _ _ h.box
theorem WdAt.freeG (h : WdAt w bw gw ws n) (j : Nat) : w.frozen? ⟨gw, j, none⟩ = false := frozen_of_row w gw j _ _ h.row
theorem WdAt.word (h : WdAt w bw gw ws n) {i : Nat} (hi : i < ws.length) : w.cell? ⟨gw, i, none⟩ = some (.int .u64 (ws.getD i 0)) := by
  rw [cell_of_row w gw i _ _ _ h.row]
  simp [u64s, hi]
theorem WdAt.keep (h : WdAt w bw gw ws n) (k : Kept [bw, gw] w w') : WdAt w' bw gw ws n := ⟨(k.2 bw (by simp)).trans h.box, (k.2 gw (by simp)).trans h.row, h.ne, h.many⟩
theorem WdAt.setN (h : WdAt w bw gw ws n) (m : Int) : WdAt (w.setCell ⟨bw, 1, none⟩ (.int .i64 m)) bw gw ws m := ⟨(heap_setCell_same w bw 1 _ _ _ h.box).trans rfl, (heap_setCell_other _ _ _ _ (fun (e : gw = bw) => h.ne e.symm)).trans h.row, h.ne, h.many⟩
theorem WdAt.setW (h : WdAt w bw gw ws n) (i : Nat) (v : Int) : WdAt (w.setCell ⟨gw, i, none⟩ (.int .u64 v)) bw gw (ws.set i v) n :=
  ⟨by rw [List.length_set]; exact (heap_setCell_other _ _ _ _ (fun (e : bw = gw) => h.ne e)).trans h.box, (heap_setCell_same w gw i _ _ _ h.row).trans (by rw [List.setIfInBounds_toArray, u64s_set]), h.ne, by rw [List.length_set]; exact h.many⟩
set_option maxRecDepth 100000 in
theorem wload_any (h : WdAt w bw gw ws n) {i : Int} (h0 : 0 ≤ i) (h1 : i < (ws.length : Int)) : Calls Tryz.prog 45 #[.pointer (some ⟨bw, 0, none⟩), .int .i64 i] w fun e w' => e = .returned (.int .u64 (wordAt ws i)) ∧ WdAt w' bw gw ws (up n) ∧ Turn [bw] [bw] w w' := by
  obtain ⟨k, rfl⟩ := Int.eq_ofNat_of_zero_le h0
  have hk : k < ws.length := by omega
  have c1 := h.cell1
  have lb := h.ltB
  have f1 := h.free 1
  have HN := Lib.hid (h.setN (up n))
  have c0 := (h.setN (up n)).cell0
  have cg := (h.setN (up n)).word hk
  have lg := (h.setN (up n)).ltG
  have ne := h.ne
  have HT := Lib.hid (turn_set w bw 1 (.int .i64 (up n)))
  have e : wordAt ws (k : Int) = ws.getD k 0 := rfl
  rw [e]
  generalize ws.getD k 0 = v at cg ⊢
  have hm := h.many
  clear h e h0
  unfold up at *
  go_enter Tryz.func45, Tryz.ntmps45
  go_wp2
  go_ret
  exact ⟨rfl, HN.out, HT.out⟩
set_option maxRecDepth 100000 in
theorem wstore_any (h : WdAt w bw gw ws n) {i : Int} (v : Int) (h0 : 0 ≤ i) (h1 : i < (ws.length : Int)) : Calls Tryz.prog 46 #[.pointer (some ⟨bw, 0, none⟩), .int .i64 i, .int .u64 v] w fun e w' => e = .returned (.tuple #[]) ∧ WdAt w' bw gw (ws.set i.toNat v) (up n) ∧ Turn [bw, gw] [bw, gw] w w' := by
  obtain ⟨k, rfl⟩ := Int.eq_ofNat_of_zero_le h0
  have hk : k < ws.length := by omega
  have c1 := h.cell1
  have lb := h.ltB
  have f1 := h.free 1
  have H1 := h.setN (up n)
  have HN := Lib.hid (H1.setW k v)
  have c0 := H1.cell0
  have cg := H1.word hk
  have lg := H1.ltG
  have fg := H1.freeG k
  have ne := h.ne
  have HT : Hid (Turn [bw, gw] [bw, gw] w ((w.setCell ⟨bw, 1, none⟩ (.int .i64 (up n))).setCell ⟨gw, k, none⟩ (.int .u64 v))) := turn_of (L := [bw, gw]) rfl rfl rfl (by simp) (fun _ y => y) fun j _ hn => (heap_setCell_other _ _ _ _ (fun (e : j = gw) => hn (by simp [e]))).trans (heap_setCell_other _ _ _ _ (fun (e : j = bw) => hn (by simp [e])))
  generalize ws.getD k 0 = v0 at cg
  have hm := h.many
  rw [show ((k : Int)).toNat = k from rfl]
  clear h h0 H1
  unfold up at *
  go_enter Tryz.func46, Tryz.ntmps46
  go_wp2
  go_end0
  exact ⟨rfl, HN.out, HT.out⟩
end
section
attribute [local go_sem] frombits_run bits_run
theorem number_any (v : Int) (w : World) : Calls Tryz.prog 87 #[.int .u64 v] w fun e w' => e = .returned (.float .f64 (fixB v.toNat)) ∧ w' = w := by
  go_enter Tryz.func87, Tryz.ntmps87
  go_wp2_with (first | (go_at_call 78; refine (refFix_any _ _).mono ?_; rintro e w' ⟨rfl, rfl⟩) | go_in)
  go_ret
  exact ⟨rfl, rfl⟩
end
structure Dz where
  br : Nat
  bl : Nat
  KR : List Nat
  pa : Option Addr
  ca : Nat
  cs : List Ins
def dboxX (x : Rx) (z : Dz) : Array Value := #[.int .i64 0, .int .i64 1, .int .i64 2, .int .i64 3, .int .i64 (3 + x.b), .int .i64 (3 + x.b + 3 * x.a), .pointer (some ⟨z.br, 0, none⟩), .int .i64 x.th, .int .i64 x.tag, .slice z.pa x.args.length z.ca, .int .i64 (x.part : Int), .int .i64 (x.sub : Int), .int .u64 x.claim, .int .u64 x.stamp, .int .i64 x.cell, .int .u64 x.ver, .int .u64 x.now, .int .i64 x.steps]
def dAll (bd : Nat) (z : Dz) (q : Rp) : List Nat := bd :: (Fr z.br q ++ (z.KR ++ fpR z.pa))
structure DRaw (w : World) (bd : Nat) (x : Rx) (z : Dz) (q : Rp) : Prop where
  box : w.heap[bd]? = some (.cells (dboxX x z) 55 (0, 0))
  ref : RefAt w z.br q x.m z.cs
  at_ : q.bl = z.bl ∧ fpK q z.cs = z.KR
  arg : Ro w z.pa (fls x.args)
  lp : Blw w (fpR z.pa)
  sb : bd ∉ Fr z.br q ++ (z.KR ++ fpR z.pa)
  sp : z.br ∉ fpR z.pa ∧ z.bl ∉ fpR z.pa
section
variable {w w' : World} {bd : Nat} {x : Rx} {z : Dz} {q : Rp}
theorem DRaw.ltB (h : DRaw w bd x z q) : bd < w.heap.size := lt_of_block h.box
theorem DRaw.blw (h : DRaw w bd x z q) : Blw w (dAll bd z q) := fun k hk => by
  simp only [dAll, List.mem_cons, List.mem_append] at hk
  rcases hk with rfl | hk | hk | hk
  · exact h.ltB
  · exact h.ref.lt k hk
  · exact h.ref.ltk k (by rw [h.at_.2]; exact hk)
  · exact h.lp k hk
theorem DRaw.keep (h : DRaw w bd x z q) (k : Kept (dAll bd z q) w w') : DRaw w' bd x z q :=
  ⟨(k.2 bd (by simp [dAll])).trans h.box, h.ref.keep ⟨k.1, fun i hi => k.2 i (by simp [dAll, hi])⟩ ⟨k.1, fun i hi => k.2 i (by rw [h.at_.2] at hi; simp [dAll, hi])⟩, h.at_, h.arg.keep ⟨k.1, fun i hi => k.2 i (by simp [dAll, hi])⟩, fun i hi => Nat.lt_of_lt_of_le (h.lp i hi) k.1, h.sb, h.sp⟩
theorem DRaw.on (h : DRaw w bd x z q) (k : Below w.heap.size w w') : DRaw w' bd x z q := h.keep (kept_below k h.blw)
theorem DRaw.cell (h : DRaw w bd x z q) (j : Nat) : w.cell? ⟨bd, j, none⟩ = (dboxX x z)[j]? := cell_of_row w bd j _ _ _ h.box
theorem DRaw.free (h : DRaw w bd x z q) (j : Nat) : w.frozen? ⟨bd, j, none⟩ = false := frozen_of_row w bd j _ _ h.box
theorem DRaw.put (h : DRaw w bd x z q) (j : Nat) (v : Value) (x' : Rx) (e : (dboxX x z).setIfInBounds j v = dboxX x' z) (hm : x'.m = x.m) (ha : x'.args = x.args) : DRaw (w.setCell ⟨bd, j, none⟩ v) bd x' z q := by
  have kk : ∀ L : List Nat, (∀ i ∈ L, i ∈ Fr z.br q ++ (z.KR ++ fpR z.pa)) → Kept L w (w.setCell ⟨bd, j, none⟩ v) := fun L hL => keptB (fun hi => h.sb (hL bd hi))
  refine ⟨?_, by rw [hm]; exact h.ref.keep (kk _ (fun i hi => by simp [hi])) (kk _ (fun i hi => by rw [h.at_.2] at hi; simp [hi])), h.at_, by rw [ha]; exact h.arg.keep (kk _ (fun i hi => by simp [hi])), fun i hi => by simpa using h.lp i hi, h.sb, h.sp⟩
  rw [← e]
  exact heap_setCell_same w bd j _ _ v h.box
theorem DRaw.mach (h : DRaw w bd x z q) {m' : Mac} (g : Rg w (Fr z.br q) z.br z.bl z.KR w' m' z.cs) : ∃ q', DRaw w' bd { x with m := m' } z q' ∧ Turn [z.br, z.bl] [z.br, z.bl] w w' ∧ ∀ k ∈ Fr z.br q', k ∈ Fr z.br q ∨ w.heap.size ≤ k := by
  obtain ⟨q', g1, g2, t, g4⟩ := g
  have inF : ∀ k, k ∈ [z.br, z.bl] → k ∈ Fr z.br q := fun k hk => by
    have e := h.at_.1
    simp only [List.mem_cons, List.not_mem_nil, or_false] at hk
    rcases hk with rfl | rfl
    · simp [Fr]
    · simp [Fr, e]
  have nb : bd ∉ [z.br, z.bl] := fun y => h.sb (List.mem_append.2 (.inl (inF bd y)))
  have sp : Sep (fpR z.pa) [z.br, z.bl] := fun k hk y => by
    simp only [List.mem_cons, List.not_mem_nil, or_false] at y
    rcases y with rfl | rfl
    · exact h.sp.1 hk
    · exact h.sp.2 hk
  refine ⟨q', ⟨(t.block bd h.ltB nb).trans h.box, g1, g2, h.arg.keep (t.kept sp h.lp), fun i hi => Nat.lt_of_lt_of_le (h.lp i hi) t.size, fun y => ?_, h.sp⟩, t, g4⟩
  rcases List.mem_append.1 y with y | y
  · rcases g4 bd y with y | y
    · exact h.sb (List.mem_append.2 (.inl y))
    · exact absurd h.ltB (Nat.not_lt.2 y)
  · exact h.sb (List.mem_append.2 (.inr y))
end
def DMid (W : World) (R0 : List Nat) (bd : Nat) (z : Dz) (bw gw : Nat) (w : World) (x : Rx) (ws : List Int) (n : Int) : Prop :=
  ∃ q, DRaw w bd x z q ∧ WdAt w bw gw ws n ∧ Sep [bw, gw] (dAll bd z q) ∧ Turn [bd, z.br, z.bl, bw, gw] [bd, z.br, z.bl, bw, gw] W w ∧ ∀ k ∈ Fr z.br q, k ∈ R0 ∨ W.heap.size ≤ k
section
variable {W w w' : World} {R0 : List Nat} {bd bw gw : Nat} {x : Rx} {z : Dz} {ws : List Int} {n : Int}
theorem DMid.words (h : DMid W R0 bd z bw gw w x ws n) : WdAt w bw gw ws n := by obtain ⟨_, _, h2, _⟩ := h; exact h2
theorem DMid.cell (h : DMid W R0 bd z bw gw w x ws n) (j : Nat) : w.cell? ⟨bd, j, none⟩ = (dboxX x z)[j]? := by obtain ⟨_, h1, _⟩ := h; exact h1.cell j
theorem DMid.free (h : DMid W R0 bd z bw gw w x ws n) (j : Nat) : w.frozen? ⟨bd, j, none⟩ = false := by obtain ⟨_, h1, _⟩ := h; exact h1.free j
theorem DMid.ltB (h : DMid W R0 bd z bw gw w x ws n) : bd < w.heap.size := by obtain ⟨_, h1, _⟩ := h; exact h1.ltB
theorem DMid.on (h : DMid W R0 bd z bw gw w x ws n) (k : Below w.heap.size w w') : DMid W R0 bd z bw gw w' x ws n := by
  obtain ⟨q, h1, h2, h3, h4, h5⟩ := h
  exact ⟨q, h1.on k, h2.keep (kept_below k (fun i hi => by simp only [List.mem_cons, List.not_mem_nil, or_false] at hi; rcases hi with rfl | rfl; exact h2.ltB; exact h2.ltG)), h3, h4.trans (Below.turn k _), h5⟩
theorem DMid.same (h : DMid W R0 bd z bw gw w x ws n) (k : Same w w') : DMid W R0 bd z bw gw w' x ws n := h.on (k.below _)
theorem DMid.drew (h : DMid W R0 bd z bw gw w x ws n) : DMid W R0 bd z bw gw w.drew x ws n := h.same (Same.drew w)
theorem DMid.alloc (h : DMid W R0 bd z bw gw w x ws n) (o : Obj) : DMid W R0 bd z bw gw (w.alloc o) x ws n := h.on (below_alloc _ o)
theorem DMid.put (h : DMid W R0 bd z bw gw w x ws n) (j : Nat) (v : Value) (x' : Rx) (e : (dboxX x z).setIfInBounds j v = dboxX x' z) (hm : x'.m = x.m) (ha : x'.args = x.args) : DMid W R0 bd z bw gw (w.setCell ⟨bd, j, none⟩ v) x' ws n := by
  obtain ⟨q, h1, h2, h3, h4, h5⟩ := h
  have nw : bd ∉ [bw, gw] := fun y => h3 bd y (by simp [dAll])
  exact ⟨q, h1.put j v x' e hm ha, h2.keep (keptB nw), h3, h4.trans (turn_of (L := [bd]) rfl rfl rfl (by simp) (fun k hk => by simp at hk; simp [hk]) fun k _ hn => heap_setCell_other _ _ _ _ (by simpa using hn)), h5⟩
theorem DMid.wrds {ws' : List Int} {n' : Int} (h : DMid W R0 bd z bw gw w x ws n) (t : Turn [bw, gw] [bw, gw] w w') (hw : WdAt w' bw gw ws' n') : DMid W R0 bd z bw gw w' x ws' n' := by
  obtain ⟨q, h1, h2, h3, h4, h5⟩ := h
  exact ⟨q, h1.keep (t.kept h3.symm h1.blw), hw, h3, h4.trans (turn_of (L := [bw, gw]) t.os t.tape t.output t.size (fun k hk => by simp only [List.mem_cons, List.not_mem_nil, or_false] at hk; rcases hk with hk | hk <;> simp [hk]) t.block), h5⟩
theorem DMid.mach (h : DMid W R0 bd z bw gw w x ws n) : ∃ F0, Rg w F0 z.br z.bl z.KR w x.m z.cs ∧ ∀ w' m', Rg w F0 z.br z.bl z.KR w' m' z.cs → DMid W R0 bd z bw gw w' { x with m := m' } ws n := by
  obtain ⟨q, h1, h2, h3, h4, h5⟩ := h
  refine ⟨Fr z.br q, ⟨q, h1.ref, h1.at_, Turn.refl _ _, fun _ y => .inl y⟩, fun w' m' g => ?_⟩
  obtain ⟨q', k1, t, k4⟩ := h1.mach g
  have lw : ∀ i, i ∈ [bw, gw] → i < w.heap.size := fun i hi => by
    simp only [List.mem_cons, List.not_mem_nil, or_false] at hi
    rcases hi with rfl | rfl
    · exact h2.ltB
    · exact h2.ltG
  have inF : ∀ k, k ∈ [z.br, z.bl] → k ∈ dAll bd z q := fun k hk => by
    have e := h1.at_.1
    simp only [List.mem_cons, List.not_mem_nil, or_false] at hk
    rcases hk with rfl | rfl
    · simp [dAll, Fr]
    · simp [dAll, Fr, e]
  refine ⟨q', k1, h2.keep (t.kept (fun i hi y => h3 i hi (inF i y)) lw), fun i hi y => ?_, h4.trans (turn_of (L := [z.br, z.bl]) t.os t.tape t.output t.size (fun k hk => by simp only [List.mem_cons, List.not_mem_nil, or_false] at hk; rcases hk with hk | hk <;> simp [hk]) t.block), fun k hk => ?_⟩
  · simp only [dAll, List.mem_cons, List.mem_append] at y
    rcases y with y | y | y
    · exact h3 i hi (by simp [dAll, y])
    · rcases k4 i y with y | y
      · exact h3 i hi (by simp [dAll, y])
      · exact absurd (lw i hi) (Nat.not_lt.2 y)
    · exact h3 i hi (by simp only [dAll, List.mem_cons, List.mem_append]; exact .inr (.inr y))
  · rcases k4 k hk with y | y
    · exact h5 k y
    · exact .inr (Nat.le_trans h4.size y)
theorem DMid.step (h : DMid W R0 bd z bw gw w x ws n) (hI : Inv x.m) {M : Mac} {A : Ask} (hM : (stepM x.m).1 = M) (hA : (stepM x.m).2 = A) : Calls Tryz.prog 48 #[.pointer (some ⟨z.br, 0, none⟩)] w fun e w' => e = .returned (.agg #[.int .i64 A.kind, .int .i64 A.cell, .float .f64 A.x, .bool A.first]) ∧ DMid W R0 bd z bw gw w' { x with m := M } ws n := by
  obtain ⟨F, g, go⟩ := h.mach
  subst hM hA
  refine (rstep_any g hI).mono ?_
  rintro e w' ⟨rfl, k⟩
  exact ⟨rfl, go _ _ k⟩
theorem DMid.give (h : DMid W R0 bd z bw gw w x ws n) (hI : Inv x.m) (y : Nat) {M : Mac} (hM : giveM x.m y = M) : Calls Tryz.prog 86 #[.pointer (some ⟨z.br, 0, none⟩), .float .f64 y] w fun e w' => e = .returned (.int .i64 (giveE x.m)) ∧ DMid W R0 bd z bw gw w' { x with m := M } ws n := by
  obtain ⟨F, g, go⟩ := h.mach
  subst hM
  refine (rgive_any g hI y).mono ?_
  rintro e w' ⟨rfl, k⟩
  exact ⟨rfl, go _ _ k⟩
theorem DMid.load (h : DMid W R0 bd z bw gw w x ws n) {i : Int} (h0 : 0 ≤ i) (h1 : i < (ws.length : Int)) : Calls Tryz.prog 45 #[.pointer (some ⟨bw, 0, none⟩), .int .i64 i] w fun e w' => e = .returned (.int .u64 (wordAt ws i)) ∧ DMid W R0 bd z bw gw w' x ws (up n) := by
  refine (wload_any h.words h0 h1).mono ?_
  rintro e w' ⟨rfl, k1, k2⟩
  exact ⟨rfl, h.wrds (turn_of (L := [bw]) k2.os k2.tape k2.output k2.size (fun k hk => by simp at hk; simp [hk]) k2.block) k1⟩
theorem DMid.store (h : DMid W R0 bd z bw gw w x ws n) {i : Int} (v : Int) (h0 : 0 ≤ i) (h1 : i < (ws.length : Int)) : Calls Tryz.prog 46 #[.pointer (some ⟨bw, 0, none⟩), .int .i64 i, .int .u64 v] w fun e w' => e = .returned (.tuple #[]) ∧ DMid W R0 bd z bw gw w' x (ws.set i.toNat v) (up n) := by
  refine (wstore_any h.words v h0 h1).mono ?_
  rintro e w' ⟨rfl, k1, k2⟩
  exact ⟨rfl, h.wrds k2 k1⟩
end
end Go.Proofs.YtninicfnhoediaaGreatDoor.Rr
namespace Go.Proofs.YtninicfnhoediaaGreatDoor.Rr
open Go.ChangeShapes Go.WideShapes Go.ChangeAt Go.RowKit Num
section
variable {W w : World} {R0 : List Nat} {bd bw gw : Nat} {x : Rx} {z : Dz} {ws : List Int} {n : Int}
theorem DMid.looks (h : DMid W R0 bd z bw gw w x ws n) {p4 : Int} (h4 : 3 + x.b = p4) : w.cell? ⟨bd, 4, none⟩ = some (.int .i64 p4) ∧ w.cell? ⟨bd, 6, none⟩ = some (.pointer (some ⟨z.br, 0, none⟩)) ∧ w.cell? ⟨bd, 11, none⟩ = some (.int .i64 (x.sub : Int)) ∧ w.cell? ⟨bd, 13, none⟩ = some (.int .u64 x.stamp) ∧ w.cell? ⟨bd, 14, none⟩ = some (.int .i64 x.cell) ∧ w.cell? ⟨bd, 15, none⟩ = some (.int .u64 x.ver) ∧ w.cell? ⟨bd, 16, none⟩ = some (.int .u64 x.now) ∧ bd < w.heap.size := by
  subst h4
  exact ⟨(h.cell 4).trans rfl, (h.cell 6).trans rfl, (h.cell 11).trans rfl, (h.cell 13).trans rfl, (h.cell 14).trans rfl, (h.cell 15).trans rfl, (h.cell 16).trans rfl, h.ltB⟩
theorem atW_in (ha : 1 ≤ x.a ∧ x.a ≤ 256) (hb : 1 ≤ x.b ∧ x.b ≤ 8) (hc : 0 ≤ x.cell) (hca : x.cell < x.a) (hl : plW x ≤ (ws.length : Int)) {p4 c j : Int} (h4 : 3 + x.b = p4) (hcc : x.cell = c) (hj : 0 ≤ j ∧ j < 3) : 0 ≤ p4 + 3 * c + j ∧ p4 + 3 * c + j < (ws.length : Int) ∧ atW x j = p4 + 3 * c + j := by
  unfold plW at hl
  unfold atW
  omega
set_option maxRecDepth 100000 in
set_option maxHeartbeats 1000000 in
theorem dread0 (h : DMid W R0 bd z bw gw w x ws n) (ha : 1 ≤ x.a ∧ x.a ≤ 256) (hb : 1 ≤ x.b ∧ x.b ≤ 8) (hc : 0 ≤ x.cell) (hca : x.cell < x.a) (hl : plW x ≤ (ws.length : Int)) (hs : x.sub = 0) : Calls Tryz.prog 47 #[.pointer (some ⟨bd, 0, none⟩), .pointer (some ⟨bw, 0, none⟩)] w fun e w' => e = .returned (.tuple #[]) ∧ DMid W R0 bd z bw gw w' (readX x ws) ws (up n) := by
  generalize h4 : 3 + x.b = p4
  generalize hcc : x.cell = c
  obtain ⟨a1, a2, a3⟩ := atW_in (j := 0) ha hb hc hca hl h4 hcc (by omega)
  rw [Int.add_zero] at a1 a2 a3
  have HL := Lib.hid (h.drew.load a1 a2)
  rw [← a3] at HL
  have R : readX x ws = { x with ver := wordAt ws (atW x 0), sub := if x.stamp < wordAt ws (atW x 0) then 3 else 1 } := by unfold readX; rw [if_pos hs]
  rw [R]
  generalize wordAt ws (atW x 0) = u at HL ⊢
  rw [a3] at HL
  generalize hsb : (if x.stamp < u then 3 else 1 : Nat) = sb
  have HSB : Hid ((if x.stamp < u then 3 else 1 : Nat) = sb) := hsb
  clear hsb
  have H4 : Hid (3 + x.b = p4) := h4
  have hb4 : 4 ≤ p4 ∧ p4 ≤ 11 := by omega
  have hc4 : 0 ≤ c ∧ c < 256 := by omega
  obtain ⟨c4, c6, c11, c13, c14, c15, c16, lb⟩ := h.looks h4
  rw [hs] at c11
  rw [hcc] at c14
  clear hcc
  have HV3 := Lib.hid (Go.IntWalk.i64_in (3 * c) (by omega))
  have HV4 := Lib.hid (Go.IntWalk.i64_in (p4 + 3 * c) (by omega))
  have HP : Hid (∀ w', DMid W R0 bd z bw gw w' x ws (up n) → DMid W R0 bd z bw gw ((w'.setCell ⟨bd, 15, none⟩ (.int .u64 u)).setCell ⟨bd, 11, none⟩ (.int .i64 1)) { x with ver := u, sub := 1 } ws (up n)) := fun w' k => (k.put 15 (.int .u64 u) { x with ver := u } rfl rfl rfl).put 11 (.int .i64 1) { x with ver := u, sub := 1 } rfl rfl rfl
  clear h ha hb hc hca hl a1 a2 a3 R h4
  go_enter Tryz.func47, Tryz.ntmps47
  go_wp2_with fail
  refine wp_region_seq (fun u => u.cell? ⟨bd, 4, none⟩ = some (.int .i64 p4) ∧ u.cell? ⟨bd, 14, none⟩ = some (.int .i64 c) )  ((0, true) :: (1, true) :: (2, true) :: (3, true) :: (4, true) :: (5, true) :: (6, true) :: (7, true) :: (8, true) :: (9, true) :: (10, true) :: (11, true) :: [])  Md.Cv.follows13 (by kernel_rfl) (fun _ _ _ _ _ h => h)  ⟨c4, c14⟩ ?_
  (repeat ((first | (refine wpSeq_take (v := ?_) rfl (by rfl) (fun wq hSq => ?_) ?_; rotate_left; (focus ((try dsimp only at hSq); go_simp; try with_reducible rfl))) | refine wpSeq_skip rfl (by rfl) ?_); simp only [Act.put, List.setIfInBounds_toArray, List.set_cons_zero, List.set_cons_succ]))
  refine wpSeq_nil ?_
  rw [HV3.out, HV4.out]
  go_wp2_with (go_at_call 45; refine HL.out.mono ?_; rintro e w1 ⟨rfl, k⟩; have HQ := Lib.hid k; obtain ⟨d4, d6, d11, d13, d14, d15, d16, db⟩ := k.looks H4.out; have f15 := k.free 15; have f11 := k.free 11; have HZ := Lib.hid (HP.out _ k); clear k HL)
  obtain ⟨w2, hw2⟩ : ∃ w2, w2 = (w1.setCell ⟨bd, 15, none⟩ (.int .u64 u)).setCell ⟨bd, 11, none⟩ (.int .i64 1) := ⟨_, rfl⟩
  rw [← hw2] at HZ ⊢
  clear hw2 HQ d4 d6 d11 d13 d14 d15 d16 db f15 f11 HP
  obtain ⟨d4, d6, d11, d13, d14, d15, d16, db⟩ := HZ.out.looks (p4 := p4) H4.out
  dsimp only at d13 d15
  have H3 : Hid (DMid W R0 bd z bw gw (w2.setCell ⟨bd, 11, none⟩ (.int .i64 3)).drew { x with ver := u, sub := 3 } ws (up n)) := (HZ.out.put 11 (.int .i64 3) { x with ver := u, sub := 3 } rfl rfl rfl).drew
  have f11 := HZ.out.free 11
  have HW := Lib.hid HZ.out.drew
  clear HZ
  by_cases hv : x.stamp < u
  · have HE : Hid (sb = 3) := by rw [← HSB.out, if_pos hv]; trivial
    clear HSB
    refine wp_region_seq (fun v => v.cell? ⟨bd, 15, none⟩ = some (.int .u64 u) ∧ v.cell? ⟨bd, 13, none⟩ = some (.int .u64 x.stamp) )  ((0, true) :: (1, true) :: (2, true) :: (3, true) :: (4, true) :: (5, true) :: (6, true) :: (7, true) :: (8, true) :: [])  Md.Cv.follows13 (by kernel_rfl) (fun _ _ _ _ _ h => h)  ⟨d15, d13⟩ ?_
    (repeat ((first | (refine wpSeq_take (v := ?_) rfl (by rfl) (fun wq hSq => ?_) ?_; rotate_left; (focus ((try dsimp only at hSq); go_simp; try with_reducible rfl))) | refine wpSeq_skip rfl (by rfl) ?_); simp only [Act.put, List.setIfInBounds_toArray, List.set_cons_zero, List.set_cons_succ]))
    refine wpSeq_nil ?_
    go_wp2_with fail
    go_end0
    exact ⟨rfl, by rw [HE.out]; exact H3.out⟩
  · have HE : Hid (sb = 1) := by rw [← HSB.out, if_neg hv]; trivial
    clear HSB
    have hv' : decide (x.stamp < u) = false := decide_eq_false hv
    refine wp_region_seq (fun v => v.cell? ⟨bd, 15, none⟩ = some (.int .u64 u) ∧ v.cell? ⟨bd, 13, none⟩ = some (.int .u64 x.stamp) )  ((0, true) :: (1, true) :: (2, true) :: (3, true) :: (4, true) :: (5, true) :: (6, true) :: (7, true) :: (8, true) :: [])  Md.Cv.follows13 (by kernel_rfl) (fun _ _ _ _ _ h => h)  ⟨d15, d13⟩ ?_
    (repeat ((first | (refine wpSeq_take (v := ?_) rfl (by rfl) (fun wq hSq => ?_) ?_; rotate_left; (focus ((try dsimp only at hSq); go_simp; try with_reducible rfl))) | refine wpSeq_skip rfl (by rfl) ?_); simp only [Act.put, List.setIfInBounds_toArray, List.set_cons_zero, List.set_cons_succ]))
    refine wpSeq_nil ?_
    go_wp2_with fail
    go_end0
    exact ⟨rfl, by rw [HE.out]; exact HW.out⟩
set_option maxRecDepth 100000 in
set_option maxHeartbeats 1000000 in
theorem dread1 (h : DMid W R0 bd z bw gw w x ws n) (ha : 1 ≤ x.a ∧ x.a ≤ 256) (hb : 1 ≤ x.b ∧ x.b ≤ 8) (hc : 0 ≤ x.cell) (hca : x.cell < x.a) (hl : plW x ≤ (ws.length : Int)) (hs : x.sub = 1) : Calls Tryz.prog 47 #[.pointer (some ⟨bd, 0, none⟩), .pointer (some ⟨bw, 0, none⟩)] w fun e w' => e = .returned (.tuple #[]) ∧ DMid W R0 bd z bw gw w' (readX x ws) ws (up n) := by
  generalize h4 : 3 + x.b = p4
  generalize hcc : x.cell = c
  obtain ⟨a1, a2, a3⟩ := atW_in (j := 1) ha hb hc hca hl h4 hcc (by omega)
  have HL := Lib.hid (h.drew.load a1 a2)
  rw [← a3] at HL
  have R : readX x ws = { x with now := wordAt ws (atW x 1), sub := 2 } := by unfold readX; rw [if_neg (by omega), if_pos hs]
  rw [R]
  generalize wordAt ws (atW x 1) = u at HL ⊢
  rw [a3] at HL
  have H4 : Hid (3 + x.b = p4) := h4
  have hb4 : 4 ≤ p4 ∧ p4 ≤ 11 := by omega
  have hc4 : 0 ≤ c ∧ c < 256 := by omega
  obtain ⟨c4, c6, c11, c13, c14, c15, c16, lb⟩ := h.looks h4
  rw [hs] at c11
  rw [hcc] at c14
  clear hcc
  have HV3 := Lib.hid (Go.IntWalk.i64_in (3 * c) (by omega))
  have HV4 := Lib.hid (Go.IntWalk.i64_in (p4 + 3 * c) (by omega))
  have HP : Hid (∀ w', DMid W R0 bd z bw gw w' x ws (up n) → DMid W R0 bd z bw gw ((w'.setCell ⟨bd, 16, none⟩ (.int .u64 u)).setCell ⟨bd, 11, none⟩ (.int .i64 2)) { x with now := u, sub := 2 } ws (up n)) := fun w' k => (k.put 16 (.int .u64 u) { x with now := u } rfl rfl rfl).put 11 (.int .i64 2) { x with now := u, sub := 2 } rfl rfl rfl
  clear h ha hb hc hca hl a1 a2 a3 R h4
  go_enter Tryz.func47, Tryz.ntmps47
  go_wp2_with fail
  refine wp_region_seq (fun u => u.cell? ⟨bd, 4, none⟩ = some (.int .i64 p4) ∧ u.cell? ⟨bd, 14, none⟩ = some (.int .i64 c) )  ((0, true) :: (1, true) :: (2, true) :: (3, true) :: (4, true) :: (5, true) :: (6, true) :: (7, true) :: (8, true) :: (9, true) :: (10, true) :: (11, true) :: [])  Md.Cv.follows13 (by kernel_rfl) (fun _ _ _ _ _ h => h)  ⟨c4, c14⟩ ?_
  (repeat ((first | (refine wpSeq_take (v := ?_) rfl (by rfl) (fun wq hSq => ?_) ?_; rotate_left; (focus ((try dsimp only at hSq); go_simp; try with_reducible rfl))) | refine wpSeq_skip rfl (by rfl) ?_); simp only [Act.put, List.setIfInBounds_toArray, List.set_cons_zero, List.set_cons_succ]))
  refine wpSeq_nil ?_
  rw [HV3.out, HV4.out]
  go_wp2_with (go_at_call 45; refine HL.out.mono ?_; rintro e w1 ⟨rfl, k⟩; obtain ⟨d4, d6, d11, d13, d14, d15, d16, db⟩ := k.looks H4.out; have f16 := k.free 16; have f11 := k.free 11; have HZ := Lib.hid (HP.out _ k); clear k HL)
  go_end0
  exact ⟨rfl, HZ.out⟩
set_option maxRecDepth 100000 in
set_option maxHeartbeats 1000000 in
theorem dread2 (h : DMid W R0 bd z bw gw w x ws n) (hI : Inv x.m) (ha : 1 ≤ x.a ∧ x.a ≤ 256) (hb : 1 ≤ x.b ∧ x.b ≤ 8) (hc : 0 ≤ x.cell) (hca : x.cell < x.a) (hl : plW x ≤ (ws.length : Int)) (hs : x.sub = 2) : Calls Tryz.prog 47 #[.pointer (some ⟨bd, 0, none⟩), .pointer (some ⟨bw, 0, none⟩)] w fun e w' => e = .returned (.tuple #[]) ∧ DMid W R0 bd z bw gw w' (readX x ws) ws (up n) := by
  generalize h4 : 3 + x.b = p4
  generalize hcc : x.cell = c
  obtain ⟨a1, a2, a3⟩ := atW_in (j := 0) ha hb hc hca hl h4 hcc (by omega)
  rw [Int.add_zero] at a1 a2 a3
  have HL : Hid (∀ w', DMid W R0 bd z bw gw w' { x with sub := 3 } ws n → Calls Tryz.prog 45 #[.pointer (some ⟨bw, 0, none⟩), .int .i64 (p4 + 3 * c)] w' fun e w2 => e = .returned (.int .u64 (wordAt ws (p4 + 3 * c))) ∧ DMid W R0 bd z bw gw w2 { x with sub := 3 } ws (up n)) := fun w' k => k.load a1 a2
  have H4 : Hid (3 + x.b = p4) := h4
  have hb4 : 4 ≤ p4 ∧ p4 ≤ 11 := by omega
  have hc4 : 0 ≤ c ∧ c < 256 := by omega
  obtain ⟨c4, c6, c11, c13, c14, c15, c16, lb⟩ := h.looks h4
  rw [hs] at c11
  rw [hcc] at c14
  clear hcc
  have HV3 := Lib.hid (Go.IntWalk.i64_in (3 * c) (by omega))
  have HV4 := Lib.hid (Go.IntWalk.i64_in (p4 + 3 * c) (by omega))
  have f11 := h.free 11
  have HH := Lib.hid ((h.put 11 (.int .i64 3) { x with sub := 3 } rfl rfl rfl).drew.drew)
  have HG : Hid (∀ w', DMid W R0 bd z bw gw w' { x with sub := 3 } ws (up n) → Calls Tryz.prog 86 #[.pointer (some ⟨z.br, 0, none⟩), .float .f64 (fixB x.now.toNat)] w' fun e w2 => e = .returned (.int .i64 (giveE x.m)) ∧ DMid W R0 bd z bw gw w2 { x with sub := 3, m := giveM x.m (fixB x.now.toNat) } ws (up n)) := fun w' k => k.give hI _ rfl
  have HO : Hid (∀ w', DMid W R0 bd z bw gw w' { x with sub := 3, m := giveM x.m (fixB x.now.toNat) } ws (up n) → DMid W R0 bd z bw gw (w'.setCell ⟨bd, 14, none⟩ (.int .i64 (-1))) { x with m := giveM x.m (fixB x.now.toNat), cell := -1, sub := 3 } ws (up n)) := fun w' k => k.put 14 (.int .i64 (-1)) { x with m := giveM x.m (fixB x.now.toNat), cell := -1, sub := 3 } rfl rfl rfl
  by_cases e : wordAt ws (atW x 0) = x.ver
  · have R : readX x ws = { x with m := giveM x.m (fixB x.now.toNat), cell := -1, sub := 3 } := by unfold readX; rw [if_neg (by omega), if_neg (by omega), if_pos hs, if_pos e]
    rw [R]
    rw [a3] at e
    rw [e] at HL
    clear h hI ha hb hc hca hl a1 a2 a3 R h4 e hs
    generalize giveM x.m (fixB x.now.toNat) = M at *
    generalize giveE x.m = ge at *
    go_enter Tryz.func47, Tryz.ntmps47
    go_wp2_with fail
    refine wp_region_seq (fun u => u.cell? ⟨bd, 4, none⟩ = some (.int .i64 p4) ∧ u.cell? ⟨bd, 14, none⟩ = some (.int .i64 c) )  ((0, true) :: (1, true) :: (2, true) :: (3, true) :: (4, true) :: (5, true) :: (6, true) :: (7, true) :: (8, true) :: (9, true) :: (10, true) :: (11, true) :: [])  Md.Cv.follows13 (by kernel_rfl) (fun _ _ _ _ _ h => h)  ⟨c4, c14⟩ ?_
    (repeat ((first | (refine wpSeq_take (v := ?_) rfl (by rfl) (fun wq hSq => ?_) ?_; rotate_left; (focus ((try dsimp only at hSq); go_simp; try with_reducible rfl))) | refine wpSeq_skip rfl (by rfl) ?_); simp only [Act.put, List.setIfInBounds_toArray, List.set_cons_zero, List.set_cons_succ]))
    refine wpSeq_nil ?_
    rw [HV3.out, HV4.out]
    go_wp2_with fail
    have d15 : (w.setCell ⟨bd, 11, none⟩ (.int .i64 3)).cell? ⟨bd, 15, none⟩ = some (.int .u64 x.ver) := (HH.out.cell 15).trans rfl
    have l2 : bd < (w.setCell ⟨bd, 11, none⟩ (.int .i64 3)).heap.size := HH.out.ltB
    refine wp_region_seq (fun u => u.cell? ⟨bd, 15, none⟩ = some (.int .u64 x.ver) )  ((0, true) :: (1, true) :: (3, true) :: (4, true) :: (5, true) :: (6, true) :: (2, false) :: (7, true) :: [])  Md.Cv.follows13 (by kernel_rfl) (fun _ _ _ _ _ h => h)  d15 ?_
    (repeat ((first | (refine wpSeq_take (v := ?_) rfl (by rfl) (fun wq hSq => ?_) ?_; rotate_left; (focus ((try dsimp only at hSq); go_simp; try with_reducible rfl))) | refine wpSeq_skip rfl (by rfl) ?_); simp only [Act.put, List.setIfInBounds_toArray, List.set_cons_zero, List.set_cons_succ]))
    (refine wpSeq_do rfl (by rfl) (fun KK hK => ?_); go_simp)
    refine (HL.out _ HH.out).mono ?_
    rintro e w1 ⟨rfl, k⟩
    have H1 := Lib.hid k
    have e15 : w1.cell? ⟨bd, 15, none⟩ = some (.int .u64 x.ver) := (k.cell 15).trans rfl
    have e6 : w1.cell? ⟨bd, 6, none⟩ = some (.pointer (some ⟨z.br, 0, none⟩)) := (k.cell 6).trans rfl
    have e16 : w1.cell? ⟨bd, 16, none⟩ = some (.int .u64 x.now) := (k.cell 16).trans rfl
    have l1 := k.ltB
    refine hK.out _ _ e15 ?_
    clear k
    (clear hK KK; try simp only [Act.put, List.setIfInBounds_toArray, List.set_cons_zero, List.set_cons_succ])
    (repeat ((first | (refine wpSeq_take (v := ?_) rfl (by rfl) (fun wq hSq => ?_) ?_; rotate_left; (focus ((try dsimp only at hSq); go_simp; try with_reducible rfl))) | refine wpSeq_skip rfl (by rfl) ?_); simp only [Act.put, List.setIfInBounds_toArray, List.set_cons_zero, List.set_cons_succ]))
    refine wpSeq_nil ?_
    go_wp2_with fail
    have H2 := Lib.hid H1.out.drew
    refine wp_region_seq (fun u => u.cell? ⟨bd, 6, none⟩ = some (.pointer (some ⟨z.br, 0, none⟩)) ∧ u.cell? ⟨bd, 16, none⟩ = some (.int .u64 x.now) )  ((0, true) :: (1, true) :: (2, true) :: (3, true) :: (4, true) :: (5, true) :: (6, true) :: (7, true) :: (8, false) :: (9, false) :: [])  Md.Cv.follows13 (by kernel_rfl) (fun _ _ _ _ _ h => h)  ⟨e6, e16⟩ ?_
    (repeat ((first | (refine wpSeq_take (v := ?_) rfl (by rfl) (fun wq hSq => ?_) ?_; rotate_left; (focus ((try dsimp only at hSq); go_simp; try with_reducible rfl))) | refine wpSeq_skip rfl (by rfl) ?_); simp only [Act.put, List.setIfInBounds_toArray, List.set_cons_zero, List.set_cons_succ]))
    (refine wpSeq_do rfl (by rfl) (fun KK hK => ?_); go_simp)
    refine (number_any _ _).mono ?_
    rintro e w2 ⟨rfl, hw⟩
    subst w2
    refine hK.out _ _ ⟨e6, e16⟩ ?_
    (clear hK KK; try simp only [Act.put, List.setIfInBounds_toArray, List.set_cons_zero, List.set_cons_succ])
    (refine wpSeq_do rfl (by rfl) (fun KK hK => ?_); go_simp)
    refine (HG.out _ H2.out).mono ?_
    rintro e w3 ⟨rfl, k⟩
    have H3 := Lib.hid (HO.out _ k)
    have g14 : w3.cell? ⟨bd, 14, none⟩ = some (.int .i64 x.cell) := (k.cell 14).trans rfl
    have f14 := k.free 14
    have l3 := k.ltB
    refine hK.out _ _ ⟨(k.cell 6).trans rfl, (k.cell 16).trans rfl⟩ ?_
    clear k
    (clear hK KK; try simp only [Act.put, List.setIfInBounds_toArray, List.set_cons_zero, List.set_cons_succ])
    refine wpSeq_nil ?_
    go_wp2_with fail
    go_end0
    exact ⟨rfl, H3.out⟩
  · have R : readX x ws = { x with sub := 3 } := by unfold readX; rw [if_neg (by omega), if_neg (by omega), if_pos hs, if_neg e]
    rw [R]
    rw [a3] at e
    have e' : (wordAt ws (p4 + 3 * c) == x.ver) = false := by simpa using e
    generalize wordAt ws (p4 + 3 * c) = u at HL e'
    clear h hI ha hb hc hca hl a1 a2 a3 R h4 e hs HG HO
    go_enter Tryz.func47, Tryz.ntmps47
    go_wp2_with fail
    refine wp_region_seq (fun u => u.cell? ⟨bd, 4, none⟩ = some (.int .i64 p4) ∧ u.cell? ⟨bd, 14, none⟩ = some (.int .i64 c) )  ((0, true) :: (1, true) :: (2, true) :: (3, true) :: (4, true) :: (5, true) :: (6, true) :: (7, true) :: (8, true) :: (9, true) :: (10, true) :: (11, true) :: [])  Md.Cv.follows13 (by kernel_rfl) (fun _ _ _ _ _ h => h)  ⟨c4, c14⟩ ?_
    (repeat ((first | (refine wpSeq_take (v := ?_) rfl (by rfl) (fun wq hSq => ?_) ?_; rotate_left; (focus ((try dsimp only at hSq); go_simp; try with_reducible rfl))) | refine wpSeq_skip rfl (by rfl) ?_); simp only [Act.put, List.setIfInBounds_toArray, List.set_cons_zero, List.set_cons_succ]))
    refine wpSeq_nil ?_
    rw [HV3.out, HV4.out]
    go_wp2_with fail
    have d15 : (w.setCell ⟨bd, 11, none⟩ (.int .i64 3)).cell? ⟨bd, 15, none⟩ = some (.int .u64 x.ver) := (HH.out.cell 15).trans rfl
    have l2 : bd < (w.setCell ⟨bd, 11, none⟩ (.int .i64 3)).heap.size := HH.out.ltB
    refine wp_region_seq (fun u => u.cell? ⟨bd, 15, none⟩ = some (.int .u64 x.ver) )  ((0, true) :: (1, true) :: (3, true) :: (4, true) :: (5, true) :: (6, true) :: (2, false) :: (7, true) :: [])  Md.Cv.follows13 (by kernel_rfl) (fun _ _ _ _ _ h => h)  d15 ?_
    (repeat ((first | (refine wpSeq_take (v := ?_) rfl (by rfl) (fun wq hSq => ?_) ?_; rotate_left; (focus ((try dsimp only at hSq); go_simp; try with_reducible rfl))) | refine wpSeq_skip rfl (by rfl) ?_); simp only [Act.put, List.setIfInBounds_toArray, List.set_cons_zero, List.set_cons_succ]))
    (refine wpSeq_do rfl (by rfl) (fun KK hK => ?_); go_simp)
    refine (HL.out _ HH.out).mono ?_
    rintro e w1 ⟨rfl, k⟩
    have H1 := Lib.hid k
    have e15 : w1.cell? ⟨bd, 15, none⟩ = some (.int .u64 x.ver) := (k.cell 15).trans rfl
    have l1 := k.ltB
    refine hK.out _ _ e15 ?_
    clear k
    (clear hK KK; try simp only [Act.put, List.setIfInBounds_toArray, List.set_cons_zero, List.set_cons_succ])
    (repeat ((first | (refine wpSeq_take (v := ?_) rfl (by rfl) (fun wq hSq => ?_) ?_; rotate_left; (focus ((try dsimp only at hSq); go_simp; try with_reducible rfl))) | refine wpSeq_skip rfl (by rfl) ?_); simp only [Act.put, List.setIfInBounds_toArray, List.set_cons_zero, List.set_cons_succ]))
    refine wpSeq_nil ?_
    go_wp2_with fail
    go_end0
    exact ⟨rfl, H1.out⟩
set_option maxRecDepth 100000 in
set_option maxHeartbeats 1000000 in
theorem dread3 (h : DMid W R0 bd z bw gw w x ws n) (hI : Inv x.m) (ha : 1 ≤ x.a ∧ x.a ≤ 256) (hb : 1 ≤ x.b ∧ x.b ≤ 8) (hc : 0 ≤ x.cell) (hca : x.cell < x.a) (hl : plW x ≤ (ws.length : Int)) (hs : x.sub = 3) : Calls Tryz.prog 47 #[.pointer (some ⟨bd, 0, none⟩), .pointer (some ⟨bw, 0, none⟩)] w fun e w' => e = .returned (.tuple #[]) ∧ DMid W R0 bd z bw gw w' (readX x ws) ws (up n) := by
  generalize h4 : 3 + x.b = p4
  generalize hcc : x.cell = c
  obtain ⟨a1, a2, a3⟩ := atW_in (j := 2) ha hb hc hca hl h4 hcc (by omega)
  have HL := Lib.hid (h.drew.drew.load a1 a2)
  rw [← a3] at HL
  have R : readX x ws = { x with m := giveM x.m (fixB (wordAt ws (atW x 2)).toNat), cell := -1 } := by unfold readX; rw [if_neg (by omega), if_neg (by omega), if_neg (by omega)]
  rw [R]
  generalize wordAt ws (atW x 2) = u at HL ⊢
  rw [a3] at HL
  have H4 : Hid (3 + x.b = p4) := h4
  have hb4 : 4 ≤ p4 ∧ p4 ≤ 11 := by omega
  have hc4 : 0 ≤ c ∧ c < 256 := by omega
  obtain ⟨c4, c6, c11, c13, c14, c15, c16, lb⟩ := h.looks h4
  rw [hs] at c11
  rw [hcc] at c14
  clear hcc
  have HV3 := Lib.hid (Go.IntWalk.i64_in (3 * c) (by omega))
  have HV4 := Lib.hid (Go.IntWalk.i64_in (p4 + 3 * c) (by omega))
  have HV5 := Lib.hid (Go.IntWalk.i64_in (p4 + 3 * c + 2) (by omega))
  have HG : Hid (∀ w', DMid W R0 bd z bw gw w' x ws (up n) → Calls Tryz.prog 86 #[.pointer (some ⟨z.br, 0, none⟩), .float .f64 (fixB u.toNat)] w' fun e w2 => e = .returned (.int .i64 (giveE x.m)) ∧ DMid W R0 bd z bw gw w2 { x with m := giveM x.m (fixB u.toNat) } ws (up n)) := fun w' k => k.give hI _ rfl
  have HO : Hid (∀ w', DMid W R0 bd z bw gw w' { x with m := giveM x.m (fixB u.toNat) } ws (up n) → DMid W R0 bd z bw gw (w'.setCell ⟨bd, 14, none⟩ (.int .i64 (-1))) { x with m := giveM x.m (fixB u.toNat), cell := -1 } ws (up n)) := fun w' k => k.put 14 (.int .i64 (-1)) { x with m := giveM x.m (fixB u.toNat), cell := -1 } rfl rfl rfl
  clear h hI ha hb hc hca hl a1 a2 a3 R h4 hs
  generalize giveM x.m (fixB u.toNat) = M at *
  generalize giveE x.m = ge at *
  go_enter Tryz.func47, Tryz.ntmps47
  go_wp2_with fail
  refine wp_region_seq (fun u => u.cell? ⟨bd, 4, none⟩ = some (.int .i64 p4) ∧ u.cell? ⟨bd, 14, none⟩ = some (.int .i64 c) )  ((0, true) :: (1, true) :: (2, true) :: (3, true) :: (4, true) :: (5, true) :: (6, true) :: (7, true) :: (8, true) :: (9, true) :: (10, true) :: (11, true) :: [])  Md.Cv.follows13 (by kernel_rfl) (fun _ _ _ _ _ h => h)  ⟨c4, c14⟩ ?_
  (repeat ((first | (refine wpSeq_take (v := ?_) rfl (by rfl) (fun wq hSq => ?_) ?_; rotate_left; (focus ((try dsimp only at hSq); go_simp; try with_reducible rfl))) | refine wpSeq_skip rfl (by rfl) ?_); simp only [Act.put, List.setIfInBounds_toArray, List.set_cons_zero, List.set_cons_succ]))
  refine wpSeq_nil ?_
  rw [HV3.out, HV4.out]
  go_wp2_with fail
  refine wp_region_seq (fun u => u.cell? ⟨bd, 6, none⟩ = some (.pointer (some ⟨z.br, 0, none⟩)) )  ((0, true) :: (1, true) :: (2, true) :: (3, true) :: (4, true) :: (5, true) :: (6, true) :: (7, false) :: (8, false) :: (9, false) :: [])  Md.Cv.follows13 (by kernel_rfl) (fun _ _ _ _ _ h => h)  c6 ?_
  (repeat ((first | (refine wpSeq_take (v := ?_) rfl (by rfl) (fun wq hSq => ?_) ?_; rotate_left; (focus ((try dsimp only at hSq); go_simp; try with_reducible rfl))) | refine wpSeq_skip rfl (by rfl) ?_); simp only [Act.put, List.setIfInBounds_toArray, List.set_cons_zero, List.set_cons_succ]))
  rw [HV5.out]
  (refine wpSeq_do rfl (by rfl) (fun KK hK => ?_); go_simp)
  refine HL.out.mono ?_
  rintro e w1 ⟨rfl, k⟩
  have H1 := Lib.hid k
  refine hK.out _ _ ((k.cell 6).trans rfl) ?_
  clear k
  (clear hK KK; try simp only [Act.put, List.setIfInBounds_toArray, List.set_cons_zero, List.set_cons_succ])
  (refine wpSeq_do rfl (by rfl) (fun KK hK => ?_); go_simp)
  refine (number_any _ _).mono ?_
  rintro e w2 ⟨rfl, hw⟩
  subst w2
  refine hK.out _ _ ((H1.out.cell 6).trans rfl) ?_
  (clear hK KK; try simp only [Act.put, List.setIfInBounds_toArray, List.set_cons_zero, List.set_cons_succ])
  (refine wpSeq_do rfl (by rfl) (fun KK hK => ?_); go_simp)
  refine (HG.out _ H1.out).mono ?_
  rintro e w3 ⟨rfl, k⟩
  have H3 := Lib.hid (HO.out _ k)
  have g14 : w3.cell? ⟨bd, 14, none⟩ = some (.int .i64 x.cell) := (k.cell 14).trans rfl
  have f14 := k.free 14
  have l3 := k.ltB
  refine hK.out _ _ ((k.cell 6).trans rfl) ?_
  clear k
  (clear hK KK; try simp only [Act.put, List.setIfInBounds_toArray, List.set_cons_zero, List.set_cons_succ])
  refine wpSeq_nil ?_
  go_wp2_with fail
  go_end0
  exact ⟨rfl, H3.out⟩
theorem dread_any (h : DMid W R0 bd z bw gw w x ws n) (hI : Inv x.m) (ha : 1 ≤ x.a ∧ x.a ≤ 256) (hb : 1 ≤ x.b ∧ x.b ≤ 8) (hc : 0 ≤ x.cell) (hca : x.cell < x.a) (hl : plW x ≤ (ws.length : Int)) (hs : x.sub ≤ 3) : Calls Tryz.prog 47 #[.pointer (some ⟨bd, 0, none⟩), .pointer (some ⟨bw, 0, none⟩)] w fun e w' => e = .returned (.tuple #[]) ∧ DMid W R0 bd z bw gw w' (readX x ws) ws (up n) := by
  rcases (by omega : x.sub = 0 ∨ x.sub = 1 ∨ x.sub = 2 ∨ x.sub = 3) with d | d | d | d
  · exact dread0 h ha hb hc hca hl d
  · exact dread1 h ha hb hc hca hl d
  · exact dread2 h hI ha hb hc hca hl d
  · exact dread3 h hI ha hb hc hca hl d
end
end Go.Proofs.YtninicfnhoediaaGreatDoor.Rr
namespace Go.Proofs.YtninicfnhoediaaGreatDoor.Rr
open Go.ChangeShapes Go.WideShapes Go.ChangeAt Go.RowKit Num
attribute [local go_sem] run_store_float
section
variable {W w : World} {R0 : List Nat} {bd bw gw : Nat} {x : Rx} {z : Dz} {ws : List Int} {n : Int}
theorem DMid.all (h : DMid W R0 bd z bw gw w x ws n) {pl pt sb : Int} (hpl : plW x = pl) (hpt : (x.part : Int) = pt) (hsb : (x.sub : Int) = sb) : w.cell? ⟨bd, 2, none⟩ = some (.int .i64 2) ∧ w.cell? ⟨bd, 3, none⟩ = some (.int .i64 3) ∧ w.cell? ⟨bd, 5, none⟩ = some (.int .i64 pl) ∧ w.cell? ⟨bd, 6, none⟩ = some (.pointer (some ⟨z.br, 0, none⟩)) ∧ w.cell? ⟨bd, 7, none⟩ = some (.int .i64 x.th) ∧ w.cell? ⟨bd, 10, none⟩ = some (.int .i64 pt) ∧ w.cell? ⟨bd, 11, none⟩ = some (.int .i64 sb) ∧ w.cell? ⟨bd, 12, none⟩ = some (.int .u64 x.claim) ∧ w.cell? ⟨bd, 13, none⟩ = some (.int .u64 x.stamp) ∧ w.cell? ⟨bd, 14, none⟩ = some (.int .i64 x.cell) ∧ w.cell? ⟨bd, 17, none⟩ = some (.int .i64 x.steps) ∧ bd < w.heap.size := by
  subst hpl hpt hsb
  exact ⟨(h.cell 2).trans rfl, (h.cell 3).trans rfl, (h.cell 5).trans rfl, (h.cell 6).trans rfl, (h.cell 7).trans rfl, (h.cell 10).trans rfl, (h.cell 11).trans rfl, (h.cell 12).trans rfl, (h.cell 13).trans rfl, (h.cell 14).trans rfl, (h.cell 17).trans rfl, h.ltB⟩
theorem DMid.frees (h : DMid W R0 bd z bw gw w x ws n) : w.frozen? ⟨bd, 10, none⟩ = false ∧ w.frozen? ⟨bd, 11, none⟩ = false ∧ w.frozen? ⟨bd, 12, none⟩ = false ∧ w.frozen? ⟨bd, 13, none⟩ = false ∧ w.frozen? ⟨bd, 14, none⟩ = false ∧ w.frozen? ⟨bd, 17, none⟩ = false := ⟨h.free 10, h.free 11, h.free 12, h.free 13, h.free 14, h.free 17⟩
theorem DMid.how (h : DMid W R0 bd z bw gw w x ws n) : w.cell? ⟨z.br, 14, none⟩ = some (.int .i64 x.m.how) ∧ z.br < w.heap.size := by
  obtain ⟨q, h1, _⟩ := h
  exact ⟨(h1.ref.cell 14).trans rfl, h1.ref.ltB⟩
theorem DMid.tick (h : DMid W R0 bd z bw gw w x ws n) : DMid W R0 bd z bw gw (w.setCell ⟨bd, 17, none⟩ (.int .i64 (x.steps + 1))).drew (tickX x) ws n := (h.put 17 (.int .i64 (x.steps + 1)) (tickX x) rfl rfl rfl).drew
set_option maxRecDepth 100000 in
theorem dstep_over (h : DMid W R0 bd z bw gw w x ws n) (hl : plW x ≤ (ws.length : Int)) (hp : x.part = 4) : Calls Tryz.prog 15 #[.pointer (some ⟨bd, 0, none⟩), .pointer (some ⟨bw, 0, none⟩)] w fun e w' => e = .returned (.tuple #[.bool false, .int .i64 3]) ∧ Same w w' := by
  obtain ⟨c2, c3, c5, c6, c7, c10, c11, c12, c13, c14, c17, lb⟩ := h.all (pt := 4) rfl (by omega) rfl
  have w0 := h.words.cell0
  have lw := h.words.ltB
  have hlt : ¬ (ws.length : Int) < plW x := by omega
  generalize plW x = pl at *
  clear h hl
  go_enter Tryz.func15, Tryz.ntmps15
  go_wp2_with fail
  refine wp_region_seq (fun u => u.cell? ⟨bw, 0, none⟩ = some (.slice (some ⟨gw, 0, none⟩) ws.length ws.length) ∧ u.cell? ⟨bd, 5, none⟩ = some (.int .i64 pl) )  ((0, true) :: (1, true) :: (2, true) :: (3, true) :: (4, true) :: (5, true) :: (6, true) :: (7, true) :: (8, true) :: (9, true) :: (10, true) :: [])  Md.Cv.follows13 (by kernel_rfl) (fun _ _ _ _ _ h => h)  ⟨w0, c5⟩ ?_
  (repeat ((first | (refine wpSeq_take (v := ?_) rfl (by rfl) (fun wq hSq => ?_) ?_; rotate_left; (focus ((try dsimp only at hSq); go_simp; try with_reducible rfl))) | refine wpSeq_skip rfl (by rfl) ?_); simp only [Act.put, List.setIfInBounds_toArray, List.set_cons_zero, List.set_cons_succ]))
  refine wpSeq_nil ?_
  go_wp2_with fail
  go_ret2
  exact ⟨rfl, Same.drew _⟩
set_option maxRecDepth 100000 in
set_option maxHeartbeats 1000000 in
theorem dstep_come0 (h : DMid W R0 bd z bw gw w x ws n) (hI : In0 x) (hst : 0 ≤ x.steps ∧ x.steps ≤ 100000) (hl : plW x ≤ (ws.length : Int)) (hp : x.part = 1) (hs : x.sub = 0) : Calls Tryz.prog 15 #[.pointer (some ⟨bd, 0, none⟩), .pointer (some ⟨bw, 0, none⟩)] w fun e w' => e = .returned (.tuple #[.bool false, .int .i64 0]) ∧ DMid W R0 bd z bw gw w' { tickX x with claim := wordAt ws 2, sub := 1 } ws (up n) := by
  obtain ⟨c2, c3, c5, c6, c7, c10, c11, c12, c13, c14, c17, lb⟩ := h.all (pt := 1) (sb := 0) rfl (by omega) (by omega)
  obtain ⟨f10, f11, f12, f13, f14, f17⟩ := h.frees
  have w0 := h.words.cell0
  have lw := h.words.ltB
  have hlt : ¬ (ws.length : Int) < plW x := by omega
  have h2 : (2 : Int) < (ws.length : Int) := by have := hI.ca; have := hI.cb; unfold plW at hl; omega
  have HL := Lib.hid (h.tick.load (i := 2) (by omega) h2)
  generalize wordAt ws 2 = u at *
  have HP : Hid (∀ w', DMid W R0 bd z bw gw w' (tickX x) ws (up n) → DMid W R0 bd z bw gw ((w'.setCell ⟨bd, 12, none⟩ (.int .u64 u)).setCell ⟨bd, 11, none⟩ (.int .i64 1)) { tickX x with claim := u, sub := 1 } ws (up n)) := fun w' k => (k.put 12 (.int .u64 u) { tickX x with claim := u } rfl rfl rfl).put 11 (.int .i64 1) { tickX x with claim := u, sub := 1 } rfl rfl rfl
  generalize plW x = pl at *
  clear h hl hI
  go_enter Tryz.func15, Tryz.ntmps15
  go_wp2_with fail
  refine wp_region_seq (fun u => u.cell? ⟨bw, 0, none⟩ = some (.slice (some ⟨gw, 0, none⟩) ws.length ws.length) ∧ u.cell? ⟨bd, 5, none⟩ = some (.int .i64 pl) )  ((0, true) :: (1, true) :: (2, true) :: (3, true) :: (4, true) :: (5, true) :: (6, true) :: (7, true) :: (8, true) :: (9, true) :: (10, true) :: [])  Md.Cv.follows13 (by kernel_rfl) (fun _ _ _ _ _ h => h)  ⟨w0, c5⟩ ?_
  (repeat ((first | (refine wpSeq_take (v := ?_) rfl (by rfl) (fun wq hSq => ?_) ?_; rotate_left; (focus ((try dsimp only at hSq); go_simp; try with_reducible rfl))) | refine wpSeq_skip rfl (by rfl) ?_); simp only [Act.put, List.setIfInBounds_toArray, List.set_cons_zero, List.set_cons_succ]))
  refine wpSeq_nil ?_
  go_wp2_with (go_at_call 45; refine HL.out.mono ?_; rintro e w1 ⟨rfl, k⟩; have HZ := Lib.hid (HP.out _ k); obtain ⟨f10, f11, f12, f13, f14, f17⟩ := k.frees; have lb1 := k.ltB; have g11 : w1.cell? ⟨bd, 11, none⟩ = some (.int .i64 (x.sub : Int)) := (k.cell 11).trans rfl; have g12 : w1.cell? ⟨bd, 12, none⟩ = some (.int .u64 x.claim) := (k.cell 12).trans rfl; clear k HL)
  go_ret2
  exact ⟨rfl, HZ.out⟩
set_option maxRecDepth 100000 in
set_option maxHeartbeats 1000000 in
theorem dstep_come1 (h : DMid W R0 bd z bw gw w x ws n) (hI : In0 x) (hst : 0 ≤ x.steps ∧ x.steps ≤ 100000) (hl : plW x ≤ (ws.length : Int)) (hp : x.part = 1) (hs : x.sub = 1) : Calls Tryz.prog 15 #[.pointer (some ⟨bd, 0, none⟩), .pointer (some ⟨bw, 0, none⟩)] w fun e w' => e = .returned (.tuple #[.bool false, .int .i64 0]) ∧ DMid W R0 bd z bw gw w' { tickX x with sub := 2 } (ws.set (3 + x.th).toNat (Md.Cv.passV x.claim)) (up n) := by
  obtain ⟨c2, c3, c5, c6, c7, c10, c11, c12, c13, c14, c17, lb⟩ := h.all (pt := 1) (sb := 1) rfl (by omega) (by omega)
  obtain ⟨f10, f11, f12, f13, f14, f17⟩ := h.frees
  have w0 := h.words.cell0
  have lw := h.words.ltB
  have hlt : ¬ (ws.length : Int) < plW x := by omega
  have hth := hI.th
  have hcb := hI.cb
  have h3 : 3 + x.th < (ws.length : Int) := by have := hI.ca; unfold plW at hl; omega
  have HS := Lib.hid (h.tick.drew.store (i := 3 + x.th) (Md.Cv.passV x.claim) (by omega) h3)
  have HV := Lib.hid (Go.IntWalk.i64_in (3 + x.th) (by omega))
  have HP : Hid (∀ w', DMid W R0 bd z bw gw w' (tickX x) (ws.set (3 + x.th).toNat (Md.Cv.passV x.claim)) (up n) → DMid W R0 bd z bw gw (w'.setCell ⟨bd, 11, none⟩ (.int .i64 2)) { tickX x with sub := 2 } (ws.set (3 + x.th).toNat (Md.Cv.passV x.claim)) (up n)) := fun w' k => k.put 11 (.int .i64 2) { tickX x with sub := 2 } rfl rfl rfl
  have HC : Hid (∀ w', DMid W R0 bd z bw gw w' (tickX x) (ws.set (3 + x.th).toNat (Md.Cv.passV x.claim)) (up n) → w'.cell? ⟨bd, 3, none⟩ = some (.int .i64 3) ∧ w'.cell? ⟨bd, 7, none⟩ = some (.int .i64 x.th) ∧ w'.cell? ⟨bd, 12, none⟩ = some (.int .u64 x.claim) ∧ w'.cell? ⟨bd, 11, none⟩ = some (.int .i64 (x.sub : Int))) := fun w' k => ⟨(k.cell 3).trans rfl, (k.cell 7).trans rfl, (k.cell 12).trans rfl, (k.cell 11).trans rfl⟩
  generalize ws.set (3 + x.th).toNat (Md.Cv.passV x.claim) = ws' at *
  generalize plW x = pl at *
  clear h hl hI
  unfold Md.Cv.passV at HS
  go_enter Tryz.func15, Tryz.ntmps15
  go_wp2_with fail
  refine wp_region_seq (fun u => u.cell? ⟨bw, 0, none⟩ = some (.slice (some ⟨gw, 0, none⟩) ws.length ws.length) ∧ u.cell? ⟨bd, 5, none⟩ = some (.int .i64 pl) )  ((0, true) :: (1, true) :: (2, true) :: (3, true) :: (4, true) :: (5, true) :: (6, true) :: (7, true) :: (8, true) :: (9, true) :: (10, true) :: [])  Md.Cv.follows13 (by kernel_rfl) (fun _ _ _ _ _ h => h)  ⟨w0, c5⟩ ?_
  (repeat ((first | (refine wpSeq_take (v := ?_) rfl (by rfl) (fun wq hSq => ?_) ?_; rotate_left; (focus ((try dsimp only at hSq); go_simp; try with_reducible rfl))) | refine wpSeq_skip rfl (by rfl) ?_); simp only [Act.put, List.setIfInBounds_toArray, List.set_cons_zero, List.set_cons_succ]))
  refine wpSeq_nil ?_
  go_wp2_with fail
  obtain ⟨w2, hw2⟩ : ∃ w2, w2 = (w.setCell ⟨bd, 17, none⟩ (.int .i64 (x.steps + 1))).drew := ⟨_, rfl⟩
  have k3 : w2.cell? ⟨bd, 3, none⟩ = some (.int .i64 3) := by rw [hw2]; simp [go_sem, c3]
  have k7 : w2.cell? ⟨bd, 7, none⟩ = some (.int .i64 x.th) := by rw [hw2]; simp [go_sem, c7]
  have k12 : w2.cell? ⟨bd, 12, none⟩ = some (.int .u64 x.claim) := by rw [hw2]; simp [go_sem, c12]
  have kb : bd < w2.heap.size := by rw [hw2]; simpa using lb
  rw [← hw2] at HS ⊢
  clear hw2
  refine wp_region_seq (fun u => u.cell? ⟨bd, 3, none⟩ = some (.int .i64 3) ∧ u.cell? ⟨bd, 7, none⟩ = some (.int .i64 x.th) ∧ u.cell? ⟨bd, 12, none⟩ = some (.int .u64 x.claim) )  ((0, true) :: (1, true) :: (2, true) :: (3, true) :: (4, true) :: (5, true) :: (6, true) :: (7, true) :: (8, true) :: (9, true) :: (10, true) :: (11, true) :: (12, true) :: (13, true) :: (14, true) :: (15, true) :: (16, false) :: [])  Md.Cv.follows13 (by kernel_rfl) (fun _ _ _ _ _ h => h)  ⟨k3, k7, k12⟩ ?_
  (repeat ((first | (refine wpSeq_take (v := ?_) rfl (by rfl) (fun wq hSq => ?_) ?_; rotate_left; (focus ((try dsimp only at hSq); go_simp; try with_reducible rfl))) | refine wpSeq_skip rfl (by rfl) ?_); simp only [Act.put, List.setIfInBounds_toArray, List.set_cons_zero, List.set_cons_succ]))
  rw [HV.out]
  (refine wpSeq_do rfl (by rfl) (fun KK hK => ?_); go_simp)
  refine HS.out.mono ?_
  rintro e w3 ⟨rfl, k⟩
  obtain ⟨q3, q7, q12, q11⟩ := HC.out _ k
  have g11 := k.free 11
  have l3 := k.ltB
  have HZ := Lib.hid (HP.out _ k)
  refine hK.out _ _ ⟨q3, q7, q12⟩ ?_
  clear k
  (clear hK KK; try simp only [Act.put, List.setIfInBounds_toArray, List.set_cons_zero, List.set_cons_succ])
  refine wpSeq_nil ?_
  go_wp2_with fail
  go_ret2
  exact ⟨rfl, HZ.out⟩
set_option maxRecDepth 100000 in
set_option maxHeartbeats 1000000 in
theorem dstep_come2 (h : DMid W R0 bd z bw gw w x ws n) (hI : In0 x) (hst : 0 ≤ x.steps ∧ x.steps ≤ 100000) (hl : plW x ≤ (ws.length : Int)) (hp : x.part = 1) (hs : x.sub = 2) : Calls Tryz.prog 15 #[.pointer (some ⟨bd, 0, none⟩), .pointer (some ⟨bw, 0, none⟩)] w fun e w' => e = .returned (.tuple #[.bool false, .int .i64 0]) ∧ DMid W R0 bd z bw gw w' { tickX x with stamp := wordAt ws 2, part := 2 } ws (up n) := by
  obtain ⟨c2, c3, c5, c6, c7, c10, c11, c12, c13, c14, c17, lb⟩ := h.all (pt := 1) (sb := 2) rfl (by omega) (by omega)
  obtain ⟨f10, f11, f12, f13, f14, f17⟩ := h.frees
  have w0 := h.words.cell0
  have lw := h.words.ltB
  have hlt : ¬ (ws.length : Int) < plW x := by omega
  have h2 : (2 : Int) < (ws.length : Int) := by have := hI.ca; have := hI.cb; unfold plW at hl; omega
  have HL := Lib.hid (h.tick.load (i := 2) (by omega) h2)
  generalize wordAt ws 2 = u at *
  have HP : Hid (∀ w', DMid W R0 bd z bw gw w' (tickX x) ws (up n) → DMid W R0 bd z bw gw ((w'.setCell ⟨bd, 13, none⟩ (.int .u64 u)).setCell ⟨bd, 10, none⟩ (.int .i64 2)) { tickX x with stamp := u, part := 2 } ws (up n)) := fun w' k => (k.put 13 (.int .u64 u) { tickX x with stamp := u } rfl rfl rfl).put 10 (.int .i64 2) { tickX x with stamp := u, part := 2 } rfl rfl rfl
  generalize plW x = pl at *
  clear h hl hI
  go_enter Tryz.func15, Tryz.ntmps15
  go_wp2_with fail
  refine wp_region_seq (fun u => u.cell? ⟨bw, 0, none⟩ = some (.slice (some ⟨gw, 0, none⟩) ws.length ws.length) ∧ u.cell? ⟨bd, 5, none⟩ = some (.int .i64 pl) )  ((0, true) :: (1, true) :: (2, true) :: (3, true) :: (4, true) :: (5, true) :: (6, true) :: (7, true) :: (8, true) :: (9, true) :: (10, true) :: [])  Md.Cv.follows13 (by kernel_rfl) (fun _ _ _ _ _ h => h)  ⟨w0, c5⟩ ?_
  (repeat ((first | (refine wpSeq_take (v := ?_) rfl (by rfl) (fun wq hSq => ?_) ?_; rotate_left; (focus ((try dsimp only at hSq); go_simp; try with_reducible rfl))) | refine wpSeq_skip rfl (by rfl) ?_); simp only [Act.put, List.setIfInBounds_toArray, List.set_cons_zero, List.set_cons_succ]))
  refine wpSeq_nil ?_
  go_wp2_with (go_at_call 45; refine HL.out.mono ?_; rintro e w1 ⟨rfl, k⟩; have HZ := Lib.hid (HP.out _ k); obtain ⟨f10, f11, f12, f13, f14, f17⟩ := k.frees; have lb1 := k.ltB; have g10 : w1.cell? ⟨bd, 10, none⟩ = some (.int .i64 (x.part : Int)) := (k.cell 10).trans rfl; have g13 : w1.cell? ⟨bd, 13, none⟩ = some (.int .u64 x.stamp) := (k.cell 13).trans rfl; clear k HL)
  go_ret2
  exact ⟨rfl, HZ.out⟩
set_option maxRecDepth 100000 in
set_option maxHeartbeats 1000000 in
theorem dstep_leave (h : DMid W R0 bd z bw gw w x ws n) (hI : In0 x) (hst : 0 ≤ x.steps ∧ x.steps ≤ 100000) (hl : plW x ≤ (ws.length : Int)) (hp : x.part = 3) : Calls Tryz.prog 15 #[.pointer (some ⟨bd, 0, none⟩), .pointer (some ⟨bw, 0, none⟩)] w fun e w' => e = .returned (.tuple #[.bool true, .int .i64 0]) ∧ DMid W R0 bd z bw gw w' (leaveX (tickX x)) (ws.set (3 + x.th).toNat 0) (up n) := by
  obtain ⟨c2, c3, c5, c6, c7, c10, c11, c12, c13, c14, c17, lb⟩ := h.all (pt := 3) (sb := (x.sub : Int)) rfl (by omega) rfl
  obtain ⟨f10, f11, f12, f13, f14, f17⟩ := h.frees
  have w0 := h.words.cell0
  have lw := h.words.ltB
  have hlt : ¬ (ws.length : Int) < plW x := by omega
  have hth := hI.th
  have hcb := hI.cb
  have h3 : 3 + x.th < (ws.length : Int) := by have := hI.ca; unfold plW at hl; omega
  have HS := Lib.hid (h.tick.drew.store (i := 3 + x.th) 0 (by omega) h3)
  have HV := Lib.hid (Go.IntWalk.i64_in (3 + x.th) (by omega))
  have HP : Hid (∀ w', DMid W R0 bd z bw gw w' (tickX x) (ws.set (3 + x.th).toNat 0) (up n) → DMid W R0 bd z bw gw (w'.setCell ⟨bd, 10, none⟩ (.int .i64 4)) (leaveX (tickX x)) (ws.set (3 + x.th).toNat 0) (up n)) := fun w' k => k.put 10 (.int .i64 4) (leaveX (tickX x)) rfl rfl rfl
  have HC : Hid (∀ w', DMid W R0 bd z bw gw w' (tickX x) (ws.set (3 + x.th).toNat 0) (up n) → w'.cell? ⟨bd, 3, none⟩ = some (.int .i64 3) ∧ w'.cell? ⟨bd, 7, none⟩ = some (.int .i64 x.th) ∧ w'.cell? ⟨bd, 10, none⟩ = some (.int .i64 (x.part : Int))) := fun w' k => ⟨(k.cell 3).trans rfl, (k.cell 7).trans rfl, (k.cell 10).trans rfl⟩
  generalize ws.set (3 + x.th).toNat 0 = ws' at *
  generalize plW x = pl at *
  clear h hl hI
  go_enter Tryz.func15, Tryz.ntmps15
  go_wp2_with fail
  refine wp_region_seq (fun u => u.cell? ⟨bw, 0, none⟩ = some (.slice (some ⟨gw, 0, none⟩) ws.length ws.length) ∧ u.cell? ⟨bd, 5, none⟩ = some (.int .i64 pl) )  ((0, true) :: (1, true) :: (2, true) :: (3, true) :: (4, true) :: (5, true) :: (6, true) :: (7, true) :: (8, true) :: (9, true) :: (10, true) :: [])  Md.Cv.follows13 (by kernel_rfl) (fun _ _ _ _ _ h => h)  ⟨w0, c5⟩ ?_
  (repeat ((first | (refine wpSeq_take (v := ?_) rfl (by rfl) (fun wq hSq => ?_) ?_; rotate_left; (focus ((try dsimp only at hSq); go_simp; try with_reducible rfl))) | refine wpSeq_skip rfl (by rfl) ?_); simp only [Act.put, List.setIfInBounds_toArray, List.set_cons_zero, List.set_cons_succ]))
  refine wpSeq_nil ?_
  go_wp2_with fail
  obtain ⟨w2, hw2⟩ : ∃ w2, w2 = (w.setCell ⟨bd, 17, none⟩ (.int .i64 (x.steps + 1))).drew := ⟨_, rfl⟩
  have k3 : w2.cell? ⟨bd, 3, none⟩ = some (.int .i64 3) := by rw [hw2]; simp [go_sem, c3]
  have k7 : w2.cell? ⟨bd, 7, none⟩ = some (.int .i64 x.th) := by rw [hw2]; simp [go_sem, c7]
  have kb : bd < w2.heap.size := by rw [hw2]; simpa using lb
  rw [← hw2] at HS ⊢
  clear hw2
  refine wp_region_seq (fun u => u.cell? ⟨bd, 3, none⟩ = some (.int .i64 3) ∧ u.cell? ⟨bd, 7, none⟩ = some (.int .i64 x.th) )  ((0, true) :: (1, true) :: (2, true) :: (3, true) :: (4, true) :: (5, true) :: (6, true) :: (7, true) :: (8, true) :: (9, true) :: (10, true) :: (11, false) :: [])  Md.Cv.follows13 (by kernel_rfl) (fun _ _ _ _ _ h => h)  ⟨k3, k7⟩ ?_
  (repeat ((first | (refine wpSeq_take (v := ?_) rfl (by rfl) (fun wq hSq => ?_) ?_; rotate_left; (focus ((try dsimp only at hSq); go_simp; try with_reducible rfl))) | refine wpSeq_skip rfl (by rfl) ?_); simp only [Act.put, List.setIfInBounds_toArray, List.set_cons_zero, List.set_cons_succ]))
  rw [HV.out]
  (refine wpSeq_do rfl (by rfl) (fun KK hK => ?_); go_simp)
  refine HS.out.mono ?_
  rintro e w3 ⟨rfl, k⟩
  obtain ⟨q3, q7, q10⟩ := HC.out _ k
  have g10 := k.free 10
  have l3 := k.ltB
  have HZ := Lib.hid (HP.out _ k)
  refine hK.out _ _ ⟨q3, q7⟩ ?_
  clear k
  (clear hK KK; try simp only [Act.put, List.setIfInBounds_toArray, List.set_cons_zero, List.set_cons_succ])
  refine wpSeq_nil ?_
  go_wp2_with fail
  go_ret2
  exact ⟨rfl, HZ.out⟩
set_option maxRecDepth 100000 in
set_option maxHeartbeats 1000000 in
theorem dstep_old (h : DMid W R0 bd z bw gw w x ws n) (hI : In0 x) (hst : 0 ≤ x.steps ∧ x.steps ≤ 100000) (hl : plW x ≤ (ws.length : Int)) (hp : x.part = 2) (hc : 0 ≤ x.cell) : Calls Tryz.prog 15 #[.pointer (some ⟨bd, 0, none⟩), .pointer (some ⟨bw, 0, none⟩)] w fun e w' => e = .returned (.tuple #[.bool false, .int .i64 0]) ∧ DMid W R0 bd z bw gw w' (readX (tickX x) ws) ws (up n) := by
  obtain ⟨c2, c3, c5, c6, c7, c10, c11, c12, c13, c14, c17, lb⟩ := h.all (pt := 2) (sb := (x.sub : Int)) rfl (by omega) rfl
  obtain ⟨f10, f11, f12, f13, f14, f17⟩ := h.frees
  have w0 := h.words.cell0
  have lw := h.words.ltB
  have hlt : ¬ (ws.length : Int) < plW x := by omega
  have h2 := (hI.p2 hp).2
  have HR := Lib.hid (dread_any h.tick hI.inv hI.ca hI.cb hc hI.celB.2 hl (by show x.sub ≤ 3; omega))
  generalize readX (tickX x) ws = y at *
  generalize plW x = pl at *
  clear h hl hI h2
  go_enter Tryz.func15, Tryz.ntmps15
  go_wp2_with fail
  refine wp_region_seq (fun u => u.cell? ⟨bw, 0, none⟩ = some (.slice (some ⟨gw, 0, none⟩) ws.length ws.length) ∧ u.cell? ⟨bd, 5, none⟩ = some (.int .i64 pl) )  ((0, true) :: (1, true) :: (2, true) :: (3, true) :: (4, true) :: (5, true) :: (6, true) :: (7, true) :: (8, true) :: (9, true) :: (10, true) :: [])  Md.Cv.follows13 (by kernel_rfl) (fun _ _ _ _ _ h => h)  ⟨w0, c5⟩ ?_
  (repeat ((first | (refine wpSeq_take (v := ?_) rfl (by rfl) (fun wq hSq => ?_) ?_; rotate_left; (focus ((try dsimp only at hSq); go_simp; try with_reducible rfl))) | refine wpSeq_skip rfl (by rfl) ?_); simp only [Act.put, List.setIfInBounds_toArray, List.set_cons_zero, List.set_cons_succ]))
  refine wpSeq_nil ?_
  go_wp2_with (go_at_call 47; refine HR.out.mono ?_; rintro e w1 ⟨rfl, k⟩; have HZ := Lib.hid k; clear k HR)
  go_ret2
  exact ⟨rfl, HZ.out⟩
set_option maxRecDepth 100000 in
set_option maxHeartbeats 1000000 in
theorem dstep_new (h : DMid W R0 bd z bw gw w x ws n) (hI : In0 x) (hst : 0 ≤ x.steps ∧ x.steps ≤ 100000) (hl : plW x ≤ (ws.length : Int)) (hp : x.part = 2) (hc : x.cell < 0) (hk : (stepM x.m).2.kind = 1) (hW : okW ws) : Calls Tryz.prog 15 #[.pointer (some ⟨bd, 0, none⟩), .pointer (some ⟨bw, 0, none⟩)] w fun e w' => e = .returned (.tuple #[.bool false, .int .i64 0]) ∧ DMid W R0 bd z bw gw w' (readX (begX (tickX x)) ws) ws (up n) := by
  obtain ⟨c2, c3, c5, c6, c7, c10, c11, c12, c13, c14, c17, lb⟩ := h.all (pt := 2) (sb := (x.sub : Int)) rfl (by omega) rfl
  obtain ⟨f10, f11, f12, f13, f14, f17⟩ := h.frees
  have w0 := h.words.cell0
  have lw := h.words.ltB
  have hlt : ¬ (ws.length : Int) < plW x := by omega
  obtain ⟨h0, h2⟩ := hI.p2 hp
  have hw : ¬ 0 ≤ x.m.wait := by omega
  obtain ⟨lk, tr⟩ := step_turns hI.inv hw h0
  have hst' : (stepM x.m).2.cell = (stepM x.m).1.wait ∧ 0 ≤ (stepM x.m).1.wait ∧ (stepM x.m).1.how = 0 := by
    rcases tr with ⟨k4, _⟩ | ⟨_, e1, e2, e3, _⟩ | ⟨k0, _⟩
    · omega
    · exact ⟨e1, e2, e3⟩
    · omega
  have hIs := inv_step hI.inv
  have hwc := hIs.wait
  have hcl : (stepM x.m).1.cells = x.a := lk.cells.trans hI.cel
  have HS := Lib.hid (h.tick.step hI.inv (M := (stepM x.m).1) (A := (stepM x.m).2) rfl rfl)
  rw [hk] at HS
  have HR : Hid (∀ w', DMid W R0 bd z bw gw w' (begX (tickX x)) ws n → Calls Tryz.prog 47 #[.pointer (some ⟨bd, 0, none⟩), .pointer (some ⟨bw, 0, none⟩)] w' fun e w' => e = .returned (.tuple #[]) ∧ DMid W R0 bd z bw gw w' (readX (begX (tickX x)) ws) ws (up n)) := fun w' k => dread_any k hIs hI.ca hI.cb (by show 0 ≤ (stepM x.m).2.cell; omega) (by show (stepM x.m).2.cell < x.a; omega) hl (by show (0 : Nat) ≤ 3; omega)
  have HH : Hid ((readX (begX (tickX x)) ws).m.how = 0) := (read_in (x := begX (tickX x)) (ws := ws) hIs (by show 0 ≤ (stepM x.m).2.cell; omega) (by show (stepM x.m).1.wait = (stepM x.m).2.cell; omega) (by show (0 : Nat) ≤ 3; omega) hst'.2.2 hI.n hI.v hW).2.2.2.1
  have HP : Hid (∀ w', DMid W R0 bd z bw gw w' { tickX x with m := (stepM x.m).1 } ws n → DMid W R0 bd z bw gw ((w'.setCell ⟨bd, 14, none⟩ (.int .i64 (stepM x.m).2.cell)).setCell ⟨bd, 11, none⟩ (.int .i64 0)) (begX (tickX x)) ws n) := fun w' k => (k.put 14 (.int .i64 (stepM x.m).2.cell) { tickX x with m := (stepM x.m).1, cell := (stepM x.m).2.cell } rfl rfl rfl).put 11 (.int .i64 0) (begX (tickX x)) rfl rfl rfl
  have HB : Hid (∀ w', DMid W R0 bd z bw gw w' { tickX x with m := (stepM x.m).1 } ws n → w'.cell? ⟨bd, 14, none⟩ = some (.int .i64 x.cell) ∧ w'.cell? ⟨bd, 11, none⟩ = some (.int .i64 (x.sub : Int)) ∧ w'.frozen? ⟨bd, 14, none⟩ = false ∧ w'.frozen? ⟨bd, 11, none⟩ = false ∧ bd < w'.heap.size) := fun w' k => ⟨(k.cell 14).trans rfl, (k.cell 11).trans rfl, k.free 14, k.free 11, k.ltB⟩
  have hcn : ¬ 0 ≤ x.cell := by omega
  clear h hl hI h2 h0 hw lk tr hst' hIs hwc hcl
  generalize readX (begX (tickX x)) ws = y at *
  generalize plW x = pl at *
  generalize hAA : (stepM x.m).2 = A at *
  obtain ⟨Ak, Ac, Ax, Af⟩ := A
  dsimp only at *
  clear hAA
  go_enter Tryz.func15, Tryz.ntmps15
  go_wp2_with fail
  refine wp_region_seq (fun u => u.cell? ⟨bw, 0, none⟩ = some (.slice (some ⟨gw, 0, none⟩) ws.length ws.length) ∧ u.cell? ⟨bd, 5, none⟩ = some (.int .i64 pl) )  ((0, true) :: (1, true) :: (2, true) :: (3, true) :: (4, true) :: (5, true) :: (6, true) :: (7, true) :: (8, true) :: (9, true) :: (10, true) :: [])  Md.Cv.follows13 (by kernel_rfl) (fun _ _ _ _ _ h => h)  ⟨w0, c5⟩ ?_
  (repeat ((first | (refine wpSeq_take (v := ?_) rfl (by rfl) (fun wq hSq => ?_) ?_; rotate_left; (focus ((try dsimp only at hSq); go_simp; try with_reducible rfl))) | refine wpSeq_skip rfl (by rfl) ?_); simp only [Act.put, List.setIfInBounds_toArray, List.set_cons_zero, List.set_cons_succ]))
  refine wpSeq_nil ?_
  go_wp2_with (first
    | (go_at_call 47; refine (HR.out _ (HY0.out _)).mono ?_; rintro e w2 ⟨rfl, k⟩; have HZ := Lib.hid k; obtain ⟨q1, q2⟩ := k.how; rw [HH.out] at q1; have q6 : w2.cell? ⟨bd, 6, none⟩ = some (.pointer (some ⟨z.br, 0, none⟩)) := (k.cell 6).trans rfl; have q7 := k.ltB; clear k HR)
    | (go_at_call 48; refine HS.out.mono ?_; rintro e w1 ⟨rfl, k⟩; obtain ⟨g14, g11, fg14, fg11, lg⟩ := HB.out _ k; have HY0 := Lib.hid (fun o => (HP.out _ k).alloc o); clear k HS HB))
  go_ret2
  exact ⟨rfl, HZ.out⟩
set_option maxRecDepth 100000 in
set_option maxHeartbeats 1000000 in
theorem dstep_ends (h : DMid W R0 bd z bw gw w x ws n) (hI : In0 x) (hst : 0 ≤ x.steps ∧ x.steps ≤ 100000) (hl : plW x ≤ (ws.length : Int)) (hp : x.part = 2) (hc : x.cell < 0) (hk : (stepM x.m).2.kind = 4) : Calls Tryz.prog 15 #[.pointer (some ⟨bd, 0, none⟩), .pointer (some ⟨bw, 0, none⟩)] w fun e w' => e = .returned (.tuple #[.bool false, .int .i64 0]) ∧ DMid W R0 bd z bw gw w' { tickX x with m := (stepM x.m).1, part := 3 } ws n := by
  obtain ⟨c2, c3, c5, c6, c7, c10, c11, c12, c13, c14, c17, lb⟩ := h.all (pt := 2) rfl (by omega) rfl
  obtain ⟨f10, f11, f12, f13, f14, f17⟩ := h.frees
  have w0 := h.words.cell0
  have lw := h.words.ltB
  have hlt : ¬ (ws.length : Int) < plW x := by omega
  obtain ⟨h0, h2⟩ := hI.p2 hp
  have hw : ¬ 0 ≤ x.m.wait := by omega
  obtain ⟨lk, tr⟩ := step_turns hI.inv hw h0
  have HS := Lib.hid (h.tick.step hI.inv (M := (stepM x.m).1) (A := (stepM x.m).2) rfl rfl)
  have hh : (stepM x.m).1.how ≠ 0 := by
    rcases tr with ⟨_, e1, _⟩ | ⟨k1, _⟩ | ⟨k0, _⟩
    · exact e1
    · omega
    · omega
  rw [hk] at HS
  have HP : Hid (∀ w' o, DMid W R0 bd z bw gw w' { tickX x with m := (stepM x.m).1 } ws n → DMid W R0 bd z bw gw ((w'.setCell ⟨bd, 10, none⟩ (.int .i64 3)).alloc o) { tickX x with m := (stepM x.m).1, part := 3 } ws n) := fun w' o k => (k.put 10 (.int .i64 3) { tickX x with m := (stepM x.m).1, part := 3 } rfl rfl rfl).alloc o
  have HB : Hid (∀ w', DMid W R0 bd z bw gw w' { tickX x with m := (stepM x.m).1 } ws n → w'.cell? ⟨bd, 10, none⟩ = some (.int .i64 (x.part : Int)) ∧ w'.cell? ⟨bd, 6, none⟩ = some (.pointer (some ⟨z.br, 0, none⟩)) ∧ w'.frozen? ⟨bd, 10, none⟩ = false ∧ bd < w'.heap.size ∧ w'.cell? ⟨z.br, 14, none⟩ = some (.int .i64 (stepM x.m).1.how) ∧ z.br < w'.heap.size) := fun w' k => ⟨(k.cell 10).trans rfl, (k.cell 6).trans rfl, k.free 10, k.ltB, k.how.1, k.how.2⟩
  have hcn : ¬ 0 ≤ x.cell := by omega
  have hh' : ((stepM x.m).1.how != 0) = true := by simpa using hh
  clear h hl hI h2 h0 hw lk tr hk hh
  generalize plW x = pl at *
  generalize hAA : (stepM x.m).2 = A at *
  obtain ⟨Ak, Ac, Ax, Af⟩ := A
  generalize (stepM x.m).1 = M at *
  generalize M.how = hm at *
  dsimp only at *
  clear hAA
  go_enter Tryz.func15, Tryz.ntmps15
  go_wp2_with fail
  refine wp_region_seq (fun u => u.cell? ⟨bw, 0, none⟩ = some (.slice (some ⟨gw, 0, none⟩) ws.length ws.length) ∧ u.cell? ⟨bd, 5, none⟩ = some (.int .i64 pl) )  ((0, true) :: (1, true) :: (2, true) :: (3, true) :: (4, true) :: (5, true) :: (6, true) :: (7, true) :: (8, true) :: (9, true) :: (10, true) :: [])  Md.Cv.follows13 (by kernel_rfl) (fun _ _ _ _ _ h => h)  ⟨w0, c5⟩ ?_
  (repeat ((first | (refine wpSeq_take (v := ?_) rfl (by rfl) (fun wq hSq => ?_) ?_; rotate_left; (focus ((try dsimp only at hSq); go_simp; try with_reducible rfl))) | refine wpSeq_skip rfl (by rfl) ?_); simp only [Act.put, List.setIfInBounds_toArray, List.set_cons_zero, List.set_cons_succ]))
  refine wpSeq_nil ?_
  go_wp2_with (go_at_call 48; refine HS.out.mono ?_; rintro e w1 ⟨rfl, k⟩; obtain ⟨g10, g6, fg10, lg, gh, lh⟩ := HB.out _ k; have HZ := Lib.hid (fun o => HP.out _ o k); clear k HS HB)
  go_ret2
  exact ⟨rfl, HZ.out _⟩
set_option maxRecDepth 100000 in
set_option maxHeartbeats 1000000 in
theorem dstep_goes (h : DMid W R0 bd z bw gw w x ws n) (hI : In0 x) (hst : 0 ≤ x.steps ∧ x.steps ≤ 100000) (hl : plW x ≤ (ws.length : Int)) (hp : x.part = 2) (hc : x.cell < 0) (hk1 : (stepM x.m).2.kind ≠ 1) (hk4 : (stepM x.m).2.kind ≠ 4) : Calls Tryz.prog 15 #[.pointer (some ⟨bd, 0, none⟩), .pointer (some ⟨bw, 0, none⟩)] w fun e w' => e = .returned (.tuple #[.bool false, .int .i64 0]) ∧ DMid W R0 bd z bw gw w' { tickX x with m := (stepM x.m).1, part := 2 } ws n := by
  obtain ⟨c2, c3, c5, c6, c7, c10, c11, c12, c13, c14, c17, lb⟩ := h.all (pt := 2) rfl (by omega) rfl
  obtain ⟨f10, f11, f12, f13, f14, f17⟩ := h.frees
  have w0 := h.words.cell0
  have lw := h.words.ltB
  have hlt : ¬ (ws.length : Int) < plW x := by omega
  obtain ⟨h0, h2⟩ := hI.p2 hp
  have hw : ¬ 0 ≤ x.m.wait := by omega
  obtain ⟨lk, tr⟩ := step_turns hI.inv hw h0
  have HS := Lib.hid (h.tick.step hI.inv (M := (stepM x.m).1) (A := (stepM x.m).2) rfl rfl)
  have hh : (stepM x.m).1.how = 0 := by
    rcases tr with ⟨k4, _⟩ | ⟨k1, _⟩ | ⟨_, _, e2, _⟩
    · omega
    · omega
    · exact e2
  have HP : Hid (∀ w' o, DMid W R0 bd z bw gw w' { tickX x with m := (stepM x.m).1 } ws n → DMid W R0 bd z bw gw (w'.alloc o) { tickX x with m := (stepM x.m).1, part := 2 } ws n) := fun w' o k => by
    have e : ({ tickX x with m := (stepM x.m).1 } : Rx) = { tickX x with m := (stepM x.m).1, part := 2 } := by
      unfold tickX
      rw [hp]
    rw [← e]
    exact k.alloc o
  have HB : Hid (∀ w', DMid W R0 bd z bw gw w' { tickX x with m := (stepM x.m).1 } ws n → w'.cell? ⟨bd, 6, none⟩ = some (.pointer (some ⟨z.br, 0, none⟩)) ∧ bd < w'.heap.size ∧ w'.cell? ⟨z.br, 14, none⟩ = some (.int .i64 0) ∧ z.br < w'.heap.size) := fun w' k => ⟨(k.cell 6).trans rfl, k.ltB, by have := k.how.1; dsimp only at this; rw [hh] at this; exact this, k.how.2⟩
  have hcn : ¬ 0 ≤ x.cell := by omega
  have hk' : ((stepM x.m).2.kind == 1) = false := by simpa using hk1
  clear h hl hI h2 h0 hw lk tr hk1 hk4 hh
  generalize plW x = pl at *
  generalize hAA : (stepM x.m).2 = A at *
  obtain ⟨Ak, Ac, Ax, Af⟩ := A
  generalize (stepM x.m).1 = M at *
  dsimp only at *
  clear hAA
  go_enter Tryz.func15, Tryz.ntmps15
  go_wp2_with fail
  refine wp_region_seq (fun u => u.cell? ⟨bw, 0, none⟩ = some (.slice (some ⟨gw, 0, none⟩) ws.length ws.length) ∧ u.cell? ⟨bd, 5, none⟩ = some (.int .i64 pl) )  ((0, true) :: (1, true) :: (2, true) :: (3, true) :: (4, true) :: (5, true) :: (6, true) :: (7, true) :: (8, true) :: (9, true) :: (10, true) :: [])  Md.Cv.follows13 (by kernel_rfl) (fun _ _ _ _ _ h => h)  ⟨w0, c5⟩ ?_
  (repeat ((first | (refine wpSeq_take (v := ?_) rfl (by rfl) (fun wq hSq => ?_) ?_; rotate_left; (focus ((try dsimp only at hSq); go_simp; try with_reducible rfl))) | refine wpSeq_skip rfl (by rfl) ?_); simp only [Act.put, List.setIfInBounds_toArray, List.set_cons_zero, List.set_cons_succ]))
  refine wpSeq_nil ?_
  go_wp2_with (go_at_call 48; refine HS.out.mono ?_; rintro e w1 ⟨rfl, k⟩; obtain ⟨g6, lg, gh, lh⟩ := HB.out _ k; have HZ := Lib.hid (fun o => HP.out _ o k); clear k HS HB)
  go_ret2
  exact ⟨rfl, HZ.out _⟩
theorem dstep_any (h : DMid W R0 bd z bw gw w x ws n) (hI : InX x) (hp : x.part ≠ 4) (hl : plW x ≤ (ws.length : Int)) (hW : okW ws) {y : Rx} {ws' : List Int} {ac : Bool} (hy : stepX x ws = (y, ws', ac)) {n' : Int} (hn : (if ac then up n else n) = n') : Calls Tryz.prog 15 #[.pointer (some ⟨bd, 0, none⟩), .pointer (some ⟨bw, 0, none⟩)] w fun e w' => e = .returned (.tuple #[.bool (decide ((y.part : Int) = 4)), .int .i64 0]) ∧ DMid W R0 bd z bw gw w' y ws' n' := by
  have hst : 0 ≤ x.steps ∧ x.steps ≤ 100000 := by have := hI.pos; have := hI.few_steps.1; have := hI.inv.fuel; omega
  have hP := hI.part
  have hI0 := hI.toIn0
  subst hn
  rcases (by omega : x.part = 1 ∨ x.part = 2 ∨ x.part = 3) with e | e | e
  · have E : stepX x ws = ((comeX (tickX x) ws).1, (comeX (tickX x) ws).2, true) := by unfold stepX; rw [if_pos e]
    rw [E] at hy
    have hs2 := (hI.p1 e).1
    rcases (by omega : x.sub = 0 ∨ x.sub = 1 ∨ x.sub = 2) with d | d | d
    · have C : comeX (tickX x) ws = ({ tickX x with claim := wordAt ws 2, sub := 1 }, ws) := by unfold comeX; rw [if_pos (show (tickX x).sub = 0 from d)]
      rw [C] at hy
      cases hy
      refine (dstep_come0 h hI0 hst hl e d).mono ?_
      rintro r w' ⟨rfl, k⟩
      exact ⟨by show _ = Ending.returned (.tuple #[.bool (decide (((x.part : Nat) : Int) = 4)), .int .i64 0]); rw [decide_eq_false (by omega)], k⟩
    · have C : comeX (tickX x) ws = ({ tickX x with sub := 2 }, ws.set (3 + x.th).toNat (Md.Cv.passV x.claim)) := by unfold comeX; rw [if_neg (show ¬ (tickX x).sub = 0 by show ¬ x.sub = 0; omega), if_pos (show (tickX x).sub = 1 from d)]; rfl
      rw [C] at hy
      cases hy
      refine (dstep_come1 h hI0 hst hl e d).mono ?_
      rintro r w' ⟨rfl, k⟩
      exact ⟨by show _ = Ending.returned (.tuple #[.bool (decide (((x.part : Nat) : Int) = 4)), .int .i64 0]); rw [decide_eq_false (by omega)], k⟩
    · have C : comeX (tickX x) ws = ({ tickX x with stamp := wordAt ws 2, part := 2 }, ws) := by unfold comeX; rw [if_neg (show ¬ (tickX x).sub = 0 by show ¬ x.sub = 0; omega), if_neg (show ¬ (tickX x).sub = 1 by show ¬ x.sub = 1; omega)]
      rw [C] at hy
      cases hy
      refine (dstep_come2 h hI0 hst hl e d).mono ?_
      rintro r w' ⟨rfl, k⟩
      exact ⟨rfl, k⟩
  · have E : stepX x ws = ((runX (tickX x) ws).1, ws, (runX (tickX x) ws).2) := by unfold stepX; rw [if_neg (by omega), if_neg (by omega)]
    rw [E] at hy
    have hb := hI.celB
    have h4 : ((runX (tickX x) ws).1.part : Int) ≠ 4 := by have := (run_in hI e hW).2.2.2; omega
    by_cases hc : 0 ≤ x.cell
    · have R : runX (tickX x) ws = (readX (tickX x) ws, true) := by unfold runX; rw [if_pos (show 0 ≤ (tickX x).cell from hc)]
      rw [R] at hy h4
      cases hy
      refine (dstep_old h hI0 hst hl e hc).mono ?_
      rintro r w' ⟨rfl, k⟩
      exact ⟨by rw [decide_eq_false h4], k⟩
    · by_cases h1 : (stepM x.m).2.kind = 1
      · have R : runX (tickX x) ws = (readX (begX (tickX x)) ws, true) := by unfold runX; rw [if_neg (show ¬ 0 ≤ (tickX x).cell from hc), if_pos (show (stepM (tickX x).m).2.kind = 1 from h1)]
        rw [R] at hy h4
        cases hy
        refine (dstep_new h hI0 hst hl e (by omega) h1 hW).mono ?_
        rintro r w' ⟨rfl, k⟩
        exact ⟨by rw [decide_eq_false h4], k⟩
      · by_cases h4' : (stepM x.m).2.kind = 4
        · have R : runX (tickX x) ws = ({ tickX x with m := (stepM x.m).1, part := 3 }, false) := by unfold runX; rw [if_neg (show ¬ 0 ≤ (tickX x).cell from hc), if_neg (show ¬ (stepM (tickX x).m).2.kind = 1 from h1), if_pos (show (stepM (tickX x).m).2.kind = 4 from h4')]; rfl
          rw [R] at hy h4
          cases hy
          refine (dstep_ends h hI0 hst hl e (by omega) h4').mono ?_
          rintro r w' ⟨rfl, k⟩
          exact ⟨rfl, k⟩
        · have R : runX (tickX x) ws = ({ tickX x with m := (stepM x.m).1, part := 2 }, false) := by unfold runX; rw [if_neg (show ¬ 0 ≤ (tickX x).cell from hc), if_neg (show ¬ (stepM (tickX x).m).2.kind = 1 from h1), if_neg (show ¬ (stepM (tickX x).m).2.kind = 4 from h4')]; rfl
          rw [R] at hy h4
          cases hy
          refine (dstep_goes h hI0 hst hl e (by omega) h1 h4').mono ?_
          rintro r w' ⟨rfl, k⟩
          exact ⟨rfl, k⟩
  · have E : stepX x ws = (leaveX (tickX x), ws.set (3 + x.th).toNat 0, true) := by unfold stepX; rw [if_neg (by omega), if_pos e]
    rw [E] at hy
    cases hy
    refine (dstep_leave h hI0 hst hl e).mono ?_
    rintro r w' ⟨rfl, k⟩
    exact ⟨rfl, k⟩
end
end Go.Proofs.YtninicfnhoediaaGreatDoor.Rr
namespace Go.Proofs.YtninicfnhoediaaGreatDoor.Rr
open Go.ChangeShapes Go.WideShapes Go.ChangeAt Go.RowKit Num
structure DLoop (N : World) (B : Nat) (w : World) (bd : Nat) (x : Rx) (z : Dz) (q : Rp) : Prop where
  raw : DRaw w bd x z q
  row : RowAt 71 w z.pa z.ca (fls x.args)
  lo : ∀ k, k ∈ bd :: (Fr z.br q ++ z.KR) → k < B
  hi : Abv B (fpR z.pa)
  ab : Abv N.heap.size (bd :: Fr z.br q)
  bk : Blw N z.KR
  bl : Below N.heap.size N w
  sz : N.heap.size ≤ B
section
variable {N w w3 : World} {B bd : Nat} {x : Rx} {z : Dz} {q : Rp}
theorem DLoop.more {v : Value} {y : Nat} {o : Obj} (h : DLoop N B w bd x z q) (hB : B ≤ w.heap.size) (hown : w3.ownsRow 0 71 1 v (x.args.length + 1) (fls x.args ++ [.float .f64 y])) (hg : (w.alloc o).grownBy w3 (Value.slice z.pa x.args.length z.ca).ownBlock) (hat : v.ownBlock = (Value.slice z.pa x.args.length z.ca).ownBlock ∨ v.ownBlock = some (w.alloc o).heap.size) :
    ∃ p' c', v = .slice p' (x.args.length + 1) c' ∧ w3.heap[bd]? = some (.cells (dboxX x z) 55 (0, 0)) ∧ DLoop N B (w3.setCell ⟨bd, 9, none⟩ (.slice p' (x.args.length + 1) c')) bd { x with args := x.args ++ [y] } { z with pa := p', ca := c' } q ∧ B ≤ (w3.setCell ⟨bd, 9, none⟩ (.slice p' (x.args.length + 1) c')).heap.size := by
  obtain ⟨p', c', rfl, hr⟩ := ownsRow_slice hown
  have hl : (fls x.args ++ [Value.float .f64 y]).length = x.args.length + 1 := by simp [fls_len]
  rw [hl] at hat ⊢
  have g : w.grownBy w3 (Value.slice z.pa x.args.length z.ca).ownBlock := (World.grownBy_alloc w o _).trans hg
  have ho : ∀ k, k ∈ fpR p' → k ∈ fpR z.pa ∨ w.heap.size ≤ k := own_at hat (by simp)
  have hip : Abv B (fpR p') := fun k hk => (ho k hk).elim (h.hi k) (fun y => Nat.le_trans hB y)
  have kp : ∀ k, k < B → w3.heap[k]? = w.heap[k]? := fun k hk => g.block k (Nat.lt_of_lt_of_le hk hB) (fun e => by have := h.hi k (own_fpR.2 e.symm); omega)
  have lob : bd < B := h.lo bd (by simp)
  have kk : Kept (bd :: (Fr z.br q ++ z.KR)) w w3 := ⟨g.size, fun i hi => kp i (h.lo i hi)⟩
  have hbd : w3.heap[bd]? = _ := (kp bd lob).trans h.raw.box
  have nd : bd ∉ Fr z.br q ++ z.KR := fun y => h.raw.sb (by rw [← List.append_assoc]; exact List.mem_append.2 (.inl y))
  have k2 : Kept (Fr z.br q ++ z.KR) w (w3.setCell ⟨bd, 9, none⟩ (.slice p' (x.args.length + 1) c')) := ⟨by simpa using g.size, fun i hi => (heap_setCell_other _ _ _ _ (fun (e : i = bd) => nd (e ▸ hi))).trans (kp i (h.lo i (List.mem_cons_of_mem _ hi)))⟩
  have np : bd ∉ fpR p' := fun y => by have := hip bd y; omega
  have row' : RowAt 71 (w3.setCell ⟨bd, 9, none⟩ (.slice p' (x.args.length + 1) c')) p' c' (fls (x.args ++ [y])) := by
    rw [fls_snoc] at *
    exact hr.keep (keptB np)
  have inF : ∀ k, k = z.br ∨ k = z.bl → k < B := fun k hk => h.lo k (by
    have e := h.raw.at_.1
    rcases hk with rfl | rfl
    · simp [Fr]
    · simp [Fr, e])
  have hbs := h.bl.size
  have hgs := g.size
  refine ⟨p', c', rfl, hbd, ⟨⟨?_, h.raw.ref.keep ⟨k2.1, fun i hi => k2.2 i (List.mem_append.2 (.inl hi))⟩ ⟨k2.1, fun i hi => k2.2 i (List.mem_append.2 (.inr (by rw [← h.raw.at_.2]; exact hi)))⟩, h.raw.at_, row'.ro, row'.blw, fun y => ?_, ⟨fun y => by have h1 := hip z.br y; have h2 := inF z.br (.inl rfl); omega, fun y => by have h1 := hip z.bl y; have h2 := inF z.bl (.inr rfl); omega⟩⟩, row', h.lo, hip, h.ab, h.bk, ?_, h.sz⟩, by simp; omega⟩
  · refine (heap_setCell_same w3 bd 9 _ _ _ hbd).trans ?_
    unfold dboxX
    simp
  · rw [← List.append_assoc] at y
    rcases List.mem_append.1 y with y | y
    · exact nd y
    · exact np y
  · refine ⟨g.os.trans h.bl.os, g.tape.trans h.bl.tape, g.output.trans h.bl.output, by simp; omega, fun k hk => ?_⟩
    have e1 : k ≠ bd := by have := h.ab bd (by simp); omega
    have := h.sz
    exact (heap_setCell_other _ _ _ _ e1).trans ((kp k (by omega)).trans (h.bl.block k hk))
end
def krA (ao : Option Addr) (cs : List Ins) : List Nat := if cs = [] then [] else fpR ao
theorem krA_blw {w : World} {ao : Option Addr} {cs : List Ins} (h : CodeAt w ao cs) : Blw w (krA ao cs) := fpK_blw (q := rq0 0 0 ao 0 0 false 0) h
structure DMade (w w' : World) (bd : Nat) (x : Rx) (ao : Option Addr) (cs : List Ins) : Prop where
  at_ : ∃ z q, z.cs = cs ∧ z.KR = krA ao cs ∧ DRaw w' bd x z q ∧ Abv w.heap.size (bd :: Fr z.br q) ∧ Abv w.heap.size (fpR z.pa)
  bl : Below w.heap.size w w'
section
variable {w : World} {a b c e t th : Int} {ao : Option Addr} {cs : List Ins} {n cap : Nat} {po : Option Addr} {l : List Nat} {k co : Nat}
set_option maxRecDepth 100000 in
set_option maxHeartbeats 1000000 in
theorem dnew_nil (h : (Md.cfgB a b c e && decide (k ≤ 8)) = false) : Calls Tryz.prog 37 #[cfgV a b c e, .int .i64 th, .agg #[.int .i64 t, .slice ao n cap], .slice po k co] w fun r w' => r = .returned (.pointer none) ∧ Below w.heap.size w w' := by
  have HN : Hid (∀ u, Calls Tryz.prog 77 #[cfgV a b c e, .agg #[.int .i64 t, .slice ao n cap], .slice po k co] u fun r w' => r = .returned (.pointer none) ∧ Below u.heap.size u w') := fun u => rnew_nil h
  have HP := Lib.hid (fun u => Md.refPlace_any a b c e u)
  have HX : Hid (∀ u, Below (newW w a b c e t ao n cap).heap.size (newW w a b c e t ao n cap) u → u.heap[w.heap.size]? = some (cfgO a b c e) ∧ u.heap[w.heap.size + 1]? = some (prgO t ao n cap) ∧ Below w.heap.size w u) := fun u q => ⟨(q.block _ (by simp; omega)).trans (heap_old (heap_alloc_new _ _)), (q.block _ (by simp)).trans (heap_new (by simp)), (newW_boxes q).2.2⟩
  cases hc : Md.cfgB a b c e
  · simp only [hc] at HP
    go_enter Tryz.func37, Tryz.ntmps37
    go_wp2_with (first
      | (go_at_call 77; refine (HN.out _).mono ?_; rintro e u2 ⟨rfl, q⟩; have H2 := Lib.hid (below_chain (H1.out.alloc H1.out.size _) q); clear q)
      | (go_at_call 38; refine (HP.out _).mono ?_; rintro e u1 ⟨rfl, q⟩; have H1 := Lib.hid q; obtain ⟨b0, b1, b3⟩ := HX.out _ q; obtain ⟨c0, c1, c2, c3, c4⟩ := cells4 b0; obtain ⟨d0, d1, d2⟩ := cells2 b1; clear b0 b1 b3 q))
    go_ret
    exact ⟨rfl, (HX.out _ H2.out).2.2⟩
  · simp only [hc] at HP
    go_enter Tryz.func37, Tryz.ntmps37
    go_wp2_with (first
      | (go_at_call 77; refine (HN.out _).mono ?_; rintro e u2 ⟨rfl, q⟩; have H2 := Lib.hid (below_chain (H1.out.alloc H1.out.size _) q); clear q)
      | (go_at_call 38; refine (HP.out _).mono ?_; rintro e u1 ⟨rfl, q⟩; have H1 := Lib.hid q; obtain ⟨b0, b1, b3⟩ := HX.out _ q; obtain ⟨c0, c1, c2, c3, c4⟩ := cells4 b0; obtain ⟨d0, d1, d2⟩ := cells2 b1; clear b0 b1 b3 q))
    go_ret
    exact ⟨rfl, (HX.out _ H2.out).2.2⟩
set_option maxRecDepth 100000 in
set_option maxHeartbeats 1000000 in
theorem dnew_out (hc : Md.cfgB a b c e = true) (hn : cs.length = n) (hk : l.length = k) (hk8 : k ≤ 8) (hC : CodeAt w ao cs) (hL : FlAt w po l) (hnl : n ≤ 9223372036854775807) (ht : ¬ (0 ≤ th ∧ th < b)) : Calls Tryz.prog 37 #[cfgV a b c e, .int .i64 th, .agg #[.int .i64 t, .slice ao n cap], .slice po k co] w fun r w' => r = .returned (.pointer none) ∧ Below w.heap.size w w' := by
  have HN : Hid (∀ u, Below w.heap.size w u → Calls Tryz.prog 77 #[cfgV a b c e, .agg #[.int .i64 t, .slice ao n cap], .slice po k co] u fun r w' => ∃ br : Nat, r = .returned (.pointer (some ⟨br, 0, none⟩)) ∧ Below u.heap.size u w') := fun u hb => rnew_any hn hk (hC.on hb) (hL.on hb) hnl hc hk8
  have HP := Lib.hid (fun u => Md.refPlace_any a b c e u)
  have HX : Hid (∀ u, Below (newW w a b c e t ao n cap).heap.size (newW w a b c e t ao n cap) u → u.heap[w.heap.size]? = some (cfgO a b c e) ∧ u.heap[w.heap.size + 1]? = some (prgO t ao n cap) ∧ Below w.heap.size w u) := fun u q => ⟨(q.block _ (by simp; omega)).trans (heap_old (heap_alloc_new _ _)), (q.block _ (by simp)).trans (heap_new (by simp)), (newW_boxes q).2.2⟩
  simp only [hc] at HP
  clear hc hn hk hk8 hC hL hnl
  by_cases h0 : th < 0
  · go_enter Tryz.func37, Tryz.ntmps37
    go_wp2_with (first
      | (go_at_call 77; refine (HN.out _ (HX.out _ (H1.out.alloc H1.out.size _)).2.2).mono ?_; rintro e u2 ⟨br, rfl, q⟩; have H2 := Lib.hid (below_chain (H1.out.alloc H1.out.size _) q); clear q)
      | (go_at_call 38; refine (HP.out _).mono ?_; rintro e u1 ⟨rfl, q⟩; have H1 := Lib.hid q; obtain ⟨b0, b1, b3⟩ := HX.out _ q; obtain ⟨c0, c1, c2, c3, c4⟩ := cells4 b0; obtain ⟨d0, d1, d2⟩ := cells2 b1; clear b0 b1 b3 q))
    go_ret
    exact ⟨rfl, (HX.out _ H2.out).2.2⟩
  · have h1 : b ≤ th := by omega
    go_enter Tryz.func37, Tryz.ntmps37
    go_wp2_with (first
      | (go_at_call 77; refine (HN.out _ (HX.out _ (H1.out.alloc H1.out.size _)).2.2).mono ?_; rintro e u2 ⟨br, rfl, q⟩; have H2 := Lib.hid (below_chain (H1.out.alloc H1.out.size _) q); obtain ⟨x0, x1, x2, x3, x4⟩ := cells4 (HX.out _ H2.out).1; clear q)
      | (go_at_call 38; refine (HP.out _).mono ?_; rintro e u1 ⟨rfl, q⟩; have H1 := Lib.hid q; obtain ⟨b0, b1, b3⟩ := HX.out _ q; obtain ⟨c0, c1, c2, c3, c4⟩ := cells4 b0; obtain ⟨d0, d1, d2⟩ := cells2 b1; clear b0 b1 b3 q))
    go_ret
    exact ⟨rfl, (HX.out _ H2.out).2.2⟩
theorem take_fix {l : List Nat} {j : Nat} (h : j < l.length) : (l.take j).map fixB ++ [fixB (l.getD j 0)] = (l.take (j + 1)).map fixB := by
  rw [List.take_add_one, List.map_append, List.getD_eq_getElem?_getD, List.getElem?_eq_getElem h]
  rfl
theorem dloop_new {u1 u2 : World} {br bl ca : Nat} {pa : Option Addr} (hC : CodeAt w ao cs) (hn : cs.length = n) (h1 : Below w.heap.size w u1) (h : RNew u1 u2 (newM a c e t cs l) { rq0 b t ao n cap (!checkB t cs) bl with pa := pa, na := 8, ca := ca } br (eight (argF l))) {v : World} (hv : Same (u2.alloc (.cells (dboxX { newX a b c e t cs l th with args := [] } ⟨br, bl, [], none, 0, cs⟩) 55)) v) : ∃ q, DLoop w v.heap.size v u2.heap.size { newX a b c e t cs l th with args := [] } ⟨br, bl, krA ao cs, none, 0, cs⟩ q := by
  have hR := h.ref h1 hC hn
  have hA := h.abv
  have hb2 := h.bl
  have ha : Below u2.heap.size u2 v := (below_alloc _ _).trans (hv.below _)
  have hbx : v.heap[u2.heap.size]? = some (.cells (dboxX { newX a b c e t cs l th with args := [] } ⟨br, bl, [], none, 0, cs⟩) 55 (0, 0)) := by rw [hv.heap]; exact heap_alloc_new _ _
  have l2 : u2.heap.size < v.heap.size := lt_of_block hbx
  have hk : Blw w (fpK { rq0 b t ao n cap (!checkB t cs) bl with pa := pa, na := 8, ca := ca } cs) := fpK_blw hC
  have s1 := h1.size
  have s2 := hb2.size
  have lF : ∀ i ∈ Fr br { rq0 b t ao n cap (!checkB t cs) bl with pa := pa, na := 8, ca := ca }, i < u2.heap.size := hR.lt
  refine ⟨{ rq0 b t ao n cap (!checkB t cs) bl with pa := pa, na := 8, ca := ca }, ⟨⟨hbx, hR.on ha, ⟨rfl, rfl⟩, Ro.nil _, (fun i hi => by simp [fpR] at hi), fun y => ?_, ⟨by simp [fpR], by simp [fpR]⟩⟩, ⟨⟨rfl, .inl ⟨rfl, rfl⟩⟩⟩, fun i hi => ?_, (fun i hi => by simp [fpR] at hi), fun i hi => ?_, hk, h1.trans ((hb2.trans (ha.mono hb2.size)).mono s1), by omega⟩⟩
  · rcases List.mem_append.1 y with y | y
    · exact absurd (lF _ y) (Nat.lt_irrefl _)
    · rcases List.mem_append.1 y with y | y
      · have := hk _ y; omega
      · simp [fpR] at y
  · simp only [List.mem_cons, List.mem_append] at hi
    rcases hi with rfl | hi | hi
    · exact l2
    · have := lF i hi; omega
    · have := hk i hi; omega
  · simp only [List.mem_cons] at hi
    rcases hi with rfl | hi
    · omega
    · have := hA i hi; omega
set_option maxRecDepth 100000 in
set_option maxHeartbeats 1000000 in
theorem dnew_yes (hc : Md.cfgB a b c e = true) (hn : cs.length = n) (hk : l.length = k) (hk8 : k ≤ 8) (hC : CodeAt w ao cs) (hL : FlAt w po l) (hnl : n ≤ 9223372036854775807) (h0 : 0 ≤ th) (h1 : th < b) : Calls Tryz.prog 37 #[cfgV a b c e, .int .i64 th, .agg #[.int .i64 t, .slice ao n cap], .slice po k co] w fun r w' => ∃ bd, r = .returned (.pointer (some ⟨bd, 0, none⟩)) ∧ DMade w w' bd (newX a b c e t cs l th) ao cs := by
  have HN : Hid (∀ u, Below w.heap.size w u → Calls Tryz.prog 77 #[cfgV a b c e, .agg #[.int .i64 t, .slice ao n cap], .slice po k co] u fun r w' => ∃ br bl pa ca, r = .returned (.pointer (some ⟨br, 0, none⟩)) ∧ RNew u w' (newM a c e t cs l) { rq0 b t ao n cap (!checkB t cs) bl with pa := pa, na := 8, ca := ca } br (eight (argF l))) := fun u hb => rnew_some hc hn hk hk8 (hC.on hb) (hL.on hb) hnl
  have HP := Lib.hid (fun u => Md.refPlace_any a b c e u)
  have HX : Hid (∀ u, Below (newW w a b c e t ao n cap).heap.size (newW w a b c e t ao n cap) u → u.heap[w.heap.size]? = some (cfgO a b c e) ∧ u.heap[w.heap.size + 1]? = some (prgO t ao n cap) ∧ Below w.heap.size w u) := fun u q => ⟨(q.block _ (by simp; omega)).trans (heap_old (heap_alloc_new _ _)), (q.block _ (by simp)).trans (heap_new (by simp)), (newW_boxes q).2.2⟩
  simp only [hc] at HP
  have HDL : Hid (∀ u1 u2 br bl ca pa v, Below w.heap.size w u1 → RNew u1 u2 (newM a c e t cs l) { rq0 b t ao n cap (!checkB t cs) bl with pa := pa, na := 8, ca := ca } br (eight (argF l)) → Same (u2.alloc (.cells #[.int .i64 0, .int .i64 1, .int .i64 2, .int .i64 3, .int .i64 (3 + b), .int .i64 (3 + b + 3 * a), .pointer (some ⟨br, 0, none⟩), .int .i64 th, .int .i64 t, .slice none 0 0, .int .i64 1, .int .i64 0, .int .u64 0, .int .u64 0, .int .i64 (-1), .int .u64 0, .int .u64 0, .int .i64 0] 55)) v → ∃ q, DLoop w v.heap.size v u2.heap.size { newX a b c e t cs l th with args := [] } ⟨br, bl, krA ao cs, none, 0, cs⟩ q) := fun u1 u2 br bl ca pa v q1 q2 q3 => dloop_new hC hn q1 q2 q3
  have HL : Hid (∀ u, Below w.heap.size w u → FlAt u po l) := fun u hb => hL.on hb
  have HK : Hid (l.length = k) := hk
  obtain ⟨i0, hi, hz0, hz1, hz2⟩ := info_parts fInfo
  have HZI := Lib.hid (And.intro hi (And.intro hz0 (And.intro hz1 hz2)))
  clear hc hn hk hC hL hnl hi hz0 hz1 hz2
  obtain ⟨p5, h5⟩ : ∃ p5, 3 + b + 3 * a = p5 := ⟨_, rfl⟩
  obtain ⟨p4, h4⟩ : ∃ p4, 3 + b = p4 := ⟨_, rfl⟩
  rw [h5, h4] at HDL HP
  clear h4 h5
  generalize newM a c e t cs l = m0 at *
  go_enter Tryz.func37, Tryz.ntmps37
  go_wp2_with (first
    | (go_at_call 77; refine (HN.out _ (HX.out _ (H1.out.alloc H1.out.size _)).2.2).mono ?_; rintro e u2 ⟨br, bl, pa, ca, rfl, q⟩; have H2 := Lib.hid (below_chain (H1.out.alloc H1.out.size _) q.bl); have HRN := Lib.hid q; obtain ⟨x0, x1, x2, x3, x4⟩ := cells4 (HX.out _ H2.out).1; obtain ⟨s0, s1, s2⟩ := cells2 (HX.out _ H2.out).2.1; obtain ⟨t0, t1, t2, t3, t4, t5, t6⟩ := cells6 ((q.bl.block _ (by simp)).trans (heap_alloc_new u1 (.cells #[.int .i64 0, .int .i64 1, .int .i64 2, .int .i64 3, .int .i64 p4, .int .i64 p5] 51))); clear q)
    | (go_at_call 38; refine (HP.out _).mono ?_; rintro e u1 ⟨rfl, q⟩; have H1 := Lib.hid q; obtain ⟨b0, b1, b3⟩ := HX.out _ q; obtain ⟨c0, c1, c2, c3, c4⟩ := cells4 b0; obtain ⟨d0, d1, d2⟩ := cells2 b1; clear b0 b1 b3 q))
  obtain ⟨v0, hv0⟩ : ∃ v0, v0 = u2.alloc (.cells #[.int .i64 0, .int .i64 1, .int .i64 2, .int .i64 3, .int .i64 p4, .int .i64 p5, .pointer (some ⟨br, 0, none⟩), .int .i64 th, .int .i64 t, .slice none 0 0, .int .i64 1, .int .i64 0, .int .u64 0, .int .u64 0, .int .i64 (-1), .int .u64 0, .int .u64 0, .int .i64 0] 55) := ⟨_, rfl⟩
  rw [← hv0]
  obtain ⟨q0, hq0⟩ := HDL.out (u1.alloc (.cells #[.int .i64 0, .int .i64 1, .int .i64 2, .int .i64 3, .int .i64 p4, .int .i64 p5] 51)) u2 br bl ca pa v0 (HX.out _ (H1.out.alloc H1.out.size _)).2.2 HRN.out (by rw [hv0]; exact Same.refl _)
  have HQ0 := Lib.hid hq0
  clear hv0 hq0 HDL HRN HN HP HX H1 H2 x0 x1 x2 x3 x4 s0 s1 s2 t0 t1 t2 t3 t4 t5 t6 c0 c1 c2 c3 c4 d0 d1 d2
  obtain ⟨X, hX⟩ : ∃ X, X = newX a b c e t cs l th := ⟨_, rfl⟩
  rw [← hX] at HQ0
  have HXE := Lib.hid hX
  clear hX
  go_loopw [49] (fun vi wr => ∃ j : Nat, vi = .int .i64 j ∧ j ≤ k ∧ Hid (∃ p' c', DLoop w v0.heap.size wr u2.heap.size { X with args := (l.take j).map fixB } ⟨br, bl, krA ao cs, p', c', cs⟩ q0 ∧ v0.heap.size ≤ wr.heap.size)) (fun vi _ => k - (intOf vi).toNat)
  case atStart => exact ⟨0, rfl, Nat.zero_le _, none, 0, HQ0.out, Nat.le_refl _⟩
  case round =>
    obtain ⟨j, rfl, hj, HR⟩ := hrel
    obtain ⟨p', c', hr, hsz⟩ := HR.out
    by_cases hlt : j < k
    · have hlt' : (j : Int) < (k : Int) := by omega
      obtain ⟨g, o, rfl, hg, hx⟩ := HL.out _ hr.bl j (by rw [HK.out]; exact hlt)
      have hl : ((l.take j).map fixB).length = j := by simp; have := HK.out; omega
      have HE := Lib.hid (take_fix (l := l) (j := j) (by rw [HK.out]; exact hlt))
      generalize l.getD j 0 = y at hx HE
      have h9 : wr.cell? ⟨u2.heap.size, 9, none⟩ = some (.slice p' j c') := (hr.raw.cell 9).trans (by show some (Value.slice p' ((l.take j).map fixB).length c') = _; rw [hl])
      have hbr := hr.raw.ltB
      have HO : Hid (wr.ownsRow 0 71 1 (.slice p' j c') j (fls ((l.take j).map fixB))) := by
        have := hr.row.own
        dsimp only at this
        rw [fls_len, hl] at this
        exact this
      have HM : Hid (∀ w3 v ob, w3.ownsRow 0 71 1 v (j + 1) (fls ((l.take j).map fixB) ++ [.float .f64 (fixB y)]) → (wr.drew.alloc ob).grownBy w3 (Value.slice p' j c').ownBlock → (v.ownBlock = (Value.slice p' j c').ownBlock ∨ v.ownBlock = some (wr.drew.alloc ob).heap.size) → ∃ p2 c2, v = .slice p2 (j + 1) c2 ∧ w3.heap[u2.heap.size]? = some (.cells (dboxX { X with args := (l.take j).map fixB } ⟨br, bl, krA ao cs, p', c', cs⟩) 55 (0, 0)) ∧ DLoop w v0.heap.size (w3.setCell ⟨u2.heap.size, 9, none⟩ (.slice p2 (j + 1) c2)) u2.heap.size { X with args := (l.take (j + 1)).map fixB } ⟨br, bl, krA ao cs, p2, c2, cs⟩ q0 ∧ v0.heap.size ≤ (w3.setCell ⟨u2.heap.size, 9, none⟩ (.slice p2 (j + 1) c2)).heap.size) := fun w3 v ob q1 q2 q3 => by
        have hs : DLoop w v0.heap.size wr.drew u2.heap.size { X with args := (l.take j).map fixB } ⟨br, bl, krA ao cs, p', c', cs⟩ q0 := ⟨hr.raw.on ((Same.drew wr).below _), hr.row.on ((Same.drew wr).below _), hr.lo, hr.hi, hr.ab, hr.bk, hr.bl.trans ((Same.drew wr).below _), hr.sz⟩
        have := hs.more (w3 := w3) (v := v) (y := fixB y) (o := ob) hsz (by dsimp only; rw [hl]; exact q1) (by dsimp only; rw [hl]; exact q2) (by dsimp only; rw [hl]; exact q3)
        dsimp only at this
        rw [hl, HE.out] at this
        exact this
      have OD : Hid (wr.drew.ownsRow 0 71 1 (.slice p' j c') j (fls ((l.take j).map fixB))) := HO.out
      have HLJ : Hid (((l.take j).map fixB).length = j) := hl
      clear HR hr hsz hl HL
      go_wp2_with fail
      refine wp_region_seqE (fun u => u.cell? ⟨u2.heap.size, 9, none⟩ = some (.slice p' j c') )  ((0, true) :: (1, true) :: (2, true) :: (3, true) :: (4, true) :: (5, true) :: (6, false) :: (7, false) :: (8, false) :: (9, true) :: (10, true) :: (11, false) :: [])  Md.Cv.follows13 (by kernel_rfl) (fun _ _ _ _ _ h => h)  h9 ?_
      (repeat (refine wpSeqE_take (v := ?_) rfl (by rfl) (fun wq hSq => ?_) ?_; rotate_left; (focus ((try dsimp only at hSq); go_simp; try with_reducible rfl)); simp only [Act.put, List.setIfInBounds_toArray, List.set_cons_zero, List.set_cons_succ]))
      (refine wpSeqE_do rfl (by rfl) (fun KK hK => ?_); go_simp)
      refine (refFix_any _ _).mono ?_
      rintro r u ⟨rfl, hu⟩
      subst u
      refine hK.out _ _ (fun _ => h9) ?_
      (clear hK KK; try simp only [Act.put, List.setIfInBounds_toArray, List.set_cons_zero, List.set_cons_succ])
      (refine wpSeqE_do rfl (by rfl) (fun KK hK => ?_); go_simp)
      have h9a : (wr.drew.alloc (.cells #[.float .f64 (fixB y)] 71)).cell? ⟨u2.heap.size, 9, none⟩ = some (.slice p' j c') := (World.cell?_alloc_old _ _ _ (Nat.ne_of_lt hbr)).trans h9
      refine hK.out _ _ (fun _ => h9a) ?_
      (clear hK KK; try simp only [Act.put, List.setIfInBounds_toArray, List.set_cons_zero, List.set_cons_succ])
      refine wpSeqE_do rfl (by rfl) (fun KK hK => ?_)
      refine wp_append_ex _ _ 27 27 rfl (.slice p' j c') (.slice (some ⟨wr.heap.size, 0, none⟩) 1 1) rfl rfl (run_append_own_at (P := Tryz.prog) (wr.drew.alloc (.cells #[.float .f64 (fixB y)] 71)) 0 27 27 71 i0 (.float .f64 0) 1 8 Tryz.underlying27 HZI.out.1 HZI.out.2.1 HZI.out.2.2.1 HZI.out.2.2.2 rfl (by decide) _ j (fls ((l.take j).map fixB)) (World.ownsRow.alloc (OD.out) _) ⟨wr.heap.size, 0, none⟩ 1 1 [.float .f64 (fixB y)] rfl (cell_one_new wr.drew _ _) (fun u hu => by simp at hu; subst hu; rfl) (by unfold maxLen; omega) (by omega) (Nat.zero_le _)) ?_
      rintro v3 w3 ⟨hown3, hgrow3, hnil3, hat3⟩
      obtain ⟨p2, c2, hv3, k1, k2, k3⟩ := HM.out _ _ _ hown3 hgrow3 hat3
      subst hv3
      have c9 : w3.cell? ⟨u2.heap.size, 9, none⟩ = some (.slice p' j c') := by
        rw [cell_of_row w3 _ 9 _ _ _ k1]
        show some (Value.slice p' ((l.take j).map fixB).length c') = _
        rw [HLJ.out]
      have f9 := frozen_of_row w3 _ 9 _ _ k1
      have l9 := lt_of_block k1
      have HKK := Lib.hid (And.intro k2 k3)
      clear hown3 hgrow3 hnil3 hat3 k1 k2 k3 HM
      refine hK.out _ _ (fun _ => c9) ?_
      (clear hK KK; try simp only [Act.put, List.setIfInBounds_toArray, List.set_cons_zero, List.set_cons_succ])
      (repeat (refine wpSeqE_take (v := ?_) rfl (by rfl) (fun wq hSq => ?_) ?_; rotate_left; (focus ((try dsimp only at hSq); go_simp; try with_reducible rfl)); simp only [Act.put, List.setIfInBounds_toArray, List.set_cons_zero, List.set_cons_succ]))
      (refine wpSeqE_do rfl (by rfl) (fun KK hK => ?_); go_simp)
      refine hK.out _ _ (fun hn => absurd rfl hn) ?_
      (clear hK KK; try simp only [Act.put])
      refine wpSeqE_nil ?_
      go_wp2_with fail
      exact ⟨⟨j + 1, by first | rfl | (congr 1), by omega, p2, c2, HKK.out⟩, by simp [intOf]; omega⟩
    · have hlt' : ¬ (j : Int) < (k : Int) := by omega
      obtain rfl : j = k := by omega
      have HZ : Hid (DMade w wr u2.heap.size X ao cs) := by
        have e : (l.take j).map fixB = X.args := by rw [HXE.out, List.take_of_length_le (by rw [HK.out]; exact Nat.le_refl _)]; rfl
        rw [e] at hr
        exact ⟨⟨_, q0, rfl, rfl, hr.raw, hr.ab, hr.hi.mono hr.sz⟩, hr.bl⟩
      clear HR hr hsz
      go_wp2
      go_ret
      exact ⟨_, rfl, by rw [← HXE.out]; exact HZ.out⟩
end
end Go.Proofs.YtninicfnhoediaaGreatDoor.Rr
namespace Go.Proofs.YtninicfnhoediaaGreatDoor.Rr
open Go.ChangeShapes Go.WideShapes Go.ChangeAt Go.RowKit Num
section
variable {W w w' : World} {G0 : List Nat} {b mb mg : Nat} {x : Rx} {z : Rz} {ws : List Int} {o : Bool} {n : Int}
theorem full_new {bx : Nat} (hW : Below W.heap.size W w) (hm : MemAt 123 w mb mg ws o n) (ab : W.heap.size ≤ mb) (ag : W.heap.size ≤ mg) (h : Made w w' bx x) (hc : x.cell < 0) : ∃ z, Full W [] bx z mb mg w' x ws o n := by
  obtain ⟨z, F, r, h1, h2, h3⟩ := h.at_
  have hs := hW.size
  have l1 := hm.ltB
  have l2 := hm.ltG
  refine ⟨z, none, r, ⟨F, h1, hm.on h.bl, fun i hi y => ?_, fun i hi y => ?_, ?_⟩, .inl ⟨rfl, hc⟩⟩
  · have := h2 i y
    simp only [List.mem_cons, List.not_mem_nil, or_false] at hi
    omega
  · have := h3 i y
    simp only [List.mem_cons, List.not_mem_nil, or_false] at hi
    omega
  · refine (Below.turn (hW.trans (h.bl.mono hs)) []).mono fun i hi => .inr ?_
    simp only [List.mem_cons] at hi
    rcases hi with hi | hi | hi
    · omega
    · omega
    · have := h2 i hi; omega
theorem Full.rebase (h : Full W G0 b z mb mg w x ws o n) : ∃ G, Full w G b z mb mg w x ws o n ∧ Turn G0 G W w ∧ Blw w G ∧ Sep z.KK G ∧ Blw w z.KK := by
  obtain ⟨q, r, ⟨F, h1, h2, h3, h4, t⟩, h5⟩ := h
  refine ⟨mb :: mg :: gX b z q F, ⟨q, r, ⟨F, h1, h2, h3, h4, Turn.refl _ _⟩, h5⟩, t, fun i hi => ?_, fun i hi y => ?_, h1.blwK⟩
  · simp only [List.mem_cons] at hi
    rcases hi with rfl | rfl | hi
    · exact h2.ltB
    · exact h2.ltG
    · exact h1.blw i hi
  · simp only [List.mem_cons] at y
    rcases y with rfl | rfl | y
    · exact h4 _ (by simp) hi
    · exact h4 _ (by simp) hi
    · exact h1.sep i hi y
theorem Full.from {G : List Nat} (h : Full w G b z mb mg w' x ws o n) (t : Turn G0 G W w) : Full W G0 b z mb mg w' x ws o n := by
  obtain ⟨q, r, ⟨F, h1, h2, h3, h4, t2⟩, h5⟩ := h
  exact ⟨q, r, ⟨F, h1, h2, h3, h4, t.trans t2⟩, h5⟩
theorem Full.below (h : Full W [] b z mb mg w x ws o n) : Below W.heap.size W w := by
  obtain ⟨q, r, ⟨F, h1, h2, h3, h4, t⟩, h5⟩ := h
  exact t.below (fun _ hi => by simp at hi) (Nat.le_refl _)
theorem Full.mem (h : Full W G0 b z mb mg w x ws o n) : MemAt 123 w mb mg ws o n := by
  obtain ⟨q, r, h1, _⟩ := h
  exact h1.mem
theorem Full.memb {ws' : List Int} {o' : Bool} {n' : Int} (h : Full W G0 b z mb mg w x ws o n) (k : Chg mb mg w w') (hm : MemAt 123 w' mb mg ws' o' n') : Full W G0 b z mb mg w' x ws' o' n' := by
  obtain ⟨q, r, h1, h2⟩ := h
  exact ⟨q, r, h1.memb k hm, h2⟩
theorem Full.raw (h : Full W G0 b z mb mg w x ws o n) : ∃ q F r, RawAt w b x z q F (comC x) r := by
  obtain ⟨q, r, ⟨F, h1, _⟩, _⟩ := h
  exact ⟨q, F, r, h1⟩
theorem Full.poke (h : Full W G0 b z mb mg w x ws o n) (i v : Int) : Calls Tryz.prog 36 #[.pointer (some ⟨mb, 0, none⟩), .int .i64 i, .int .u64 v] w fun e w' => e = .returned (.int .i64 (errP ws i)) ∧ Full W G0 b z mb mg w' x (Md.poked ws i v) o n := by
  refine (Md.poke_any h.mem i v).mono ?_
  rintro e w' ⟨rfl, k1, k2⟩
  exact ⟨rfl, h.memb k2 k1⟩
end
def lvC : List Ins := [⟨1, 0, 0⟩, ⟨16, 0, 0⟩, ⟨18, 0, 0⟩, ⟨20, 0, 0⟩]
def lvW : List Int := [0, 0, 3, 0, 0, 4, 4619567317775286272, 4618441417868443648]
def lvS : Nat → Rx × List Int × Bool × Int
  | 0 => (newX 1 2 20 1 1 lvC [] 1, lvW, false, 0)
  | i + 1 => ((stepX (lvS i).1 (lvS i).2.1).1, (stepX (lvS i).1 (lvS i).2.1).2.1, !(stepX (lvS i).1 (lvS i).2.1).2.2, if (stepX (lvS i).1 (lvS i).2.1).2.2 then up (lvS i).2.2.2 else (lvS i).2.2.2)
theorem lvS_part : ∀ i, i < 9 → (lvS i).1.part ≠ 4 := by
  intro i hi
  have : ((List.range 9).all fun i => (lvS i).1.part != 4) = true := by decide +kernel
  have := List.all_eq_true.1 this i (List.mem_range.2 hi)
  simpa using this
theorem lvS_end : (lvS 9).1.part = 4 ∧ (lvS 9).2.2.2 = 6 ∧ markV (lvS 9).1 = 3 ∧ (lvS 9).1.steps = 9 ∧ (lvS 9).1.m.how = 1 ∧ (lvS 9).1.m.cod = 0 ∧ (lvS 9).1.m.err = 0 ∧ (lvS 9).1.m.out = [4618441417868443648] := by
  refine ⟨by decide +kernel, by decide +kernel, by decide +kernel, by decide +kernel, by decide +kernel, by decide +kernel, by decide +kernel, by decide +kernel⟩
theorem lvS_peek : wordAt (lvS 4).2.1 4 = 4 ∧ hasB (lvS 4).2.1 4 = true := ⟨by decide +kernel, by decide +kernel⟩
theorem lvS_in : ∀ i, i ≤ 9 → InX (lvS i).1 ∧ okW (lvS i).2.1 ∧ plW (lvS i).1 ≤ ((lvS i).2.1.length : Int)
  | 0, _ => ⟨new_in (by decide +kernel) (fun k hk => by
      match k, hk with
      | 0, _ => decide
      | 1, _ => decide
      | 2, _ => decide
      | 3, _ => decide
      | k + 4, h => exact absurd h (by simp [lvC])) (fun x hx => by simp at hx) (by decide) ⟨by decide, by decide⟩, (fun v hv => by
      simp only [lvS, lvW, List.mem_cons, List.not_mem_nil, or_false] at hv
      unfold u64B
      omega), by decide +kernel⟩
  | i + 1, h => by
    obtain ⟨h1, h2, h3⟩ := lvS_in i (by omega)
    obtain ⟨g1, g2, _, g4, g5⟩ := step_in h1 (lvS_part i (by omega)) h2
    refine ⟨g1, g4, ?_⟩
    show plW (stepX (lvS i).1 (lvS i).2.1).1 ≤ ((stepX (lvS i).1 (lvS i).2.1).2.1.length : Int)
    rw [g5]
    unfold plW at h3 ⊢
    rw [g2.a, g2.b]
    exact h3
abbrev lvO : Obj := .cells #[.int .i64 1, .int .i64 0, .float .f64 0, .int .i64 16, .int .i64 0, .float .f64 0, .int .i64 18, .int .i64 0, .float .f64 0, .int .i64 20, .int .i64 0, .float .f64 0] 91
abbrev lvN (W : World) : World := ((W.alloc (cfgO 1 2 20 1)).alloc lvO).alloc (prgO 1 (some ⟨W.heap.size + 1, 0, none⟩) 4 4)
theorem lvN_below (W : World) : Below W.heap.size W (lvN W) := ((below_alloc W _).trans ((below_alloc _ _).mono (by simp))).trans ((below_alloc _ _).mono (by simp; omega))
theorem lvN_code {W u : World} (h : Below (lvN W).heap.size (lvN W) u) : CodeAt u (some ⟨W.heap.size + 1, 0, none⟩) lvC ∧ u.heap[W.heap.size]? = some (cfgO 1 2 20 1) ∧ u.heap[W.heap.size + 1 + 1]? = some (prgO 1 (some ⟨W.heap.size + 1, 0, none⟩) 4 4) := by
  have h1 : (lvN W).heap[W.heap.size + 1]? = some lvO := heap_old (heap_new (by simp))
  have h0 : (lvN W).heap[W.heap.size]? = some (cfgO 1 2 20 1) := heap_old (heap_old (heap_alloc_new _ _))
  have h2 : (lvN W).heap[W.heap.size + 1 + 1]? = some (prgO 1 (some ⟨W.heap.size + 1, 0, none⟩) 4 4) := heap_new (by simp)
  have hb : u.heap[W.heap.size + 1]? = some lvO := (h.block _ (lt_of_block h1)).trans h1
  refine ⟨fun i hi => ⟨_, 0, rfl, lt_of_block hb, ?_⟩, (h.block _ (lt_of_block h0)).trans h0, (h.block _ (lt_of_block h2)).trans h2⟩
  have C : ∀ j, u.cell? ⟨W.heap.size + 1, j, none⟩ = _ := fun j => cell_of_row u _ j _ _ _ hb
  match i, hi with
  | 0, _ => exact ⟨(C 0).trans rfl, (C 1).trans rfl, (C 2).trans rfl⟩
  | 1, _ => exact ⟨(C 3).trans rfl, (C 4).trans rfl, (C 5).trans rfl⟩
  | 2, _ => exact ⟨(C 6).trans rfl, (C 7).trans rfl, (C 8).trans rfl⟩
  | 3, _ => exact ⟨(C 9).trans rfl, (C 10).trans rfl, (C 11).trans rfl⟩
  | q + 4, h => exact absurd h (by simp [lvC])
def lvP : Nat → List Int
  | 0 => [0, 0, 0, 0, 0, 0, 0, 0]
  | i + 1 => (lvP i).set i (lvW.getD i 0)
theorem lvP_len : ∀ i, (lvP i).length = 8
  | 0 => rfl
  | i + 1 => by unfold lvP; rw [List.length_set]; exact lvP_len i
theorem lvP_end : lvP 8 = lvW := by decide +kernel
theorem lvP_poke {i : Nat} (h : i < 8) : Md.poked (lvP i) (i : Int) (lvW.getD i 0) = lvP (i + 1) := by
  unfold Md.poked
  rw [hasB_of (by omega) (by rw [lvP_len]; omega), if_pos rfl]
  rfl
attribute [local go_sem] bits_run
set_option maxRecDepth 100000 in
set_option maxHeartbeats 4000000 in
theorem live_any {W : World} (hT : Shaped5 W) : Calls Tryz.prog 9 #[] W fun e w' => e = .returned (.bool true) ∧ Below W.heap.size W w' := by
  have HM : Hid (∀ u, Calls Tryz.prog 22 #[.int .i64 8] u fun e w' => e = .returned (.tuple #[.pointer (some ⟨u.heap.size + 1, 0, none⟩), .int .i64 0]) ∧ MemAt 123 w' (u.heap.size + 1) u.heap.size (lvP 0) false 0 ∧ Below u.heap.size u w') := fun u => Md.new_some 8 (by omega) (by omega) u
  have HN : Hid (∀ u, Below (lvN W).heap.size (lvN W) u → Calls Tryz.prog 35 #[cfgV 1 2 20 1, .int .i64 1, .agg #[.int .i64 1, .slice (some ⟨W.heap.size + 1, 0, none⟩) 4 4], .slice none 0 0] u fun r w' => ∃ bx, r = .returned (.pointer (some ⟨bx, 0, none⟩)) ∧ Made u w' bx (lvS 0).1) := fun u hb => new_yes (cs := lvC) (l := []) (by decide +kernel) rfl rfl (by omega) ((hT.on (lvN_below W)).on hb) (lvN_code hb).1 (fun j hj => by simp at hj) (by omega) (by omega) (by omega)
  have HB := Lib.hid (lvN_below W)
  have HC : Hid (∀ u, Below (lvN W).heap.size (lvN W) u → u.heap[W.heap.size]? = some (cfgO 1 2 20 1) ∧ u.heap[W.heap.size + 1 + 1]? = some (prgO 1 (some ⟨W.heap.size + 1, 0, none⟩) 4 4)) := fun u hb => (lvN_code hb).2
  have T0 : Hid (TabAt W []) := ⟨hT, by simp⟩
  have he1 := fun w => end_eq 1 0 0 w
  clear hT
  go_enter Tryz.func9, Tryz.ntmps9
  go_wp2_with (first
    | (go_at_call 35; refine (HN.out _ H1.out.2.1).mono ?_; rintro e u2 ⟨bx, rfl, q⟩; have H2 := Lib.hid q; clear q HN)
    | (go_at_call 22; refine (HM.out _).mono ?_; rintro e u1 ⟨rfl, q1, q2⟩; have H1 : Hid (MemAt 123 u1 ((lvN W).heap.size + 1) (lvN W).heap.size (lvP 0) false 0 ∧ Below (lvN W).heap.size (lvN W) u1 ∧ Below W.heap.size W u1) := ⟨q1, q2, HB.out.trans (q2.mono HB.out.size)⟩; obtain ⟨y0, y1⟩ := HC.out _ q2; obtain ⟨c0, c1, c2, c3, c4⟩ := cells4 y0; obtain ⟨d0, d1, d2⟩ := cells2 y1; clear q1 q2 y0 y1 HM HC))
  have HF0 : Hid (∃ z, Full W [] bx z (W.heap.size + 1 + 1 + 1 + 1) (W.heap.size + 1 + 1 + 1) u2 (lvS 0).1 (lvP 0) false 0) := by
    have e : (lvN W).heap.size = W.heap.size + 1 + 1 + 1 := by simp
    have h1 := H1.out
    rw [e] at h1
    exact full_new h1.2.2 h1.1 (by omega) (by omega) H2.out (by show (-1 : Int) < 0; omega)
  obtain ⟨z, hz⟩ := HF0.out
  have HF := Lib.hid hz
  clear hz HF0 H1 H2 c0 c1 c2 c3 c4 d0 d1 d2 HB
  obtain ⟨mb, hmb⟩ : ∃ mb, W.heap.size + 1 + 1 + 1 + 1 = mb := ⟨_, rfl⟩
  obtain ⟨mg, hmg⟩ : ∃ mg, W.heap.size + 1 + 1 + 1 = mg := ⟨_, rfl⟩
  rw [hmb, hmg] at HF
  rw [hmb]
  clear hmb hmg
  have HQ0 : Hid (Full W [] bx z mb mg (u2.alloc (.cells #[.int .u64 0, .int .u64 0, .int .u64 3, .int .u64 0, .int .u64 0, .int .u64 4, .int .u64 4619567317775286272, .int .u64 4618441417868443648] 53)) (lvS 0).1 (lvP 0) false 0 ∧ (u2.alloc (.cells #[.int .u64 0, .int .u64 0, .int .u64 3, .int .u64 0, .int .u64 0, .int .u64 4, .int .u64 4619567317775286272, .int .u64 4618441417868443648] 53)).heap[u2.heap.size]? = some (.cells (u64s lvW).toArray 53 (0, 0)) ∧ u2.heap.size ≠ mb ∧ u2.heap.size ≠ mg) := ⟨HF.out.on (below_alloc _ _), heap_alloc_new _ _, fun y => by have := HF.out.mem.ltB; omega, fun y => by have := HF.out.mem.ltG; omega⟩
  clear HF
  go_loopw [41] (fun vi wr => ∃ i : Nat, vi = .int .i64 i ∧ i ≤ 8 ∧ Hid (Full W [] bx z mb mg wr (lvS 0).1 (lvP i) false 0 ∧ wr.heap[u2.heap.size]? = some (.cells (u64s lvW).toArray 53 (0, 0)))) (fun vi _ => 8 - (intOf vi).toNat)
  case atStart => exact ⟨0, rfl, by omega, HQ0.out.1, HQ0.out.2.1⟩
  case round =>
    obtain ⟨i, rfl, hi, HR⟩ := hrel
    by_cases hlt : i < 8
    · have hlt' : (i : Int) < 8 := by omega
      have hx : wr.cell? ⟨u2.heap.size, i, none⟩ = some (.int .u64 (lvW.getD i 0)) := by
        rw [cell_of_row wr _ i _ _ _ HR.out.2]
        have : i < lvW.length := hlt
        simp [u64s, this]
      have hg := lt_of_block HR.out.2
      have HP := Lib.hid (Md.poke_any HR.out.1.mem (i : Int) (lvW.getD i 0))
      rw [lvP_poke hlt] at HP
      have HK : Hid (∀ u3, MemAt 123 u3 mb mg (lvP (i + 1)) false 0 → Chg mb mg wr u3 → Full W [] bx z mb mg u3 (lvS 0).1 (lvP (i + 1)) false 0 ∧ u3.heap[u2.heap.size]? = some (.cells (u64s lvW).toArray 53 (0, 0))) := fun u3 k1 k2 => ⟨HR.out.1.memb k2 k1, (k2.block _ hg HQ0.out.2.2.1 HQ0.out.2.2.2).trans HR.out.2⟩
      generalize lvW.getD i 0 = y at hx HP
      go_wp2_with (go_at_call 36; refine HP.out.mono ?_; rintro e u3 ⟨rfl, q1, q2⟩; have HQ := Lib.hid (HK.out _ q1 q2); clear q1 q2)
      exact ⟨⟨i + 1, by first | rfl | (congr 1), by omega, HQ.out⟩, by simp [intOf]; omega⟩
    · have hlt' : ¬ (i : Int) < 8 := by omega
      obtain rfl : i = 8 := by omega
      have HF8 := Lib.hid HR.out.1
      rw [lvP_end] at HF8
      clear HR HQ0
      go_wp2_with fail
      go_loopw [0, 4, 8, 9] (fun v0 v4 v8 v9 wr => ∃ i : Nat, v9 = .int .i64 i ∧ i ≤ 9 ∧ v8 = .bool (decide (i = 9)) ∧ v4 = .int .i64 0 ∧ v0 = .bool false ∧ Hid (Full W [] bx z mb mg wr (lvS i).1 (lvS i).2.1 (lvS i).2.2.1 (lvS i).2.2.2)) (fun v0 v4 v8 v9 _ => 9 - (intOf v9).toNat)
      case atStart => exact ⟨0, rfl, by omega, rfl, rfl, rfl, HF8.out⟩
      case round =>
        obtain ⟨i, rfl, hi, rfl, rfl, rfl, HR⟩ := hrel
        by_cases hlt : i < 9
        · have hlt' : (i : Int) < 9 := by omega
          have hd : decide (i = 9) = false := decide_eq_false (by omega)
          have HI := Lib.hid (lvS_in i (by omega))
          have HS : Hid (Calls Tryz.prog 14 #[.pointer (some ⟨bx, 0, none⟩), .pointer (some ⟨mb, 0, none⟩)] wr fun e w' => e = .returned (.tuple #[.bool (decide (i + 1 = 9)), .int .i64 0]) ∧ Full W [] bx z mb mg w' (lvS (i + 1)).1 (lvS (i + 1)).2.1 (lvS (i + 1)).2.2.1 (lvS (i + 1)).2.2.2) := by
            have := step_any HR.out T0.out HI.out.1 (lvS_part i hlt) HI.out.2.2 HI.out.2.1 (y := (lvS (i + 1)).1) (ws' := (lvS (i + 1)).2.1) (ac := (stepX (lvS i).1 (lvS i).2.1).2.2) rfl
            have e : decide (((lvS (i + 1)).1.part : Int) = 4) = decide (i + 1 = 9) := by
              rw [decide_eq_decide]
              by_cases q : i + 1 = 9
              · rw [q]; simp [lvS_end.1]
              · have := lvS_part (i + 1) (by omega)
                omega
            rw [e] at this
            exact this
          clear HI
          generalize hod : decide (i + 1 = 9) = od at HS
          rw [hd]
          by_cases h3 : i = 3
          · have h3' : ((i : Int) == 3) = true := by simp; omega
            have HPK : Hid (∀ u, Full W [] bx z mb mg u (lvS (i + 1)).1 (lvS (i + 1)).2.1 (lvS (i + 1)).2.2.1 (lvS (i + 1)).2.2.2 → Calls Tryz.prog 25 #[.pointer (some ⟨mb, 0, none⟩), .int .i64 4] u fun e w' => e = .returned (.tuple #[.int .u64 4, .int .i64 (errP (lvS (i + 1)).2.1 4)]) ∧ w' = u) := fun u k => by
              have := Md.peek_any k.mem 4
              subst h3
              rw [if_pos lvS_peek.2, lvS_peek.1] at this
              exact this
            generalize errP (lvS (i + 1)).2.1 4 = ep at HPK
            clear hd h3
            go_wp2_with (first
              | (go_at_call 25; refine (HPK.out _ HQ.out).mono ?_; rintro e u4 ⟨rfl, hw⟩; subst u4)
              | (go_at_call 14; refine HS.out.mono ?_; rintro e u3 ⟨rfl, q⟩; have HQ := Lib.hid q; clear q HS))
            subst hod
            exact ⟨⟨i + 1, by first | rfl | (congr 1), by omega, rfl, rfl, rfl, HQ.out⟩, by simp [intOf]; omega⟩
          · have h3' : ((i : Int) == 3) = false := by simp; omega
            clear hd h3
            go_wp2_with (go_at_call 14; refine HS.out.mono ?_; rintro e u3 ⟨rfl, q⟩; have HQ := Lib.hid q; clear q HS)
            subst hod
            exact ⟨⟨i + 1, by first | rfl | (congr 1), by omega, rfl, rfl, rfl, HQ.out⟩, by simp [intOf]; omega⟩
        · have hlt' : ¬ (i : Int) < 9 := by omega
          obtain rfl : i = 9 := by omega
          obtain ⟨e1, e2, e3, e4, e5, e6, e7, e8⟩ := lvS_end
          have HI := Lib.hid (lvS_in 9 (by omega)).1
          have HR9 := Lib.hid HR.out
          rw [e2] at HR9
          have HCT : Hid (∀ u, Below wr.heap.size wr u → Calls Tryz.prog 24 #[.pointer (some ⟨mb, 0, none⟩)] u fun e w' => e = .returned (.int .i64 6) ∧ w' = u) := fun u hu => Md.count_any (HR9.out.on hu).mem
          have HPH : Hid (∀ u, Below wr.heap.size wr u → Calls Tryz.prog 18 #[.pointer (some ⟨bx, 0, none⟩)] u fun e w' => e = .returned (.int .i64 4) ∧ w' = u) := fun u hu => by
            obtain ⟨q, F, r, h⟩ := (HR9.out.on hu).raw
            have := phase_raw h
            rw [e1] at this
            exact this
          have HDE : Hid (Calls Tryz.prog 20 #[.pointer (some ⟨bx, 0, none⟩)] wr fun e w' => ∃ D, e = .returned (.agg (dC (lvS 9).1.tag (lvS 9).1.args.length (lvS 9).1.m D 3 1 0 0 9)) ∧ DdAt w' wr.heap.size D (lvS 9).1.args (lvS 9).1.m ∧ Below wr.heap.size wr w') := by
            obtain ⟨q, F, r, h⟩ := HR9.out.raw
            have := Deed_any h HI.out.toIn0 rfl rfl e3 (show endI (lvS 9).1 (lvS 9).1.m.how = 1 by unfold endI; rw [if_pos e1]; exact e5) (show endI (lvS 9).1 (lvS 9).1.m.cod = 0 by unfold endI; rw [if_pos e1]; exact e6) (show endI (lvS 9).1 (lvS 9).1.m.err = 0 by unfold endI; rw [if_pos e1]; exact e7)
            rw [e4] at this
            exact this
          have HB9 : Hid (Below W.heap.size W wr) := HR9.out.below
          have HO8 : Hid ((lvS 9).1.m.out = [4618441417868443648]) := e8
          clear HR HI e1 e2 e3 e4 e5 e6 e7 e8 HR9
          go_wp2_with (first
            | (refine wpList_store_row rfl 61 _ _ rfl u4.heap.size (dC (lvS 9).1.tag (lvS 9).1.args.length (lvS 9).1.m D 3 1 0 0 9) rfl rfl _ _ (heap_alloc_new _ _) deedInfo rfl (deed_one _ _ _ _ _ _ _ _ _) ?_; rw [World.setRow_alloc_new])
            | (go_at_call 24; refine (HCT.out _ (H4.out.2.alloc H4.out.2.size _)).mono ?_; rintro e u5 ⟨rfl, hw⟩; subst u5)
            | (go_at_call 18; refine (HPH.out _ (H4.out.2.alloc H4.out.2.size _)).mono ?_; rintro e u5 ⟨rfl, hw⟩; subst u5)
            | (go_at_call 20; refine HDE.out.mono ?_; rintro e u4 ⟨D, rfl, q1, q2⟩; have H4 := Lib.hid (And.intro q1 q2); obtain ⟨g, _, hg, lg, cg⟩ := row_first (show RowAt 71 u4 D.po D.co (fls [4618441417868443648]) from by rw [← HO8.out]; exact q1.o); have ol : (lvS 9).1.m.out.length = 1 := (by rw [HO8.out]; rfl); clear q1 q2 HDE))
          rw [show (FloatKind.f64.format.order 4618441417868443648 4618441417868443648 == some Ordering.eq) = true by decide +kernel]
          go_ret
          have hb := HB9.out.trans (H4.out.2.mono HB9.out.size)
          exact ⟨rfl, hb.alloc hb.size _⟩
end Go.Proofs.YtninicfnhoediaaGreatDoor.Rr
namespace Go.Proofs.YtninicfnhoediaaGreatDoor.Rr
open Go.ChangeShapes Go.WideShapes Go.ChangeAt Go.RowKit Num
def Cpy (B : Nat) (w' : World) (e : TypeId) (sz : Nat) (p : Option Addr) (n c : Nat) : Prop := (p = none ∧ n = 0) ∨ ∃ g arr, p = some ⟨g, 0, none⟩ ∧ B ≤ g ∧ w'.heap[g]? = some (.cells arr e (0, 0)) ∧ arr.size = c * sz ∧ n ≤ c
theorem app_nil {t e ty : TypeId} {i : TypeInfo} {z : Value} (ht : Tryz.prog.underlying t = some (.slice e)) (hi : Tryz.prog.info? e = some i) (hz : i.zero = some z) (hzs : z.cells.size = i.size) {w : World} {news : List Value} {n : Nat} {x : Value} (hs : Src Tryz.prog i.size t x n news w) (hb : n * i.bytes ≤ 140737488355328) (h63 : n ≤ 9223372036854775807) :
    ∃ v w', (Builtin.append_ #[t, t] ty #[.slice none 0 0, x]).run Tryz.prog w = .ok v w' ∧ ∃ p c, v = .slice p n c ∧ Cpy w.heap.size w' e i.size p n c ∧ Ro w' p news ∧ Below w.heap.size w w' := by
  by_cases h0 : n = 0
  · subst h0
    have hn : news = [] := by have := hs.newsLen; simpa using this
    refine ⟨.slice none 0 0, w, ?_, none, 0, rfl, .inl ⟨rfl, rfl⟩, by rw [hn]; exact Ro.nil w, Below.refl _ _⟩
    simp [Builtin.append_, run_underlying ht, sizeOf, typeInfo, hi, hs.len, hs.cells, hn]
  · have hold : (Builtin.firstCells i.size 0 (.slice none 0 0)).run Tryz.prog w.drew = .ok ([] : List Value).toArray w.drew := run_firstCells_none _ _ _ _ _
    refine ⟨_, _, run_append_grow_src w t t ty e i z ht hi hz none 0 0 [] hold x n news hs (by omega) (by omega) (growslice_fits (by omega) (by simpa using hb)), some ⟨w.heap.size, 0, none⟩, grownCap w (0 + n) 0 e, by rw [Nat.zero_add], .inr ⟨w.heap.size, _, rfl, Nat.le_refl _, heap_new (w := w.drew) (g := w.heap.size) rfl, ?_, by have := grownCap_ge w (0 + n) 0 e; omega⟩, .inr ⟨_, _, rfl, fun j v hv => ?_⟩, ((Same.drew w).below _).trans (below_alloc w.drew _)⟩
    · have hg := grownCap_ge w (0 + n) 0 e
      have hl := hs.newsLen
      rw [Array.size_append, size_zeroCells, hzs, List.size_toArray, List.nil_append, hl, ← Nat.add_mul, show n + (grownCap w (0 + n) 0 e - (0 + n)) = grownCap w (0 + n) 0 e by omega]
    · have hj := (List.getElem?_eq_some_iff.1 hv).1
      refine (cell_of_row _ w.heap.size (0 + j) _ _ _ (heap_new (w := w.drew) (g := w.heap.size) rfl)).trans ?_
      rw [Nat.zero_add, Array.getElem?_append_left (by simpa using hj)]
      simpa using hv
theorem Cpy.on {B : Nat} {w u : World} {e : TypeId} {sz n c : Nat} {p : Option Addr} (h : Cpy B w e sz p n c) (k : Below w.heap.size w u) : Cpy B u e sz p n c := by
  rcases h with h | ⟨g, arr, h1, h0, h2, h3⟩
  · exact .inl h
  · exact .inr ⟨g, arr, h1, h0, (k.block _ (lt_of_block h2)).trans h2, h3⟩
theorem Cpy.mono {B B' : Nat} {w : World} {e : TypeId} {sz n c : Nat} {p : Option Addr} (h : Cpy B w e sz p n c) (k : B' ≤ B) : Cpy B' w e sz p n c := by
  rcases h with h | ⟨g, arr, h1, h0, h2⟩
  · exact .inl h
  · exact .inr ⟨g, arr, h1, Nat.le_trans k h0, h2⟩
theorem Cpy.at_ {B : Nat} {w : World} {e : TypeId} {sz n c : Nat} {p : Option Addr} (h : Cpy B w e sz p n c) {i : Nat} (hi : i < n) : ∃ g, p = some ⟨g, 0, none⟩ ∧ B ≤ g ∧ g < w.heap.size ∧ ∀ j, j < sz → (∃ v, w.cell? ⟨g, i * sz + j, none⟩ = some v) ∧ w.frozen? ⟨g, i * sz + j, none⟩ = false := by
  rcases h with ⟨_, h⟩ | ⟨g, arr, h1, h0, h2, h3, h4⟩
  · omega
  · refine ⟨g, h1, h0, lt_of_block h2, fun j hj => ⟨?_, frozen_of_row w g _ _ _ h2⟩⟩
    rw [cell_of_row w g _ _ _ _ h2]
    have : i * sz + j < arr.size := by
      rw [h3]
      have := Nat.mul_le_mul_right sz (show i + 1 ≤ c by omega)
      rw [Nat.succ_mul] at this
      omega
    exact ⟨_, Array.getElem?_eq_getElem this⟩
theorem Cpy.put {B : Nat} {w : World} {e : TypeId} {sz n c : Nat} {p : Option Addr} (h : Cpy B w e sz p n c) (g j : Nat) (v : Value) : Cpy B (w.setCell ⟨g, j, none⟩ v) e sz p n c := by
  rcases h with h | ⟨g', arr, h1, h0, h2, h3, h4⟩
  · exact .inl h
  · by_cases q : g' = g
    · subst q
      exact .inr ⟨g', _, h1, h0, heap_setCell_same w g' j _ _ v h2, by simpa using h3, h4⟩
    · exact .inr ⟨g', arr, h1, h0, (heap_setCell_other _ _ _ _ q).trans h2, h3, h4⟩
theorem ro_code {w : World} {p : Option Addr} {cs : List Ins} (h : Ro w p (cs.flatMap insC)) : CodeAt w p cs := by
  rcases h with ⟨rfl, h⟩ | ⟨g, o, rfl, h⟩
  · have : cs = [] := by
      have := congrArg List.length h
      rw [insC_len] at this
      exact List.eq_nil_of_length_eq_zero (by simp only [List.length_nil] at this; omega)
    subst this
    intro i hi
    simp at hi
  · cases cs with
    | nil => intro i hi; simp at hi
    | cons i cs => exact codeAt_range (World.block_lt_of_cell? w _ (h 0 _ rfl)) h
abbrev rideV (a b c e th t : Int) (ao : Option Addr) (n cap : Nat) (po : Option Addr) (k co : Nat) (pw : Option Addr) (kw cw : Nat) (pp : Option Addr) (kp cp : Nat) : Array Value := #[.int .i64 a, .int .i64 b, .int .i64 c, .int .i64 e, .int .i64 th, .int .i64 t, .slice ao n cap, .slice po k co, .slice pw kw cw, .slice pp kp cp]
structure Bgn (w w' : World) (bx bd : Nat) (x : Rx) (ao : Option Addr) (cs : List Ins) : Prop where
  p : ∃ z F r zd qd, RawAt w' bx x z none F (comC x) r ∧ Abv w.heap.size (gX bx z none F) ∧ Abv w.heap.size z.KK ∧ zd.cs = cs ∧ DRaw w' bd x zd qd ∧ Abv w.heap.size (bd :: Fr zd.br qd) ∧ Abv w.heap.size (fpR zd.pa) ∧ zd.KR = krA ao cs ∧ Sep (gX bx z none F) (dAll bd zd qd) ∧ Sep z.KK (bd :: Fr zd.br qd)
  bl : Below w.heap.size w w'
theorem bgn_of {w u1 u2 u3 u4 : World} {bx bd : Nat} {x : Rx} {ao : Option Addr} {cs : List Ins} (hC : CodeAt w ao cs) (h1 : Below w.heap.size w u1) (hm : Made u1 u2 bx x) (t : ∀ k, u1.heap.size ≤ k → k < u2.heap.size → u3.heap[k]? = u2.heap[k]?) (hs : u2.heap.size ≤ u3.heap.size) (hb3 : Below w.heap.size w u3) (hd : DMade u3 u4 bd x ao cs) : Bgn w u4 bx bd x ao cs := by
  obtain ⟨z, F, r, m1, m2, m3⟩ := hm.at_
  obtain ⟨zd, qd, d0, d4, d1, d2, d3⟩ := hd.at_
  have s1 := h1.size
  have s3 := hb3.size
  have s2 := hm.bl.size
  have r3 : RawAt u3 bx x z none F (comC x) r := m1.keep ⟨hs, fun i hi => t i (m2 i hi) (m1.blw i hi)⟩ ⟨hs, fun i hi => t i (m3 i hi) (m1.blwK i hi)⟩
  have kr : Blw w zd.KR := by rw [d4]; exact krA_blw hC
  refine ⟨⟨z, F, r, zd, qd, r3.on hd.bl, m2.mono s1, m3.mono s1, d0, d1, d2.mono s3, d3.mono s3, d4, fun i hi y => ?_, fun i hi y => ?_⟩, hb3.trans (hd.bl.mono s3)⟩
  · have l1 := m1.blw i hi
    have l2 := m2 i hi
    have D2 : i ∈ bd :: Fr zd.br qd → u3.heap.size ≤ i := d2 i
    have D3 : i ∈ fpR zd.pa → u3.heap.size ≤ i := d3 i
    have D4 : i ∈ zd.KR → i < w.heap.size := kr i
    simp only [dAll, List.mem_cons, List.mem_append] at y D2
    rcases y with y | y | y | y
    · have := D2 (.inl y); omega
    · have := D2 (.inr y); omega
    · have := D4 y; omega
    · have := D3 y; omega
  · have l1 := m1.blwK i hi
    have := d2 i y
    omega
structure RideAt (W : World) (cs : List Ins) (l : List Nat) (ao po : Option Addr) (n k : Nat) : Prop where
  sh : Shaped5 W
  hn : cs.length = n
  hk : l.length = k
  code : CodeAt W ao cs
  args : FlAt W po l
  cx : ∀ i ∈ cs, i.x < 18446744073709551616
  lx : ∀ x ∈ l, x < 18446744073709551616
  nb : n * 24 ≤ 140737488355328
  kb : k * 8 ≤ 140737488355328
theorem ride_cells {w : World} {x : Nat} {a b c e th t : Int} {ao : Option Addr} {n cap : Nat} {po : Option Addr} {k co : Nat} {pw : Option Addr} {kw cw : Nat} {pp : Option Addr} {kp cp : Nat} (h : w.heap[x]? = some (.cells (rideV a b c e th t ao n cap po k co pw kw cw pp kp cp) 31 (0, 0))) : w.cell? ⟨x, 0, none⟩ = some (.int .i64 a) ∧ w.cell? ⟨x, 1, none⟩ = some (.int .i64 b) ∧ w.cell? ⟨x, 2, none⟩ = some (.int .i64 c) ∧ w.cell? ⟨x, 3, none⟩ = some (.int .i64 e) ∧ w.cell? ⟨x, 4, none⟩ = some (.int .i64 th) ∧ w.cell? ⟨x, 5, none⟩ = some (.int .i64 t) ∧ w.cell? ⟨x, 6, none⟩ = some (.slice ao n cap) ∧ w.cell? ⟨x, 7, none⟩ = some (.slice po k co) ∧ w.cell? ⟨x, 8, none⟩ = some (.slice pw kw cw) ∧ w.cell? ⟨x, 9, none⟩ = some (.slice pp kp cp) ∧ x < w.heap.size :=
  (cells10 h).1
section
variable {W : World} {a b c e th t : Int} {ao : Option Addr} {cs : List Ins} {n cap : Nat} {po : Option Addr} {l : List Nat} {k co : Nat} {pw : Option Addr} {kw cw : Nat} {pp : Option Addr} {kp cp : Nat}
attribute [local go_sem] run_store_float
set_option maxRecDepth 100000 in
set_option maxHeartbeats 4000000 in
theorem begun_any (h : RideAt W cs l ao po n k) : Calls Tryz.prog 10 #[.agg (rideV a b c e th t ao n cap po k co pw kw cw pp kp cp)] W fun r w' => ∃ q1 q2, r = .returned (.tuple #[.pointer q1, .pointer q2]) ∧ Hid ((mayX a b c e k th = true ∧ ∃ bx bd, q1 = some ⟨bx, 0, none⟩ ∧ q2 = some ⟨bd, 0, none⟩ ∧ Bgn W w' bx bd (newX a b c e t cs l th) ao cs) ∨ (mayX a b c e k th = false ∧ q1 = none ∧ q2 = none ∧ Below W.heap.size W w')) := by
  obtain ⟨i1, hi1, hz1, hs1, hb1⟩ := info_parts fInfo
  obtain ⟨i2, hi2, hz2, hs2, hb2⟩ := info_parts insInfo
  have HA1 : Hid (∀ u, Below W.heap.size W u → ∃ v w', (Builtin.append_ #[27, 27] 27 #[.slice none 0 0, .slice po k co]).run Tryz.prog u = .ok v w' ∧ ∃ p c, v = .slice p k c ∧ Cpy u.heap.size w' 71 1 p k c ∧ Ro w' p (fls l) ∧ Below u.heap.size u w') := fun u hu => by
    have hsrc := src_fl co (h.args.on hu)
    rw [h.hk] at hsrc
    have := app_nil (ty := 27) (i := i1) (z := .float .f64 0) Tryz.underlying27 hi1 hz1 (by rw [hs1]; rfl) (by rw [hs1]; exact hsrc) (by rw [hb1]; exact h.kb) (by have := h.kb; omega)
    rw [hs1] at this
    exact this
  have HA2 : Hid (∀ u, Below W.heap.size W u → ∃ v w', (Builtin.append_ #[24, 24] 24 #[.slice none 0 0, .slice ao n cap]).run Tryz.prog u = .ok v w' ∧ ∃ p c, v = .slice p n c ∧ Cpy u.heap.size w' 91 3 p n c ∧ Ro w' p (cs.flatMap insC) ∧ Below u.heap.size u w') := fun u hu => by
    have hsrc := src_code cap (h.code.on hu)
    rw [h.hn] at hsrc
    have := app_nil (ty := 24) (i := i2) (z := .agg #[.int .i64 0, .int .i64 0, .float .f64 0]) Tryz.underlying24 hi2 hz2 (by rw [hs2]; rfl) (by rw [hs2]; exact hsrc) (by rw [hb2]; exact h.nb) (by have := h.nb; omega)
    rw [hs2] at this
    exact this
  have H0 : Hid (Below W.heap.size W (W.alloc (.cells (rideV a b c e th t ao n cap po k co pw kw cw pp kp cp) 31)) ∧ (W.alloc (.cells (rideV a b c e th t ao n cap po k co pw kw cw pp kp cp) 31)).heap[W.heap.size]? = some (.cells (rideV a b c e th t ao n cap po k co pw kw cw pp kp cp) 31 (0, 0))) := ⟨below_alloc _ _, heap_alloc_new _ _⟩
  clear hi1 hz1 hs1 hb1 hi2 hz2 hs2 hb2 i1 i2
  go_enter Tryz.func10, Tryz.ntmps10
  go_upto_region 2 with (at_builtin; refine wpList_append_ex rfl _ _ 27 27 rfl (.slice none 0 0) (.slice po k co) rfl rfl (HA1.out _ H0.out.1) ?_; rintro v u1 ⟨p1, c1, rfl, q1, q2, q3⟩; have H1 : Hid (Cpy (W.heap.size + 1) u1 71 1 p1 k c1 ∧ FlAt u1 p1 l ∧ Below W.heap.size W u1 ∧ u1.heap[W.heap.size]? = some (.cells (rideV a b c e th t ao n cap po k co pw kw cw pp kp cp) 31 (0, 0))) := ⟨q1.mono (by simp), q2.fl, H0.out.1.trans (q3.mono H0.out.1.size), (q3.block _ (lt_of_block H0.out.2)).trans H0.out.2⟩; clear q1 q2 q3)
  go_cut [5] (fun v5 wc => ∃ g5 p2 c2, v5 = .pointer (some ⟨g5, 0, none⟩) ∧ Hid (Cpy (W.heap.size + 1) wc 91 3 p2 n c2 ∧ CodeAt wc p2 cs ∧ wc.heap[g5]? = some (prgO t p2 n c2) ∧ u1.heap.size ≤ g5 ∧ Below u1.heap.size u1 wc))
  case first =>
    obtain ⟨e0, e1, e2, e3, e4, e5, e6, e7, e8, e9, lb⟩ := ride_cells H1.out.2.2.2
    refine wp_region_two (fun u => u.cell? ⟨W.heap.size, 5, none⟩ = some (.int .i64 t) ∧ u.cell? ⟨W.heap.size, 6, none⟩ = some (.slice ao n cap)) [0, 1, 2, 3, 4, 5] 6 [(7, true), (8, false), (9, false)] 8 [(6, false), (7, true), (9, false)] Md.Cv.follows13 (by kernel_rfl) (fun _ _ _ _ _ h => h) ⟨e5, e6⟩ ?_
    repeat (refine wpTwo_take (v := ?_) rfl (by rfl) (fun wq hSq => ?_) ?_; rotate_left; (focus ((try dsimp only at hSq); go_simp; try with_reducible rfl)); simp only [Act.put, List.setIfInBounds_toArray, List.set_cons_zero, List.set_cons_succ])
    refine wpTwo_nil ?_ ?_
    · refine wpSeq_do rfl (by rfl) (fun KK hK => ?_)
      refine wp_append_ex _ _ 24 24 rfl (.slice none 0 0) (.slice ao n cap) rfl rfl (HA2.out _ (H1.out.2.2.1.trans ((Same.drew u1).below _))) ?_
      rintro v u2 ⟨p2, c2, rfl, q1, q2, q3⟩
      have q4 : Below u1.heap.size u1 u2 := ((Same.drew u1).below _).trans q3
      have ck : ∀ j v, u1.cell? ⟨W.heap.size, j, none⟩ = some v → u2.cell? ⟨W.heap.size, j, none⟩ = some v := fun j v hv => (q4.cell (p := ⟨W.heap.size, j, none⟩) lb).trans hv
      refine hK.out _ _ ⟨ck 5 _ e5, ck 6 _ e6⟩ ?_
      (clear hK KK; try simp only [Act.put, List.setIfInBounds_toArray, List.set_cons_zero, List.set_cons_succ])
      (repeat ((first | (refine wpSeq_take (v := ?_) rfl (by rfl) (fun wq hSq => ?_) ?_; rotate_left; (focus ((try dsimp only at hSq); go_simp; try with_reducible rfl))) | refine wpSeq_skip rfl (by rfl) ?_); simp only [Act.put, List.setIfInBounds_toArray, List.set_cons_zero, List.set_cons_succ]))
      (refine wpSeq_do rfl (by rfl) (fun KK hK => ?_); go_simp)
      have l2 : W.heap.size < u2.heap.size := Nat.lt_of_lt_of_le lb q4.size
      refine hK.out _ _ ⟨(World.cell?_alloc_old _ _ _ (Nat.ne_of_lt l2)).trans (ck 5 _ e5), (World.cell?_alloc_old _ _ _ (Nat.ne_of_lt l2)).trans (ck 6 _ e6)⟩ ?_
      (clear hK KK; try simp only [Act.put, List.setIfInBounds_toArray, List.set_cons_zero, List.set_cons_succ])
      (refine wpSeq_do rfl (by rfl) (fun KK hK => ?_); go_simp)
      refine hK.out _ _ ⟨(World.cell?_alloc_old _ _ _ (Nat.ne_of_lt l2)).trans (ck 5 _ e5), (World.cell?_alloc_old _ _ _ (Nat.ne_of_lt l2)).trans (ck 6 _ e6)⟩ ?_
      (clear hK KK; try simp only [Act.put])
      refine wpSeq_nil ?_
      have hs := H1.out.2.2.1.size
      have hl2 := lt_of_block H1.out.2.2.2
      have R : Hid (Cpy (W.heap.size + 1) (u2.alloc (prgO t p2 n c2)) 91 3 p2 n c2 ∧ CodeAt (u2.alloc (prgO t p2 n c2)) p2 cs ∧ (u2.alloc (prgO t p2 n c2)).heap[u2.heap.size]? = some (prgO t p2 n c2) ∧ u1.heap.size ≤ u2.heap.size ∧ Below u1.heap.size u1 (u2.alloc (prgO t p2 n c2))) := ⟨(q1.mono (show W.heap.size + 1 ≤ u1.drew.heap.size from hl2)).on (below_alloc _ _), (ro_code q2).on (below_alloc _ _), heap_alloc_new _ _, q4.size, q4.alloc q4.size _⟩
      go_wp2_with fail
      go_meet
      exact ⟨_, p2, c2, rfl, R.out⟩
    · (refine wpSeq_do rfl (by rfl) (fun KK hK => ?_); go_simp)
      obtain ⟨v1, hv1⟩ : ∃ v1, v1 = (u1.alloc (.cells #[.int .i64 0, .slice none 0 0] 26)).drew := ⟨_, rfl⟩
      have b1 : Below u1.heap.size u1 v1 := by rw [hv1]; exact (below_alloc _ _).trans ((Same.drew _).below _)
      have x1 : v1.heap[u1.heap.size]? = some (.cells #[.int .i64 0, .slice none 0 0] 26 (0, 0)) := by rw [hv1]; exact heap_alloc_new _ _
      rw [← hv1]
      clear hv1
      have ck : ∀ j v, u1.cell? ⟨W.heap.size, j, none⟩ = some v → v1.cell? ⟨W.heap.size, j, none⟩ = some v := fun j v hv => (b1.cell (p := ⟨W.heap.size, j, none⟩) lb).trans hv
      refine hK.out _ _ ⟨ck 5 _ e5, ck 6 _ e6⟩ ?_
      (clear hK KK; try simp only [Act.put, List.setIfInBounds_toArray, List.set_cons_zero, List.set_cons_succ])
      refine wpSeq_do rfl (by rfl) (fun KK hK => ?_)
      refine wp_append_ex _ _ 24 24 rfl (.slice none 0 0) (.slice ao n cap) rfl rfl (HA2.out _ (H1.out.2.2.1.trans (b1.mono H1.out.2.2.1.size))) ?_
      rintro v u2 ⟨p2, c2, rfl, q1, q2, q3⟩
      have q4 : Below u1.heap.size u1 u2 := b1.trans (q3.mono b1.size)
      have ck2 : ∀ j v, u1.cell? ⟨W.heap.size, j, none⟩ = some v → u2.cell? ⟨W.heap.size, j, none⟩ = some v := fun j v hv => (q4.cell (p := ⟨W.heap.size, j, none⟩) lb).trans hv
      have x2 : u2.heap[u1.heap.size]? = some (.cells #[.int .i64 0, .slice none 0 0] 26 (0, 0)) := (q3.block _ (lt_of_block x1)).trans x1
      obtain ⟨s0, s1, s2⟩ := cells2 x2
      have f0 := frozen_of_row u2 u1.heap.size 0 _ _ x2
      have f1 := frozen_of_row u2 u1.heap.size 1 _ _ x2
      refine hK.out _ _ ⟨ck2 5 _ e5, ck2 6 _ e6⟩ ?_
      (clear hK KK; try simp only [Act.put, List.setIfInBounds_toArray, List.set_cons_zero, List.set_cons_succ])
      (repeat ((first | (refine wpSeq_take (v := ?_) rfl (by rfl) (fun wq hSq => ?_) ?_; rotate_left; (focus ((try dsimp only at hSq); go_simp; try with_reducible rfl))) | refine wpSeq_skip rfl (by rfl) ?_); simp only [Act.put, List.setIfInBounds_toArray, List.set_cons_zero, List.set_cons_succ]))
      (refine wpSeq_do rfl (by rfl) (fun KK hK => ?_); go_simp)
      have ne : W.heap.size ≠ u1.heap.size := Nat.ne_of_lt lb
      have x3 : ((u2.setCell ⟨u1.heap.size, 0, none⟩ (.int .i64 t)).setCell ⟨u1.heap.size, 1, none⟩ (.slice p2 n c2)).heap[u1.heap.size]? = some (prgO t p2 n c2) := by
        have a1 := (heap_setCell_same u2 u1.heap.size 0 _ _ (.int .i64 t) x2).trans (show _ = some (Obj.cells #[.int .i64 t, .slice none 0 0] 26) from rfl)
        exact (heap_setCell_same _ u1.heap.size 1 _ _ (.slice p2 n c2) a1).trans rfl
      have oth : ∀ y, y ≠ u1.heap.size → ((u2.setCell ⟨u1.heap.size, 0, none⟩ (.int .i64 t)).setCell ⟨u1.heap.size, 1, none⟩ (.slice p2 n c2)).heap[y]? = u2.heap[y]? := fun y hy => (heap_setCell_other _ _ _ _ hy).trans (heap_setCell_other _ _ _ _ hy)
      refine hK.out _ _ ⟨(Md.Cv.cell_kept (oth _ ne) 5).trans (ck2 5 _ e5), (Md.Cv.cell_kept (oth _ ne) 6).trans (ck2 6 _ e6)⟩ ?_
      (clear hK KK; try simp only [Act.put])
      refine wpSeq_nil ?_
      have hl1 := lt_of_block x1
      have hc2 : CodeAt ((u2.setCell ⟨u1.heap.size, 0, none⟩ (.int .i64 t)).setCell ⟨u1.heap.size, 1, none⟩ (.slice p2 n c2)) p2 cs := by
        rcases q1 with ⟨r1, r2⟩ | ⟨g, arr, r1, r0, _⟩
        · have := h.hn
          intro i hi
          omega
        · refine (ro_code q2).keep ⟨by simp, fun i hi => oth i ?_⟩
          rw [r1] at hi
          simp [fpR] at hi
          omega
      have R : Hid (Cpy (W.heap.size + 1) ((u2.setCell ⟨u1.heap.size, 0, none⟩ (.int .i64 t)).setCell ⟨u1.heap.size, 1, none⟩ (.slice p2 n c2)) 91 3 p2 n c2 ∧ CodeAt ((u2.setCell ⟨u1.heap.size, 0, none⟩ (.int .i64 t)).setCell ⟨u1.heap.size, 1, none⟩ (.slice p2 n c2)) p2 cs ∧ ((u2.setCell ⟨u1.heap.size, 0, none⟩ (.int .i64 t)).setCell ⟨u1.heap.size, 1, none⟩ (.slice p2 n c2)).heap[u1.heap.size]? = some (prgO t p2 n c2) ∧ u1.heap.size ≤ u1.heap.size ∧ Below u1.heap.size u1 ((u2.setCell ⟨u1.heap.size, 0, none⟩ (.int .i64 t)).setCell ⟨u1.heap.size, 1, none⟩ (.slice p2 n c2))) := ⟨((q1.mono (by omega)).put _ _ _).put _ _ _, hc2, x3, Nat.le_refl _, (q4.setCell (Nat.le_refl _) _).setCell (Nat.le_refl _) _⟩
      go_wp2_with fail
      go_meet
      exact ⟨_, p2, c2, rfl, R.out⟩
  case rest =>
    obtain ⟨g5, p2, c2, rfl, H2⟩ := hcut
    have B2 : Hid (Below W.heap.size W wc ∧ wc.heap[W.heap.size]? = some (.cells (rideV a b c e th t ao n cap po k co pw kw cw pp kp cp) 31 (0, 0)) ∧ Cpy (W.heap.size + 1) wc 71 1 p1 k c1 ∧ FlAt wc p1 l) := ⟨H1.out.2.2.1.trans (H2.out.2.2.2.2.mono H1.out.2.2.1.size), (H2.out.2.2.2.2.block _ (lt_of_block H1.out.2.2.2)).trans H1.out.2.2.2, H1.out.1.on H2.out.2.2.2.2, H1.out.2.1.on H2.out.2.2.2.2⟩
    have HN : Hid (Calls Tryz.prog 35 #[cfgV a b c e, .int .i64 th, .agg #[.int .i64 t, .slice p2 n c2], .slice p1 k c1] wc fun r w' => ∃ q, r = .returned (.pointer q) ∧ Hid ((mayX a b c e k th = true ∧ ∃ bx, q = some ⟨bx, 0, none⟩ ∧ Made wc w' bx (newX a b c e t cs l th)) ∨ (mayX a b c e k th = false ∧ q = none ∧ Below wc.heap.size wc w'))) := by
      have nl : n ≤ 9223372036854775807 := by have := h.nb; omega
      unfold mayX
      cases hm : (Md.cfgB a b c e && decide (k ≤ 8))
      · exact (new_nil hm).mono fun r w' q => ⟨none, q.1, .inr ⟨by simp, rfl, q.2⟩⟩
      · have hm' : Md.cfgB a b c e = true ∧ k ≤ 8 := by simpa using hm
        by_cases ht : 0 ≤ th ∧ th < b
        · exact (new_yes hm'.1 h.hn h.hk hm'.2 (h.sh.on B2.out.1) H2.out.2.1 B2.out.2.2.2 nl ht.1 ht.2).mono fun r w' q => by obtain ⟨bx, q1, q2⟩ := q; exact ⟨_, q1, .inl ⟨by simp [ht], bx, rfl, q2⟩⟩
        · exact (new_out hm'.1 h.hn h.hk hm'.2 (h.sh.on B2.out.1) H2.out.2.1 B2.out.2.2.2 nl ht).mono fun r w' q => ⟨none, q.1, .inr ⟨by simp [ht], rfl, q.2⟩⟩
    have HD : Hid (∀ u, Below W.heap.size W u → Calls Tryz.prog 37 #[cfgV a b c e, .int .i64 th, .agg #[.int .i64 t, .slice ao n cap], .slice po k co] u fun r w' => ∃ q, r = .returned (.pointer q) ∧ Hid ((mayX a b c e k th = true ∧ ∃ bd, q = some ⟨bd, 0, none⟩ ∧ DMade u w' bd (newX a b c e t cs l th) ao cs) ∨ (mayX a b c e k th = false ∧ q = none ∧ Below u.heap.size u w'))) := fun u hu => by
      have nl : n ≤ 9223372036854775807 := by have := h.nb; omega
      unfold mayX
      cases hm : (Md.cfgB a b c e && decide (k ≤ 8))
      · exact (dnew_nil hm).mono fun r w' q => ⟨none, q.1, .inr ⟨by simp, rfl, q.2⟩⟩
      · have hm' : Md.cfgB a b c e = true ∧ k ≤ 8 := by simpa using hm
        by_cases ht : 0 ≤ th ∧ th < b
        · exact (dnew_yes hm'.1 h.hn h.hk hm'.2 (h.code.on hu) (h.args.on hu) nl ht.1 ht.2).mono fun r w' q => by obtain ⟨bx, q1, q2⟩ := q; exact ⟨_, q1, .inl ⟨by simp [ht], bx, rfl, q2⟩⟩
        · exact (dnew_out hm'.1 h.hn h.hk hm'.2 (h.code.on hu) (h.args.on hu) nl ht).mono fun r w' q => ⟨none, q.1, .inr ⟨by simp [ht], rfl, q.2⟩⟩
    have HCO : Hid (CodeAt W ao cs) := h.code
    have hkl : k ≤ 140737488355328 := by have := h.kb; omega
    have hnl : n ≤ 140737488355328 := by have := h.nb; omega
    obtain ⟨e0, e1, e2, e3, e4, e5, e6, e7, e8, e9, lb⟩ := ride_cells B2.out.2.1
    obtain ⟨s0, s1, s2⟩ := cells2 H2.out.2.2.1
    clear HA1 HA2 H0 h
    go_wp2_with (go_at_call 35; refine HN.out.mono ?_; rintro r u2 ⟨qx, rfl, HX⟩; clear HN)
    have HSZ : Hid (wc.heap.size ≤ u2.heap.size ∧ Below wc.heap.size wc u2) := by
      rcases HX.out with ⟨_, bx, _, hm⟩ | ⟨_, _, hb⟩
      · exact ⟨hm.bl.size, hm.bl⟩
      · exact ⟨hb.size, hb⟩
    have HC1 : Hid (Cpy (W.heap.size + 1) u2 71 1 p1 k c1) := B2.out.2.2.1.on HSZ.out.2
    go_loopw [29] (fun vi wr => ∃ i : Nat, vi = .int .i64 i ∧ i ≤ k ∧ Hid (Cpy (W.heap.size + 1) wr 71 1 p1 k c1 ∧ Turn (fpR p1) (fpR p1) u2 wr)) (fun vi _ => k - (intOf vi).toNat)
    case atStart => exact ⟨0, rfl, Nat.zero_le _, HC1.out, Turn.refl _ _⟩
    case round =>
      obtain ⟨i, rfl, hi, HR⟩ := hrel
      by_cases hlt : i < k
      · have hlt' : (i : Int) < (k : Int) := by omega
        obtain ⟨g, hp, hB, hg, hc⟩ := HR.out.1.at_ hlt
        obtain ⟨⟨v0, c0⟩, f0⟩ := hc 0 (by omega)
        rw [Nat.mul_one, Nat.add_zero] at c0 f0
        have HZ : Hid (Cpy (W.heap.size + 1) (wr.setCell ⟨g, i, none⟩ (.float .f64 13858561215837503488)) 71 1 p1 k c1 ∧ Turn (fpR p1) (fpR p1) u2 (wr.setCell ⟨g, i, none⟩ (.float .f64 13858561215837503488))) := ⟨HR.out.1.put _ _ _, HR.out.2.trans (by rw [hp]; exact turn_set wr g i _)⟩
        subst hp
        go_wp2_with fail
        exact ⟨⟨i + 1, by first | rfl | (congr 1), by omega, HZ.out⟩, by simp [intOf]; omega⟩
      · have hlt' : ¬ (i : Int) < (k : Int) := by omega
        obtain ⟨wo, rfl⟩ : ∃ wo : World, wo = wr := ⟨_, rfl⟩
        have HW1 : Hid (Turn (fpR p1) (fpR p1) u2 wo) := HR.out.2
        have HL1 : Hid (∀ j ∈ fpR p1, W.heap.size + 1 ≤ j ∧ j < wc.heap.size ∧ j ≠ g5) := fun j hj => by
          rcases B2.out.2.2.1 with ⟨r1, _⟩ | ⟨g, arr, r1, r0, r2, _⟩
          · rw [r1] at hj; simp [fpR] at hj
          · rw [r1] at hj
            simp [fpR] at hj
            subst hj
            exact ⟨r0, lt_of_block r2, Md.Cv.ne_ty r2 H2.out.2.2.1 (by decide)⟩
        have HL2 : Hid (∀ j ∈ fpR p2, W.heap.size + 1 ≤ j ∧ j < wc.heap.size ∧ j ≠ g5 ∧ j ∉ fpR p1) := fun j hj => by
          rcases H2.out.1 with ⟨r1, _⟩ | ⟨g, arr, r1, r0, r2, _⟩
          · rw [r1] at hj; simp [fpR] at hj
          · rw [r1] at hj
            simp [fpR] at hj
            subst hj
            refine ⟨r0, lt_of_block r2, Md.Cv.ne_ty r2 H2.out.2.2.1 (by decide), fun y => ?_⟩
            rcases B2.out.2.2.1 with ⟨q1, _⟩ | ⟨g', arr', q1, q0, q2, _⟩
            · rw [q1] at y; simp [fpR] at y
            · rw [q1] at y
              simp [fpR] at y
              subst y
              exact Md.Cv.ne_ty r2 q2 (by decide) rfl
        have HG5 : Hid (g5 < wc.heap.size) := s2
        have HBX : Hid (wo.heap[g5]? = some (prgO t p2 n c2)) := (HW1.out.block g5 (Nat.lt_of_lt_of_le HG5.out HSZ.out.1) (fun y => (HL1.out g5 y).2.2 rfl)).trans ((HSZ.out.2.block g5 HG5.out).trans H2.out.2.2.1)
        have HC2 : Hid (Cpy (W.heap.size + 1) wo 91 3 p2 n c2) := by
          have c2' := H2.out.1.on HSZ.out.2
          rcases c2' with r | ⟨g, arr, r1, r0, r2, r3⟩
          · exact .inl r
          · refine .inr ⟨g, arr, r1, r0, (HW1.out.block g (lt_of_block r2) (fun y => ?_)).trans r2, r3⟩
            exact (HL2.out g (by rw [r1]; simp [fpR])).2.2.2 y
        obtain ⟨z0, z1, z2⟩ := cells2 HBX.out
        clear HR
        go_wp2_with fail
        go_loopw [39] (fun vi wr => ∃ i : Nat, vi = .int .i64 i ∧ i ≤ n ∧ Hid (Cpy (W.heap.size + 1) wr 91 3 p2 n c2 ∧ Turn (fpR p2) (fpR p2) wo wr)) (fun vi _ => n - (intOf vi).toNat)
        case atStart => exact ⟨0, rfl, Nat.zero_le _, HC2.out, Turn.refl _ _⟩
        case round =>
          obtain ⟨i2, rfl, hi2, HR2⟩ := hrel
          have HB5 : Hid (wr.heap[g5]? = some (prgO t p2 n c2)) := (HR2.out.2.block g5 (lt_of_block HBX.out) (fun y => (HL2.out g5 y).2.2.1 rfl)).trans HBX.out
          obtain ⟨y0, y1, y2⟩ := cells2 HB5.out
          by_cases hlt2 : i2 < n
          · have hlt2' : (i2 : Int) < (n : Int) := by omega
            obtain ⟨g, hp, hB, hg, hc⟩ := HR2.out.1.at_ hlt2
            obtain ⟨⟨v0, k0⟩, f0⟩ := hc 0 (by omega)
            obtain ⟨⟨v1, k1⟩, f1⟩ := hc 1 (by omega)
            obtain ⟨⟨v2, k2⟩, f2⟩ := hc 2 (by omega)
            rw [Nat.add_zero] at k0 f0
            have HZ : Hid (Cpy (W.heap.size + 1) (((wr.setCell ⟨g, i2 * 3, none⟩ (.int .i64 19)).setCell ⟨g, i2 * 3 + 1, none⟩ (.int .i64 50)).setCell ⟨g, i2 * 3 + 2, none⟩ (.float .f64 0)) 91 3 p2 n c2 ∧ Turn (fpR p2) (fpR p2) wo (((wr.setCell ⟨g, i2 * 3, none⟩ (.int .i64 19)).setCell ⟨g, i2 * 3 + 1, none⟩ (.int .i64 50)).setCell ⟨g, i2 * 3 + 2, none⟩ (.float .f64 0))) := ⟨((HR2.out.1.put _ _ _).put _ _ _).put _ _ _, HR2.out.2.trans (by rw [hp]; exact ((turn_set wr g _ _).trans (turn_set _ g _ _)).trans (turn_set _ g _ _))⟩
            subst hp
            clear hc HR2 HB5
            go_wp2_with fail
            exact ⟨⟨i2 + 1, by first | rfl | (congr 1), by omega, HZ.out⟩, by simp [intOf]; omega⟩
          · have hlt2' : ¬ (i2 : Int) < (n : Int) := by omega
            have T2 : Hid (Turn (fpR p1 ++ fpR p2) (fpR p1 ++ fpR p2) u2 wr) := turn_of (L := fpR p1 ++ fpR p2) (HR2.out.2.os.trans HW1.out.os) (HR2.out.2.tape.trans HW1.out.tape) (HR2.out.2.output.trans HW1.out.output) (Nat.le_trans HW1.out.size HR2.out.2.size) (fun _ y => y) fun j hj hn => (HR2.out.2.block j (Nat.lt_of_lt_of_le hj HW1.out.size) (fun y => hn (List.mem_append.2 (.inr y)))).trans (HW1.out.block j hj (fun y => hn (List.mem_append.2 (.inl y))))
            have LL : Hid (∀ j ∈ fpR p1 ++ fpR p2, W.heap.size + 1 ≤ j ∧ j < wc.heap.size) := fun j hj => by
              rcases List.mem_append.1 hj with y | y
              · exact ⟨(HL1.out j y).1, (HL1.out j y).2.1⟩
              · exact ⟨(HL2.out j y).1, (HL2.out j y).2.1⟩
            have BW : Hid (Below W.heap.size W u2) := B2.out.1.trans (HSZ.out.2.mono B2.out.1.size)
            have BE : Hid (Below W.heap.size W wr) := ⟨T2.out.os.trans BW.out.os, T2.out.tape.trans BW.out.tape, T2.out.output.trans BW.out.output, Nat.le_trans BW.out.size T2.out.size, fun j hj => (T2.out.block j (Nat.lt_of_lt_of_le hj BW.out.size) (fun y => by have := (LL.out j y).1; omega)).trans (BW.out.block j hj)⟩
            have XR : Hid (wr.heap[W.heap.size]? = some (.cells (rideV a b c e th t ao n cap po k co pw kw cw pp kp cp) 31 (0, 0))) := (T2.out.block _ (Nat.lt_of_lt_of_le (lt_of_block B2.out.2.1) HSZ.out.1) (fun y => by have := (LL.out _ y).1; omega)).trans ((HSZ.out.2.block _ (lt_of_block B2.out.2.1)).trans B2.out.2.1)
            obtain ⟨x0, x1, x2, x3, x4, x5, x6, x7, x8, x9, xb⟩ := ride_cells XR.out
            clear HR2 HB5 HL1 HL2
            go_wp2_with (go_at_call 37; refine (HD.out _ BE.out).mono ?_; rintro r u4 ⟨qd, rfl, HY⟩; clear HD)
            go_ret2
            refine ⟨qx, qd, rfl, ?_⟩
            rcases HX.out with ⟨m1, bx, rfl, hm⟩ | ⟨m1, rfl, hb⟩
            · rcases HY.out with ⟨_, bd, rfl, hd⟩ | ⟨m2, _⟩
              · exact .inl ⟨m1, bx, bd, rfl, rfl, bgn_of HCO.out B2.out.1 hm (fun j hj hl => T2.out.block j hl (fun y => by have := (LL.out j y).2; omega)) T2.out.size BE.out hd⟩
              · rw [m1] at m2
                cases m2
            · rcases HY.out with ⟨m2, _⟩ | ⟨_, rfl, hd⟩
              · rw [m1] at m2
                cases m2
              · exact .inr ⟨m1, rfl, rfl, BE.out.trans (hd.mono BE.out.size)⟩
end
end Go.Proofs.YtninicfnhoediaaGreatDoor.Rr
namespace Go.Proofs.YtninicfnhoediaaGreatDoor.Rr
open Go.ChangeShapes Go.WideShapes Go.ChangeAt Go.RowKit Num
theorem RideAt.on {W w : World} {cs : List Ins} {l : List Nat} {ao po : Option Addr} {n k : Nat} (h : RideAt W cs l ao po n k) (q : Below W.heap.size W w) : RideAt w cs l ao po n k := ⟨h.sh.on q, h.hn, h.hk, h.code.on q, h.args.on q, h.cx, h.lx, h.nb, h.kb⟩
theorem RideAt.inX {W : World} {a b c e t th : Int} {cs : List Ins} {l : List Nat} {ao po : Option Addr} {n k : Nat} (h : RideAt W cs l ao po n k) (hm : mayX a b c e k th = true) : InX (newX a b c e t cs l th) := by
  simp only [mayX, Bool.and_eq_true, decide_eq_true_eq] at hm
  refine new_in hm.1.1 (fun j hj => ?_) h.lx (by rw [h.hk]; exact hm.1.2) hm.2
  refine h.cx _ ?_
  have : ci cs j = cs[j] := by simp [ci, hj]
  rw [this]
  exact List.getElem_mem hj
theorem full_of {W w u : World} {bx mb mg : Nat} {x : Rx} {z : Rz} {F : List Nat} {r : Md.Ce.Rd} {ws : List Int} {o : Bool} {n : Int} (h : RawAt w bx x z none F (comC x) r) (a1 : Abv W.heap.size (gX bx z none F)) (hW : Below W.heap.size W w) (hm : MemAt 123 u mb mg ws o n) (hb : Below w.heap.size w u) (ab : w.heap.size ≤ mb) (ag : w.heap.size ≤ mg) (hc : x.cell < 0) : Full u (mb :: mg :: gX bx z none F) bx z mb mg u x ws o n ∧ Turn [] (mb :: mg :: gX bx z none F) W u := by
  have hs := hW.size
  refine ⟨⟨none, r, ⟨F, h.on hb, hm, fun i hi y => ?_, fun i hi y => ?_, Turn.refl _ _⟩, .inl ⟨rfl, hc⟩⟩, ?_⟩
  · have := h.blw i y
    simp only [List.mem_cons, List.not_mem_nil, or_false] at hi
    omega
  · have := h.blwK i y
    simp only [List.mem_cons, List.not_mem_nil, or_false] at hi
    omega
  · refine (Below.turn (hW.trans (hb.mono hs)) []).mono fun i hi => .inr ?_
    simp only [List.mem_cons] at hi
    rcases hi with hi | hi | hi
    · omega
    · omega
    · have := a1 i hi; omega
theorem deed_steps (t : Int) (na : Nat) (m : Mac) (D : Dd) (mk e0 e1 e2 st : Int) (w : World) : (Instr.field 61 (.agg (dC t na m D mk e0 e1 e2 st)) 13).run Tryz.prog w = .ok (.int .i64 st) w := by kernel_rfl
end Go.Proofs.YtninicfnhoediaaGreatDoor.Rr
namespace Go.Proofs.YtninicfnhoediaaGreatDoor.Rr
open Go.ChangeShapes Go.WideShapes Go.ChangeAt Go.RowKit Go.Deep
theorem cellsW : Tryz.prog.cellsOf 53 = 1 := by kernel_rfl
theorem cellsI : Tryz.prog.cellsOf 3 = 1 := by kernel_rfl
theorem cellsIns : Tryz.prog.cellsOf 91 = 3 := by kernel_rfl
theorem cellsPk : Tryz.prog.cellsOf 98 = 2 := by kernel_rfl
theorem cellsCf : Tryz.prog.cellsOf 23 = 4 := by kernel_rfl
theorem cellsPg : Tryz.prog.cellsOf 26 = 2 := by kernel_rfl
theorem cellsLI : Tryz.prog.cellsOf 24 = 1 := by kernel_rfl
theorem cellsLF : Tryz.prog.cellsOf 27 = 1 := by kernel_rfl
theorem cellsLW : Tryz.prog.cellsOf 28 = 1 := by kernel_rfl
theorem cellsLP : Tryz.prog.cellsOf 29 = 1 := by kernel_rfl
theorem cellsRi : Tryz.prog.cellsOf 31 = 10 := by kernel_rfl
theorem bytesI : Tryz.prog.bytesOf 91 = 24 := by kernel_rfl
theorem u64_of {z : Int} (h : (Lit.int .u64 z).wf = true) : u64B z := by
  simp [Lit.wf, IntKind.min, IntKind.max, IntKind.signed, IntKind.bits] at h
  exact ⟨by omega, by omega⟩
theorem i64_of {z : Int} (h : (Lit.int .i64 z).wf = true) : -9223372036854775808 ≤ z ∧ z ≤ 9223372036854775807 := by
  simp [Lit.wf, IntKind.min, IntKind.max, IntKind.signed, IntKind.bits] at h
  exact ⟨by omega, by omega⟩
def UAt (w : World) (p : Option Addr) (l : List Int) : Prop :=
  ∀ i, i < l.length → ∃ g o, p = some ⟨g, o, none⟩ ∧ g < w.heap.size ∧ w.cell? ⟨g, o + i, none⟩ = some (.int .u64 (l.getD i 0))
theorem UAt.on {w w' : World} {p : Option Addr} {l : List Int} (h : UAt w p l) (k : Below w.heap.size w w') : UAt w' p l := fun i hi => by
  obtain ⟨g, o, h1, h2, h3⟩ := h i hi
  exact ⟨g, o, h1, Nat.lt_of_lt_of_le h2 k.size, (k.cell (p := ⟨g, o + i, none⟩) h2).trans h3⟩
def PkAt (w : World) (p : Option Addr) (l : List (Int × Int)) : Prop :=
  ∀ i, i < l.length → ∃ g o, p = some ⟨g, o, none⟩ ∧ g < w.heap.size ∧ w.cell? ⟨g, o + i * 2, none⟩ = some (.int .i64 (l.getD i (0, 0)).1) ∧ w.cell? ⟨g, o + i * 2 + 1, none⟩ = some (.int .u64 (l.getD i (0, 0)).2)
theorem PkAt.on {w w' : World} {p : Option Addr} {l : List (Int × Int)} (h : PkAt w p l) (k : Below w.heap.size w w') : PkAt w' p l := fun i hi => by
  obtain ⟨g, o, h1, h2, h3, h4⟩ := h i hi
  exact ⟨g, o, h1, Nat.lt_of_lt_of_le h2 k.size, (k.cell (p := ⟨g, o + i * 2, none⟩) h2).trans h3, (k.cell (p := ⟨g, o + i * 2 + 1, none⟩) h2).trans h4⟩
section
variable {H : Type} {enc : TypeId × Value → H}
set_option maxRecDepth 100000 in
theorem open_codeT {W : World} {fuel : Nat} {cs : List Value} {x : DataW H × List MemPlace} (hf : DataW.trod enc Tryz.prog W 0 (fun _ => true) true fuel 24 cs = some x) :
    ∃ (ao : Option Addr) (c : List Ins) (cap : Nat), cs = [.slice ao c.length cap] ∧ (∀ i ∈ c, i.x < 18446744073709551616) ∧ CodeAt W ao c ∧ ((∀ z ∈ x.1.weights Tryz.prog 24, z ≤ reachBytes) → c.length * 24 ≤ reachBytes) := by
  rcases open_slice Tryz.underlying24 hf with ⟨hcs, _⟩ | ⟨a, len, cap, m, n, D, Pl, hcs, _, hl, hm, hmm, hd, hx⟩
  · exact ⟨none, [], 0, hcs, fun i hi => (by cases hi), fun i hi => absurd hi (Nat.not_lt_zero i), fun _ => by simp⟩
  · simp only [if_true] at hmm
    have hd1 : x.1 = .slice ((List.range len).map D) ((List.range (m - len)).map fun j => D (len + j)) := congrArg Prod.fst hd
    obtain ⟨b, off, spot⟩ := a
    have hs : 0 < len → spot = none := by
      intro h0
      obtain ⟨cs', h1, _⟩ := hx 0 (by omega)
      rw [cellsIns] at h1
      obtain ⟨_, hlen, hcell⟩ := World.cells?_some h1
      match cs', hlen with
      | [c0, c1, c2], _ =>
        have f0 := hcell 0 (by omega)
        simpa [Addr.add] using World.cell?_spot f0
    have each : ∀ i, i < len → ∃ q : Ins, spot = none ∧ b < W.heap.size ∧ q.x < 18446744073709551616 ∧ W.cell? ⟨b, off + i * 3, none⟩ = some (.int .i64 q.op) ∧ W.cell? ⟨b, off + i * 3 + 1, none⟩ = some (.int .i64 q.n) ∧ W.cell? ⟨b, off + i * 3 + 2, none⟩ = some (.float .f64 q.x) := by
      intro i hi
      obtain ⟨cs', h1, h2⟩ := hx i (by omega)
      rw [cellsIns] at h1
      obtain ⟨_, hlen, hcell⟩ := World.cells?_some h1
      obtain ⟨xs, k, _, _, _, hxl, hg⟩ := DataW.trod_struct Tryz.underlying91 h2
      match xs, hxl, cs', hlen with
      | [y0, y1, y2], _, [c0, c1, c2], _ =>
        have g0 := hg 0 _ rfl
        have g1 := hg 1 _ rfl
        have g2 := hg 2 _ rfl
        simp [cellsI, cellsF] at g0 g1 g2
        obtain ⟨x0, e0, _, _⟩ := DataW.trod_int Tryz.underlying3 g0
        obtain ⟨x1, e1, _, _⟩ := DataW.trod_int Tryz.underlying3 g1
        obtain ⟨x2, e2, hx2⟩ := trod_f64 g2
        simp at e0 e1 e2
        subst e0 e1 e2
        have f0 := hcell 0 (by omega)
        have f1 := hcell 1 (by omega)
        have f2 := hcell 2 (by omega)
        rw [add_add] at f0 f1 f2
        have hspot := hs (by omega)
        subst hspot
        rw [Go.WideShapes.add_plain] at f0 f1 f2
        exact ⟨⟨x0, x1, x2⟩, rfl, World.block_lt_of_cell? W _ f0, hx2, f0, f1, f2⟩
    have : Inhabited Ins := ⟨⟨0, 0, 0⟩⟩
    obtain ⟨q, hq⟩ := choose_lt each
    have hcl : ((List.range len).map q).length = len := by simp
    have hci : ∀ i, i < len → ci ((List.range len).map q) i = q i := fun i hi => by
      unfold ci
      simp [List.getD_eq_getElem?_getD, hi]
    refine ⟨some ⟨b, off, spot⟩, (List.range len).map q, cap, by rw [hcl]; exact hcs, fun i hi => ?_, fun i hi => ?_, fun hz => ?_⟩
    · obtain ⟨j, hj, rfl⟩ := List.mem_map.1 hi
      exact (hq j (List.mem_range.1 hj)).2.2.1
    · rw [hcl] at hi
      rw [hci i hi]
      obtain ⟨rfl, h2, _, r⟩ := hq i hi
      exact ⟨b, off, rfl, h2, r⟩
    · have := hz ((len + (m - len)) * 24) (by
        rw [hd1]
        simp [DataW.weights, Tryz.underlying24, bytesI])
      rw [hcl]
      omega
set_option maxRecDepth 100000 in
theorem open_flsT {W : World} {fuel : Nat} {cs : List Value} {x : DataW H × List MemPlace} (hf : DataW.trod enc Tryz.prog W 0 (fun _ => true) true fuel 27 cs = some x) :
    ∃ (ao : Option Addr) (l : List Nat) (cap : Nat), cs = [.slice ao l.length cap] ∧ (∀ y ∈ l, y < 18446744073709551616) ∧ FlAt W ao l ∧ ((∀ z ∈ x.1.weights Tryz.prog 27, z ≤ reachBytes) → l.length * 8 ≤ reachBytes) := by
  rcases open_slice1 Tryz.underlying27 cellsF hf with ⟨hcs, _⟩ | ⟨a, len, cap, m, n, V, D, Pl, hcs, _, hl, hm, hmm, hd, hx⟩
  · exact ⟨none, [], 0, hcs, fun y hy => (by cases hy), fun i hi => absurd hi (Nat.not_lt_zero i), fun _ => by simp⟩
  · simp only [if_true] at hmm
    have hd1 : x.1 = .slice ((List.range len).map D) ((List.range (m - len)).map fun j => D (len + j)) := congrArg Prod.fst hd
    obtain ⟨b, off, spot⟩ := a
    have hs : 0 < len → spot = none := by
      intro h0
      obtain ⟨h1, _⟩ := hx 0 (by omega)
      simpa [Addr.add] using World.cell?_spot h1
    have each : ∀ i, i < len → ∃ q : Nat, spot = none ∧ b < W.heap.size ∧ q < 18446744073709551616 ∧ W.cell? ⟨b, off + i, none⟩ = some (.float .f64 q) := by
      intro i hi
      obtain ⟨h1, h2⟩ := hx i (by omega)
      obtain ⟨q, e, hq⟩ := trod_f64 h2
      simp at e
      rw [e] at h1
      have hs := hs (by omega)
      subst hs
      rw [Go.WideShapes.add_plain] at h1
      exact ⟨q, rfl, World.block_lt_of_cell? W _ h1, hq, h1⟩
    obtain ⟨q, hq⟩ := choose_lt each
    have hlen : ((List.range len).map q).length = len := by simp
    have hget : ∀ i, i < len → ((List.range len).map q).getD i 0 = q i := fun i hi => by simp [hi]
    refine ⟨some ⟨b, off, spot⟩, (List.range len).map q, cap, by rw [hlen]; exact hcs, fun y hy => ?_, fun i hi => ?_, fun hz => ?_⟩
    · obtain ⟨j, hj, rfl⟩ := List.mem_map.1 hy
      exact (hq j (List.mem_range.1 hj)).2.2.1
    · rw [hlen] at hi
      obtain ⟨rfl, r1, _, r3⟩ := hq i hi
      exact ⟨b, off, rfl, r1, by rw [hget i hi]; exact r3⟩
    · have := hz ((len + (m - len)) * 8) (by
        rw [hd1]
        simp [DataW.weights, Tryz.underlying27, bytesF])
      rw [hlen]
      omega
set_option maxRecDepth 100000 in
theorem open_wordsT {W : World} {fuel : Nat} {cs : List Value} {x : DataW H × List MemPlace} (hf : DataW.trod enc Tryz.prog W 0 (fun _ => true) true fuel 28 cs = some x) :
    ∃ (ao : Option Addr) (l : List Int) (cap : Nat), cs = [.slice ao l.length cap] ∧ okW l ∧ UAt W ao l ∧ l.length ≤ 9223372036854775807 := by
  rcases open_slice1 Tryz.underlying28 cellsW hf with ⟨hcs, _⟩ | ⟨a, len, cap, m, n, V, D, Pl, hcs, _, hl, hm, hmm, hd, hx⟩
  · exact ⟨none, [], 0, hcs, fun y hy => (by cases hy), fun i hi => absurd hi (Nat.not_lt_zero i), Nat.zero_le _⟩
  · simp only [if_true] at hmm
    obtain ⟨b, off, spot⟩ := a
    have hs : 0 < len → spot = none := by
      intro h0
      obtain ⟨h1, _⟩ := hx 0 (by omega)
      simpa [Addr.add] using World.cell?_spot h1
    have each : ∀ i, i < len → ∃ q : Int, spot = none ∧ b < W.heap.size ∧ u64B q ∧ W.cell? ⟨b, off + i, none⟩ = some (.int .u64 q) := by
      intro i hi
      obtain ⟨h1, h2⟩ := hx i (by omega)
      obtain ⟨q, e, _, hq⟩ := DataW.trod_int Tryz.underlying53 h2
      simp at e
      rw [e] at h1
      have hs := hs (by omega)
      subst hs
      rw [Go.WideShapes.add_plain] at h1
      exact ⟨q, rfl, World.block_lt_of_cell? W _ h1, u64_of hq, h1⟩
    obtain ⟨q, hq⟩ := choose_lt each
    have hlen : ((List.range len).map q).length = len := by simp
    have hget : ∀ i, i < len → ((List.range len).map q).getD i 0 = q i := fun i hi => by simp [hi]
    refine ⟨some ⟨b, off, spot⟩, (List.range len).map q, cap, by rw [hlen]; exact hcs, fun y hy => ?_, fun i hi => ?_, by rw [hlen]; exact Nat.le_trans hl hm⟩
    · obtain ⟨j, hj, rfl⟩ := List.mem_map.1 hy
      exact (hq j (List.mem_range.1 hj)).2.2.1
    · rw [hlen] at hi
      obtain ⟨rfl, r1, _, r3⟩ := hq i hi
      exact ⟨b, off, rfl, r1, by rw [hget i hi]; exact r3⟩
set_option maxRecDepth 100000 in
theorem open_pokesT {W : World} {fuel : Nat} {cs : List Value} {x : DataW H × List MemPlace} (hf : DataW.trod enc Tryz.prog W 0 (fun _ => true) true fuel 29 cs = some x) :
    ∃ (ao : Option Addr) (l : List (Int × Int)) (cap : Nat), cs = [.slice ao l.length cap] ∧ (∀ p ∈ l, (-9223372036854775808 ≤ p.1 ∧ p.1 ≤ 9223372036854775807) ∧ u64B p.2) ∧ PkAt W ao l ∧ l.length ≤ 9223372036854775807 := by
  rcases open_slice Tryz.underlying29 hf with ⟨hcs, _⟩ | ⟨a, len, cap, m, n, D, Pl, hcs, _, hl, hm, hmm, hd, hx⟩
  · exact ⟨none, [], 0, hcs, fun i hi => (by cases hi), fun i hi => absurd hi (Nat.not_lt_zero i), Nat.zero_le _⟩
  · simp only [if_true] at hmm
    obtain ⟨b, off, spot⟩ := a
    have hs : 0 < len → spot = none := by
      intro h0
      obtain ⟨cs', h1, _⟩ := hx 0 (by omega)
      rw [cellsPk] at h1
      obtain ⟨_, hlen, hcell⟩ := World.cells?_some h1
      match cs', hlen with
      | [c0, c1], _ =>
        have f0 := hcell 0 (by omega)
        simpa [Addr.add] using World.cell?_spot f0
    have each : ∀ i, i < len → ∃ q : Int × Int, spot = none ∧ b < W.heap.size ∧ ((-9223372036854775808 ≤ q.1 ∧ q.1 ≤ 9223372036854775807) ∧ u64B q.2) ∧ W.cell? ⟨b, off + i * 2, none⟩ = some (.int .i64 q.1) ∧ W.cell? ⟨b, off + i * 2 + 1, none⟩ = some (.int .u64 q.2) := by
      intro i hi
      obtain ⟨cs', h1, h2⟩ := hx i (by omega)
      rw [cellsPk] at h1
      obtain ⟨_, hlen, hcell⟩ := World.cells?_some h1
      obtain ⟨xs, k, _, _, _, hxl, hg⟩ := DataW.trod_struct Tryz.underlying98 h2
      match xs, hxl, cs', hlen with
      | [y0, y1], _, [c0, c1], _ =>
        have g0 := hg 0 _ rfl
        have g1 := hg 1 _ rfl
        simp [cellsI, cellsW] at g0 g1
        obtain ⟨x0, e0, _, w0⟩ := DataW.trod_int Tryz.underlying3 g0
        obtain ⟨x1, e1, _, w1⟩ := DataW.trod_int Tryz.underlying53 g1
        simp at e0 e1
        subst e0 e1
        have f0 := hcell 0 (by omega)
        have f1 := hcell 1 (by omega)
        rw [add_add] at f0 f1
        have hspot := hs (by omega)
        subst hspot
        rw [Go.WideShapes.add_plain] at f0 f1
        exact ⟨(x0, x1), rfl, World.block_lt_of_cell? W _ f0, ⟨i64_of w0, u64_of w1⟩, f0, f1⟩
    obtain ⟨q, hq⟩ := choose_lt each
    have hcl : ((List.range len).map q).length = len := by simp
    have hget : ∀ i, i < len → ((List.range len).map q).getD i (0, 0) = q i := fun i hi => by simp [hi]
    refine ⟨some ⟨b, off, spot⟩, (List.range len).map q, cap, by rw [hcl]; exact hcs, fun i hi => ?_, fun i hi => ?_, by rw [hcl]; exact Nat.le_trans hl hm⟩
    · obtain ⟨j, hj, rfl⟩ := List.mem_map.1 hi
      exact (hq j (List.mem_range.1 hj)).2.2.1
    · rw [hcl] at hi
      rw [hget i hi]
      obtain ⟨rfl, h2, _, r⟩ := hq i hi
      exact ⟨b, off, rfl, h2, r⟩
structure RideIn (W : World) (a b c e th t : Int) (ao : Option Addr) (cs : List Ins) (cap : Nat) (po : Option Addr) (l : List Nat) (co : Nat) (pw : Option Addr) (lw : List Int) (cw : Nat) (pp : Option Addr) (lp : List (Int × Int)) (cp : Nat) : Prop where
  cx : ∀ i ∈ cs, i.x < 18446744073709551616
  code : CodeAt W ao cs
  lx : ∀ x ∈ l, x < 18446744073709551616
  args : FlAt W po l
  wx : okW lw
  words : UAt W pw lw
  wl : lw.length ≤ 9223372036854775807
  px : ∀ p ∈ lp, (-9223372036854775808 ≤ p.1 ∧ p.1 ≤ 9223372036854775807) ∧ u64B p.2
  pokes : PkAt W pp lp
  pl : lp.length ≤ 9223372036854775807
  nb : cs.length * 24 ≤ reachBytes
  kb : l.length * 8 ≤ reachBytes
set_option maxRecDepth 100000 in
set_option maxHeartbeats 1000000 in
theorem open_ride {W : World} {base : Nat} {v : Value} {d : DataW H} {ps : List MemPlace} (hval : Value.okWide Tryz.prog W .any base 31 v) (h : DataW.Trod enc Tryz.prog W 0 (fun _ => true) true 31 v d ps)
    {ts : List TypeId} {ds : List (DataW H)} (hz : (DataW.weightsEach Tryz.prog ts ds).all (· ≤ reachBytes) = true) {j : Nat} (h1 : ts[j]? = some 31) (h2 : ds[j]? = some d) :
    ∃ a b c e th t ao cs cap po l co pw lw cw pp lp cp, v = .agg (rideV a b c e th t ao cs.length cap po l.length co pw lw.length cw pp lp.length cp) ∧ RideIn W a b c e th t ao cs cap po l co pw lw cw pp lp cp := by
  obtain ⟨csv, rfl, hsz⟩ := okWide_struct Tryz.underlying31 hval
  rw [cellsRi] at hsz
  obtain ⟨lv⟩ := csv
  match lv, hsz with
  | [c0, c1, c2, c3, c4, c5, c6, c7, c8, c9], _ =>
    obtain ⟨fuel, hf⟩ := h
    obtain ⟨xs, n, _, hxd, _, hlen, hg⟩ := DataW.trod_struct Tryz.underlying31 hf
    match xs, hlen with
    | [y0, y1, y2, y3, y4, y5], _ =>
      have g0 := hg 0 _ rfl
      have g1 := hg 1 _ rfl
      have g2 := hg 2 _ rfl
      have g3 := hg 3 _ rfl
      have g4 := hg 4 _ rfl
      have g5 := hg 5 _ rfl
      simp [cellsCf, cellsI, cellsPg, cellsLF, cellsLW, cellsLP, Value.cells] at g0 g1 g2 g3 g4 g5
      obtain ⟨zs, n0, _, _, _, zl, zg⟩ := DataW.trod_struct Tryz.underlying23 g0
      obtain ⟨us, n2, _, hu, _, ul, ug⟩ := DataW.trod_struct Tryz.underlying26 g2
      match zs, zl, us, ul with
      | [z0, z1, z2, z3], _, [u0, u1], _ =>
        have k0 := zg 0 _ rfl
        have k1 := zg 1 _ rfl
        have k2 := zg 2 _ rfl
        have k3 := zg 3 _ rfl
        have m0 := ug 0 _ rfl
        have m1 := ug 1 _ rfl
        simp [cellsI, cellsLI] at k0 k1 k2 k3 m0 m1
        obtain ⟨a, ea, _, _⟩ := DataW.trod_int Tryz.underlying3 k0
        obtain ⟨b, eb, _, _⟩ := DataW.trod_int Tryz.underlying3 k1
        obtain ⟨c, ec, _, _⟩ := DataW.trod_int Tryz.underlying3 k2
        obtain ⟨e, ee, _, _⟩ := DataW.trod_int Tryz.underlying3 k3
        obtain ⟨th, eh, _, _⟩ := DataW.trod_int Tryz.underlying3 g1
        obtain ⟨t, et, _, _⟩ := DataW.trod_int Tryz.underlying3 m0
        obtain ⟨ao, cs, cap, e1, q1, q2, q3⟩ := open_codeT m1
        obtain ⟨po, l, co, e2, r1, r2, r3⟩ := open_flsT g3
        obtain ⟨pw, lw, cw, e3, s1, s2, s3⟩ := open_wordsT g4
        obtain ⟨pp, lp, cp, e4, t1, t2, t3⟩ := open_pokesT g5
        simp at ea eb ec ee eh et e1 e2 e3 e4
        have hd0 : d = .agg [y0.1, y1.1, y2.1, y3.1, y4.1, y5.1] := congrArg Prod.fst hxd
        have hd2 : y2.1 = .agg [u0.1, u1.1] := congrArg Prod.fst hu
        have wt : ∀ z ∈ d.weights Tryz.prog 31, z ≤ reachBytes := fun z hz' => by simpa using List.all_eq_true.1 hz _ (DataW.weights_mem_each h1 h2 z hz')
        rw [hd0, hd2] at wt
        simp [DataW.weights, DataW.weightsEach, Tryz.underlying31, Tryz.underlying26] at wt
        refine ⟨a, b, c, e, th, t, ao, cs, cap, po, l, co, pw, lw, cw, pp, lp, cp, by rw [ea, eb, ec, ee, eh, et, e1, e2, e3, e4], ⟨q1, q2, r1, r2, s1, s2, s3, t1, t2, t3, q3 fun z hz' => wt z ?_, r3 fun z hz' => wt z ?_⟩⟩
        · simp [hz']
        · simp [hz']
end
theorem RideIn.at_ {W : World} {a b c e th t : Int} {ao : Option Addr} {cs : List Ins} {cap : Nat} {po : Option Addr} {l : List Nat} {co : Nat} {pw : Option Addr} {lw : List Int} {cw : Nat} {pp : Option Addr} {lp : List (Int × Int)} {cp : Nat} (h : RideIn W a b c e th t ao cs cap po l co pw lw cw pp lp cp) (hs : Shaped5 W) : RideAt W cs l ao po cs.length l.length := ⟨hs, rfl, rfl, h.code, h.args, h.cx, h.lx, Nat.le_trans h.nb (by decide), Nat.le_trans h.kb (by decide)⟩
end Go.Proofs.YtninicfnhoediaaGreatDoor.Rr
namespace Go.Proofs.YtninicfnhoediaaGreatDoor.Rr
open Go.ChangeShapes Go.WideShapes Go.ChangeAt Go.RowKit Num
theorem Full.keepG {w w' : World} {G : List Nat} {b mb mg : Nat} {x : Rx} {z : Rz} {ws : List Int} {o : Bool} {n : Int} (h : Full w G b z mb mg w x ws o n) (k : Kept G w w') (k2 : Kept z.KK w w') : Full w' G b z mb mg w' x ws o n := by
  obtain ⟨q, r, ⟨F, h1, h2, h3, h4, t⟩, h5⟩ := h
  have hin : ∀ i ∈ mb :: mg :: gX b z q F, i ∈ G := fun i hi => by
    rcases t.own i hi with y | y
    · exact y
    · have : i < w.heap.size := by
        simp only [List.mem_cons] at hi
        rcases hi with rfl | rfl | hi
        · exact h2.ltB
        · exact h2.ltG
        · exact h1.blw i hi
      omega
  refine ⟨q, r, ⟨F, h1.keep ⟨k.1, fun i hi => k.2 i (hin i (by simp [hi]))⟩ k2, h2.keep (k.2 _ (hin _ (by simp))) (k.2 _ (hin _ (by simp))), h3, h4, ⟨rfl, rfl, rfl, Nat.le_refl _, fun _ _ _ => rfl, fun i hi => .inl (hin i hi)⟩⟩, h5⟩
def dOwn (bd : Nat) (zd : Dz) (bw gw : Nat) : List Nat := [bd, zd.br, zd.bl, bw, gw]
structure Both (W w : World) (bx : Nat) (z : Rz) (mb mg : Nat) (x : Rx) (ws : List Int) (o : Bool) (n : Int) (bd : Nat) (zd : Dz) (bw gw : Nat) (xd : Rx) (wd : List Int) (nd : Int) : Prop where
  ex : ∃ G qd, Full w G bx z mb mg w x ws o n ∧ Turn [] G W w ∧ Blw w G ∧ Sep z.KK G ∧ Blw w z.KK ∧ DRaw w bd xd zd qd ∧ WdAt w bw gw wd nd ∧ Sep [bw, gw] (dAll bd zd qd) ∧ Sep (bw :: gw :: dAll bd zd qd) G ∧ Sep (dOwn bd zd bw gw) z.KK ∧ Abv W.heap.size (dOwn bd zd bw gw)
section
variable {W w w' : World} {bx : Nat} {z : Rz} {mb mg : Nat} {x : Rx} {ws : List Int} {o : Bool} {n : Int} {bd : Nat} {zd : Dz} {bw gw : Nat} {xd : Rx} {wd : List Int} {nd : Int}
theorem dAll_blw {qd : Rp} (h : DRaw w bd xd zd qd) (k : WdAt w bw gw wd nd) : Blw w (bw :: gw :: dAll bd zd qd) := fun i hi => by
  simp only [List.mem_cons] at hi
  rcases hi with rfl | rfl | hi
  · exact k.ltB
  · exact k.ltG
  · exact h.blw i hi
theorem dOwn_in {qd : Rp} (h : DRaw w bd xd zd qd) : ∀ i ∈ dOwn bd zd bw gw, i ∈ bw :: gw :: dAll bd zd qd := fun i hi => by
  have := h.at_.1
  simp only [dOwn, List.mem_cons, List.not_mem_nil, or_false] at hi
  simp only [dAll, Fr, List.mem_cons, List.mem_append]
  rw [this]
  rcases hi with y | y | y | y | y <;> simp [y]
theorem Both.below (h : Both W w bx z mb mg x ws o n bd zd bw gw xd wd nd) : Below W.heap.size W w := by
  obtain ⟨G, qd, h1, h2, _⟩ := h.ex
  exact (h1.from h2).below
theorem Both.mem (h : Both W w bx z mb mg x ws o n bd zd bw gw xd wd nd) : MemAt 123 w mb mg ws o n := by
  obtain ⟨G, qd, h1, _⟩ := h.ex
  exact h1.mem
theorem Both.words (h : Both W w bx z mb mg x ws o n bd zd bw gw xd wd nd) : WdAt w bw gw wd nd := by
  obtain ⟨G, qd, _, _, _, _, _, _, h7, _⟩ := h.ex
  exact h7
theorem Both.draw (h : Both W w bx z mb mg x ws o n bd zd bw gw xd wd nd) : ∃ qd, DRaw w bd xd zd qd := by
  obtain ⟨G, qd, _, _, _, _, _, h6, _⟩ := h.ex
  exact ⟨qd, h6⟩
theorem Both.raw (h : Both W w bx z mb mg x ws o n bd zd bw gw xd wd nd) : ∃ q F r, RawAt w bx x z q F (comC x) r := by
  obtain ⟨G, qd, h1, _⟩ := h.ex
  exact h1.raw
theorem Both.p (h : Both W w bx z mb mg x ws o n bd zd bw gw xd wd nd) : ∃ G, Full w G bx z mb mg w x ws o n ∧ (Shaped5 W → TabAt w G) ∧ ∀ w' x' ws' o' n', Full w G bx z mb mg w' x' ws' o' n' → Both W w' bx z mb mg x' ws' o' n' bd zd bw gw xd wd nd := by
  obtain ⟨G, qd, h1, h2, h3, h4, h5, h6, h7, h8, h9, h10, h11⟩ := h.ex
  refine ⟨G, h1, fun hs => (show TabAt W [] from ⟨hs, by simp⟩).turn h2, fun w' x' ws' o' n' k => ?_⟩
  obtain ⟨G', k1, k2, k3, k4, k5⟩ := k.rebase
  have hb := dAll_blw h6 h7
  have kD := k2.kept h9 hb
  exact ⟨G', qd, k1, h2.trans k2, k3, k4, k5, h6.keep ⟨kD.1, fun i hi => kD.2 i (by simp [hi])⟩, h7.keep ⟨kD.1, fun i hi => kD.2 i (by simp only [List.mem_cons, List.not_mem_nil, or_false] at hi ⊢; rcases hi with y | y <;> simp [y])⟩, h8, h9.turn hb k2, h10, h11⟩
theorem Both.d (h : Both W w bx z mb mg x ws o n bd zd bw gw xd wd nd) : ∃ R0, DMid w R0 bd zd bw gw w xd wd nd ∧ ∀ w' xd' wd' nd', DMid w R0 bd zd bw gw w' xd' wd' nd' → Both W w' bx z mb mg x ws o n bd zd bw gw xd' wd' nd' := by
  obtain ⟨G, qd, h1, h2, h3, h4, h5, h6, h7, h8, h9, h10, h11⟩ := h.ex
  refine ⟨Fr zd.br qd, ⟨qd, h6, h7, h8, Turn.refl _ _, fun _ hk => .inl hk⟩, fun w' xd' wd' nd' k => ?_⟩
  obtain ⟨qd', k1, k2, k3, k4, k5⟩ := k
  have sO : Sep G (dOwn bd zd bw gw) := fun i hi y => h9 i (dOwn_in h6 i y) hi
  have kG := k4.kept sO h3
  have kK := k4.kept h10.symm h5
  have blW := k4.below h11 h2.size
  refine ⟨G, qd', h1.keepG kG kK, ⟨k4.os.trans h2.os, k4.tape.trans h2.tape, k4.output.trans h2.output, Nat.le_trans h2.size k4.size, fun i hi hn => (blW.block i hi).trans (h2.block i hi hn), fun i hi => h2.own i hi⟩, fun i hi => Nat.lt_of_lt_of_le (h3 i hi) k4.size, h4, fun i hi => Nat.lt_of_lt_of_le (h5 i hi) k4.size, k1, k2, k3, fun i hi y => ?_, h10, h11⟩
  have old : ∀ i, i ∈ bw :: gw :: dAll bd zd qd → i ∈ G → False := fun i => h9 i
  simp only [dAll, List.mem_cons, List.mem_append] at hi old
  rcases hi with q | q | q | q | q | q
  · exact old i (.inl q) y
  · exact old i (.inr (.inl q)) y
  · exact old i (.inr (.inr (.inl q))) y
  · rcases k5 i q with q | q
    · exact old i (.inr (.inr (.inr (.inl q)))) y
    · have := h3 i y
      omega
  · exact old i (.inr (.inr (.inr (.inr (.inl q))))) y
  · exact old i (.inr (.inr (.inr (.inr (.inr q))))) y
theorem Both.on (h : Both W w bx z mb mg x ws o n bd zd bw gw xd wd nd) (k : Below w.heap.size w w') : Both W w' bx z mb mg x ws o n bd zd bw gw xd wd nd := by
  obtain ⟨G, h1, _, h3⟩ := h.p
  exact h3 _ _ _ _ _ (h1.on k)
theorem both_new {W0 W u w : World} {ao : Option Addr} {cs : List Ins} (hW : Below W0.heap.size W0 W) (h : Bgn W u bx bd x ao cs) (hc : x.cell < 0) (hm : MemAt 123 w mb mg ws o n) (hd : WdAt w bw gw wd nd) (hb : Below u.heap.size u w) (a1 : u.heap.size ≤ mb) (a2 : u.heap.size ≤ mg) (a3 : u.heap.size ≤ bw) (a4 : u.heap.size ≤ gw) (s : Sep [bw, gw] [mb, mg]) : ∃ z zd, zd.cs = cs ∧ Both W0 w bx z mb mg x ws o n bd zd bw gw x wd nd := by
  obtain ⟨z, F, r, zd, qd, k1, k2, k3, k4, k5, k6, k7, k8, k9, k10⟩ := h.p
  have hs := hW.size
  have hu := h.bl.size
  obtain ⟨f1, f2⟩ := full_of k1 (k2.mono hs) (hW.trans (h.bl.mono hs)) hm hb a1 a2 hc
  have D := k5.on hb
  have lD := k5.blw
  have hsz := hb.size
  have lkk := k1.blwK
  refine ⟨z, zd, k4, ⟨_, qd, f1, f2, fun i hi => ?_, fun i hi y => ?_, fun i hi => Nat.lt_of_lt_of_le (lkk i hi) hsz, D, hd, fun i hi y => ?_, fun i hi y => ?_, fun i hi y => ?_, fun i hi => ?_⟩⟩
  · simp only [List.mem_cons] at hi
    rcases hi with rfl | rfl | hi
    · exact hm.ltB
    · exact hm.ltG
    · exact Nat.lt_of_lt_of_le (k1.blw i hi) hsz
  · have := lkk i hi
    simp only [List.mem_cons] at y
    rcases y with y | y | y
    · omega
    · omega
    · exact k1.sep i hi y
  · have := lD i y
    simp only [List.mem_cons, List.not_mem_nil, or_false] at hi
    omega
  · simp only [List.mem_cons] at hi y
    have sm := s i
    simp only [List.mem_cons, List.not_mem_nil, or_false] at sm
    rcases y with y | y | y
    · rcases hi with hi | hi | hi
      · exact sm (.inl hi) (.inl y)
      · exact sm (.inr hi) (.inl y)
      · have := lD i hi; omega
    · rcases hi with hi | hi | hi
      · exact sm (.inl hi) (.inr y)
      · exact sm (.inr hi) (.inr y)
      · have := lD i hi; omega
    · have := k1.blw i y
      rcases hi with hi | hi | hi
      · omega
      · omega
      · exact k9 i y hi
  · have := lkk i y
    have bl := k5.at_.1
    simp only [dOwn, List.mem_cons, List.not_mem_nil, or_false] at hi
    rcases hi with hi | hi | hi | hi | hi
    · exact k10 i y (by simp [hi])
    · exact k10 i y (by simp [hi, Fr])
    · exact k10 i y (by simp [hi, Fr, bl])
    · omega
    · omega
  · have bl := k5.at_.1
    have K6 := k6 i
    simp only [Fr, List.mem_cons] at K6
    simp only [dOwn, List.mem_cons, List.not_mem_nil, or_false] at hi
    rcases hi with hi | hi | hi | hi | hi
    · have := K6 (.inl hi); omega
    · have := K6 (.inr (.inl hi)); omega
    · have := K6 (.inr (.inr (.inl (by rw [bl]; exact hi)))); omega
    · omega
    · omega
end
end Go.Proofs.YtninicfnhoediaaGreatDoor.Rr
