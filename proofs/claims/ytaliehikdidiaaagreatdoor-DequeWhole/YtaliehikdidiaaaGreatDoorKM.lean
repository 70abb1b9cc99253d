import Derived.Test.YtaliehikdidiaaaGreatDoorKD
import Derived.Test.YtaliehikdidiaaaGreatDoorKJ
import Derived.Test.YtaliehikdidiaaaGreatDoorKF
import Derived.Laws.StructEq
namespace Go.Proofs.YtaliehikdidiaaaGreatDoor
open Go.ChangeShapes Go.WideShapes Go.ChangeAt Go.RowKit Num

/-! what holds of every machine holds behind a step, behind a Give -/
/-- a machine that has begun an instruction -/
structure Mid (m : Mac) : Prop where
  cells : 1 ≤ m.cells ∧ m.cells ≤ 256
  fuel : 1 ≤ m.fuel ∧ m.fuel ≤ 1024
  wmax : 1 ≤ m.wmax ∧ m.wmax ≤ 32
  len : m.code.length ≤ 1024
  may : ∀ k, k < m.code.length → mayB (ci m.code k) m.code.length = true ∧ (ci m.code k).x < 18446744073709551616
  args : ∀ k, okN (m.args k)
  loc : ∀ k, okN (m.loc k)
  st : ∀ x ∈ m.st, okN x
  high : m.st.length ≤ 64
  calls : ∀ c ∈ m.calls, 0 ≤ c ∧ c ≤ (m.code.length : Int)
  deep : m.calls.length ≤ 16
  place : 0 ≤ m.place ∧ m.place ≤ (m.code.length : Int)
  used : 0 ≤ m.used ∧ m.used ≤ m.fuel
  out : (m.out.length : Int) < m.used
  reads : (m.reads.length : Int) < m.used
  buf : ∀ t ∈ m.buf, okN t.2
  few : (m.buf.length : Int) ≤ m.wmax
  wait : m.wait = -1
  how : m.how = 0
  none : m.upd = false → m.buf = []
  err : m.err = 0
  idle : m.code ≠ []
section
variable {m : Mac}
theorem Mid.setSt (h : Mid m) {s : List Nat} (hs : ∀ x ∈ s, okN x) (hl : s.length ≤ 64) : Mid { m with st := s } :=
  ⟨h.cells, h.fuel, h.wmax, h.len, h.may, h.args, h.loc, hs, hl, h.calls, h.deep, h.place, h.used, h.out, h.reads, h.buf, h.few, h.wait, h.how, h.none, h.err, h.idle⟩
theorem Mid.setLoc (h : Mid m) {f : Nat → Nat} (hf : ∀ k, okN (f k)) : Mid { m with loc := f } :=
  ⟨h.cells, h.fuel, h.wmax, h.len, h.may, h.args, hf, h.st, h.high, h.calls, h.deep, h.place, h.used, h.out, h.reads, h.buf, h.few, h.wait, h.how, h.none, h.err, h.idle⟩
theorem Mid.setPlace (h : Mid m) {n : Int} (hn : 0 ≤ n ∧ n ≤ (m.code.length : Int)) : Mid { m with place := n } :=
  ⟨h.cells, h.fuel, h.wmax, h.len, h.may, h.args, h.loc, h.st, h.high, h.calls, h.deep, hn, h.used, h.out, h.reads, h.buf, h.few, h.wait, h.how, h.none, h.err, h.idle⟩
theorem Mid.setCalls (h : Mid m) {c : List Int} (hc : ∀ x ∈ c, 0 ≤ x ∧ x ≤ (m.code.length : Int)) (hd : c.length ≤ 16) : Mid { m with calls := c } :=
  ⟨h.cells, h.fuel, h.wmax, h.len, h.may, h.args, h.loc, h.st, h.high, hc, hd, h.place, h.used, h.out, h.reads, h.buf, h.few, h.wait, h.how, h.none, h.err, h.idle⟩
theorem Mid.setBuf (h : Mid m) {l : Wr} (hl : ∀ t ∈ l, okN t.2) (hf : (l.length : Int) ≤ m.wmax) (hn : m.upd = false → l = []) : Mid { m with buf := l } :=
  ⟨h.cells, h.fuel, h.wmax, h.len, h.may, h.args, h.loc, h.st, h.high, h.calls, h.deep, h.place, h.used, h.out, h.reads, hl, hf, h.wait, h.how, hn, h.err, h.idle⟩
theorem Mid.not_wait (h : Mid m) : ¬ 0 ≤ m.wait := by rw [h.wait]; decide
theorem Mid.ended (h : Mid m) (o c e : Int) (ho : 0 ≤ o ∧ o ≤ 3) (hoe : o = 3 ↔ e ≠ 0) (he : e ≠ 80) (l : List Nat) (hl : (l.length : Int) ≤ m.used) : Inv { m with out := l, how := o, cod := c, err := e } :=
  ⟨h.cells, h.fuel, h.wmax, h.len, h.may, h.args, h.loc, h.st, by rw [if_neg h.not_wait]; have := h.high; show (m.st.length : Int) + 0 ≤ 64; omega, h.calls, h.deep, h.place, h.used, hl, by rw [if_neg h.not_wait]; have := h.reads; show (m.reads.length : Int) + 0 ≤ m.used; omega, h.buf, h.few, by have := h.cells; show -1 ≤ m.wait ∧ m.wait < m.cells; rw [h.wait]; omega, ho, h.none, hoe, fun q => absurd q he, fun q => absurd q h.idle⟩
theorem Mid.out' (h : Mid m) {l : List Nat} (hl : (l.length : Int) ≤ m.used) : Inv { m with out := l } := by
  have := h.ended 0 m.cod 0 (by omega) (by omega) (by omega) l hl
  have e : ({ m with out := l } : Mac) = { m with out := l, how := 0, cod := m.cod, err := 0 } := by have h1 := h.how; have h2 := h.err; simp only [h1, h2]
  rw [e]
  exact this
theorem Mid.inv (h : Mid m) : Inv m := h.out' (l := m.out) (by have := h.out; omega)
theorem Mid.fails (h : Mid m) (e : Int) (he : e ≠ 0 ∧ e ≠ 80) : Inv (failM m e).1 := h.ended 3 0 e (by omega) ⟨fun _ => he.1, fun _ => rfl⟩ he.2 m.out (by have := h.out; omega)
theorem Mid.readsSt (h : Mid m) {l : Wr} (hl : (l.length : Int) ≤ m.used) : Inv { m with reads := l } :=
  ⟨h.cells, h.fuel, h.wmax, h.len, h.may, h.args, h.loc, h.st, by rw [if_neg h.not_wait]; have := h.high; show (m.st.length : Int) + 0 ≤ 64; omega, h.calls, h.deep, h.place, h.used, by have := h.out; show (m.out.length : Int) ≤ m.used; omega, by rw [if_neg h.not_wait]; show (l.length : Int) + 0 ≤ m.used; omega, h.buf, h.few, by have := h.cells; show -1 ≤ m.wait ∧ m.wait < m.cells; rw [h.wait]; omega, by show 0 ≤ m.how ∧ m.how ≤ 3; rw [h.how]; decide, h.none, by show m.how = 3 ↔ m.err ≠ 0; rw [h.how, h.err]; decide, fun q => by have q' : m.err = 80 := q; rw [h.err] at q'; exact absurd q' (by decide), fun q => absurd q h.idle⟩
theorem Mid.waits (h : Mid m) {c : Int} (hc : 0 ≤ c ∧ c < m.cells) (hl : m.st.length + 1 ≤ 64) : Inv { m with wait := c } :=
  ⟨h.cells, h.fuel, h.wmax, h.len, h.may, h.args, h.loc, h.st, by rw [if_pos hc.1]; show (m.st.length : Int) + 1 ≤ 64; omega, h.calls, h.deep, h.place, h.used, by have := h.out; show (m.out.length : Int) ≤ m.used; omega, by rw [if_pos hc.1]; have := h.reads; show (m.reads.length : Int) + 1 ≤ m.used; omega, h.buf, h.few, by show -1 ≤ c ∧ c < m.cells; omega, by show 0 ≤ m.how ∧ m.how ≤ 3; rw [h.how]; decide, h.none, by show m.how = 3 ↔ m.err ≠ 0; rw [h.how, h.err]; decide, fun q => by have q' : m.err = 80 := q; rw [h.err] at q'; exact absurd q' (by decide), fun q => absurd q h.idle⟩
theorem putC_len_le {l : Wr} {m : Int} {c : Int} (h : mayP m l c = true) (hf : (l.length : Int) ≤ m) (y : Nat) : ((putC l c y).length : Int) ≤ m := by
  rw [putC_len]
  unfold mayP at h
  cases hh : hasC l c
  · rw [hh] at h
    have : (l.length : Int) < m := by simpa using h
    simp
    omega
  · simpa using hf
theorem putC_all {l : Wr} {c : Int} {y : Nat} (h : ∀ t ∈ l, okN t.2) (hy : okN y) : ∀ t ∈ putC l c y, okN t.2 := by
  intro t ht
  unfold putC at ht
  split at ht
  · rcases List.mem_or_eq_of_mem_set ht with q | q
    · exact h t q
    · rw [q]; exact hy
  · rcases List.mem_append.1 ht with q | q
    · exact h t q
    · simp at q; rw [q]; exact hy
theorem getC_ok {l : Wr} {c : Int} (h : ∀ t ∈ l, okN t.2) : okN (getC l c) := by
  unfold getC
  rw [List.getD_eq_getElem?_getD]
  cases hl : l[idx l c]? with
  | none => exact okN_zero
  | some t => exact h t (List.mem_of_getElem? hl)
theorem get_ok {l : List Nat} (h : ∀ x ∈ l, okN x) (k : Nat) : okN (l.getD k 0) := getD_all 0 okN_zero l h k
theorem drop_ok {l : List Nat} (h : ∀ x ∈ l, okN x) (k : Nat) : ∀ x ∈ l.drop k, okN x := fun x hx => h x (List.mem_of_mem_drop hx)
theorem cons_ok {l : List Nat} {y : Nat} (hy : okN y) (h : ∀ x ∈ l, okN x) : ∀ x ∈ y :: l, okN x := fun x hx => by
  rcases List.mem_cons.1 hx with rfl | q
  · exact hy
  · exact h x q
theorem place_ok {k : Nat} {n : Int} {x many : Nat} (h : mayB ⟨k, n, x⟩ many = true) (hk : (shp k).kind = 3) (hl : (shp k).lo = 0) : 0 ≤ n ∧ n ≤ (many : Int) := by
  unfold mayB fitsB outB at h
  simp only [Bool.and_eq_true, decide_eq_true_eq, Int.toNat_natCast, Bool.not_eq_true', Bool.and_eq_false_iff, decide_eq_false_iff_not] at h
  obtain ⟨⟨⟨_, h1⟩, h2⟩, _⟩ := h
  rw [hl] at h1
  rcases h2 with h2 | h2
  · exact absurd hk h2
  · omega
theorem inv_do (h : Mid m) {k : Nat} {n : Int} {x : Nat} (hi : mayB ⟨k, n, x⟩ m.code.length = true) (hx : x < 18446744073709551616) (hr : roomB m ⟨k, n, x⟩ = true) : Inv (doM m ⟨k, n, x⟩).1 := by
  obtain ⟨hk, hlo, hhi⟩ := fits_parts hi
  obtain ⟨r1, r2, r3, r4⟩ := room_parts hr
  have hst := h.st
  have hgh := h.high
  have hkk : k = 1 ∨ k = 2 ∨ k = 3 ∨ k = 4 ∨ k = 5 ∨ k = 6 ∨ k = 7 ∨ k = 8 ∨ k = 9 ∨ k = 10 ∨ k = 11 ∨ k = 12 ∨ k = 13 ∨ k = 14 ∨ k = 15 ∨ k = 16 ∨ k = 17 ∨ k = 18 ∨ k = 19 ∨ k = 20 := by omega
  rcases hkk with rfl | rfl | rfl | rfl | rfl | rfl | rfl | rfl | rfl | rfl | rfl | rfl | rfl | rfl | rfl | rfl | rfl | rfl | rfl | rfl
  · have r3' : (m.st.length : Int) - 0 + 1 ≤ 64 := r3
    exact (h.setSt (cons_ok (okN_fix hx) hst) (by simp; omega)).inv
  · exact (h.setSt (drop_ok hst 1) (by simp; omega)).inv
  · have r3' : (m.st.length : Int) - 1 + 2 ≤ 64 := r3
    have r1' : (1 : Int) ≤ (m.st.length : Int) := r1 (by omega)
    exact (h.setSt (cons_ok (get_ok hst 0) hst) (by simp; omega)).inv
  · have r3' : (m.st.length : Int) - 2 + 2 ≤ 64 := r3
    have r1' : (2 : Int) ≤ (m.st.length : Int) := r1 (by omega)
    exact (h.setSt (cons_ok (get_ok hst 1) (cons_ok (get_ok hst 0) (drop_ok hst 2))) (by simp; omega)).inv
  · have r3' : (m.st.length : Int) - 0 + 1 ≤ 64 := r3
    exact (h.setSt (cons_ok (get_ok hst _) hst) (by simp; omega)).inv
  · have r3' : (m.st.length : Int) - 0 + 1 ≤ 64 := r3
    exact (h.setSt (cons_ok (h.args _) hst) (by simp; omega)).inv
  · have r3' : (m.st.length : Int) - 0 + 1 ≤ 64 := r3
    exact (h.setSt (cons_ok (h.loc _) hst) (by simp; omega)).inv
  · exact ((h.setSt (drop_ok hst 1) (by simp; omega)).setLoc (fun j => by show okN (if j = n.toNat then _ else _); split; exact get_ok hst 0; exact h.loc j)).inv
  · have r3' : (m.st.length : Int) - 1 + 1 ≤ 64 := r3
    have r1' : (1 : Int) ≤ (m.st.length : Int) := r1 (by omega)
    exact (h.setSt (cons_ok (okN_one n (get_ok hst 0)) (drop_ok hst 1)) (by simp; omega)).inv
  · have r3' : (m.st.length : Int) - 2 + 1 ≤ 64 := r3
    have r1' : (2 : Int) ≤ (m.st.length : Int) := r1 (by omega)
    exact (h.setSt (cons_ok (okN_two n (get_ok hst 1) (get_ok hst 0)) (drop_ok hst 2)) (by simp; omega)).inv
  · exact (h.setPlace (place_ok hi rfl rfl)).inv
  · have hp := place_ok hi rfl rfl
    exact ((h.setSt (drop_ok hst 1) (by simp; omega)).setPlace (n := if trueB (m.st.getD 0 0) then n else m.place) (by split; exact hp; exact h.place)).inv
  · have hp := place_ok hi rfl rfl
    exact ((h.setSt (drop_ok hst 1) (by simp; omega)).setPlace (n := if trueB (m.st.getD 0 0) then m.place else n) (by split; exact h.place; exact hp)).inv
  · have hc := r4 rfl
    exact ((h.setCalls (c := m.place :: m.calls) (fun y hy => by rcases List.mem_cons.1 hy with rfl | q; exact h.place; exact h.calls y q) (by simp; omega)).setPlace (place_ok hi rfl rfl)).inv
  · show Inv (retM m).1
    cases hc : m.calls with
    | nil =>
      rw [retM_nil hc]
      exact h.ended 1 0 0 (by omega) (by omega) (by omega) m.out (by have := h.out; omega)
    | cons c q =>
      rw [retM_cons hc]
      have hq := h.calls
      have hd := h.deep
      rw [hc] at hq hd
      simp at hd
      exact ((h.setCalls (c := q) (fun y hy => hq y (by simp [hy])) (by omega)).setPlace (hq c (by simp))).inv
  · have r1' : (1 : Int) ≤ (m.st.length : Int) := r1 (by omega)
    have r3' : (m.st.length : Int) - 1 + 1 ≤ 64 := r3
    show Inv (readM m).1
    unfold readM
    cases ha : addrB m with
    | false => exact h.fails 50 (by omega)
    | true =>
      have hid := idx_wf (m.st.getD 0 0) h.cells.2 ha
      cases hh : hasC m.buf (addrV m) with
      | false =>
        rw [if_pos rfl, if_neg Bool.false_ne_true]
        exact (h.setSt (drop_ok hst 1) (by simp; omega)).waits ⟨hid.1, hid.2.1⟩ (by simp; omega)
      | true =>
        rw [if_pos rfl, if_pos rfl]
        exact (h.setSt (cons_ok (getC_ok h.buf) (drop_ok hst 1)) (by simp; omega)).readsSt (l := m.reads ++ [(addrV m, getC m.buf (addrV m))]) (by have := h.reads; simp; omega)
  · show Inv (writeM m).1
    unfold writeM
    cases hu : m.upd with
    | false => exact h.fails 81 (by omega)
    | true =>
      cases ha : addrB m with
      | false => exact h.fails 50 (by omega)
      | true =>
        cases hp : mayP m.wmax m.buf (addrV m) with
        | false => exact h.fails 70 (by omega)
        | true =>
          have := ((h.setSt (drop_ok hst 2) (by simp; omega)).setBuf (l := putC m.buf (addrV m) (m.st.getD 1 0)) (putC_all h.buf (get_ok hst 1)) (putC_len_le hp h.few _) (fun q => by have q' : m.upd = false := q; rw [hu] at q'; cases q')).inv
          rw [if_pos rfl, if_pos rfl, if_pos rfl]
          rw [← hu]
          exact this
  · exact (h.setSt (drop_ok hst 1) (by simp; omega)).out' (l := m.out ++ [m.st.getD 0 0]) (by have := h.out; simp; omega)
  · exact h.ended 2 n 0 (by omega) (by omega) (by omega) m.out (by have := h.out; omega)
  · exact h.ended 1 0 0 (by omega) (by omega) (by omega) m.out (by have := h.out; omega)
theorem mid_beg (h : Inv m) (hw : ¬ 0 ≤ m.wait) (h0 : m.how = 0) (hf : m.used < m.fuel) (hp : m.place < (m.code.length : Int)) : Mid (begM m) := by
  have h1 := h.high
  have h2 := h.reads
  rw [if_neg hw] at h1 h2
  have h3 := h.wait
  have h4 := h.used
  have h5 := h.place
  have h6 := h.out
  refine ⟨h.cells, h.fuel, h.wmax, h.len, h.may, h.args, h.loc, h.st, by show m.st.length ≤ 64; omega, h.calls, h.deep, by show 0 ≤ m.place + 1 ∧ m.place + 1 ≤ (m.code.length : Int); omega, by show 0 ≤ m.used + 1 ∧ m.used + 1 ≤ m.fuel; omega, by show (m.out.length : Int) < m.used + 1; omega, by show (m.reads.length : Int) < m.used + 1; omega, h.buf, h.few, by show m.wait = -1; omega, h0, h.none, ?_, fun q => ?_⟩
  · show m.err = 0
    by_cases he : m.err = 0
    · exact he
    · exact absurd (h.fail.2 he) (by rw [h0]; decide)
  · have q' : m.code = [] := q
    rw [q'] at hp
    simp at hp
    omega
theorem inv_ended (h : Inv m) (e : Int) (he : e ≠ 0) (hf : e = 80 → m.used = m.fuel) : Inv (failM m e).1 :=
  ⟨h.cells, h.fuel, h.wmax, h.len, h.may, h.args, h.loc, h.st, h.high, h.calls, h.deep, h.place, h.used, h.out, h.reads, h.buf, h.few, h.wait, by show (0 : Int) ≤ 3 ∧ (3 : Int) ≤ 3; decide, h.none, ⟨fun _ => he, fun _ => rfl⟩, hf, h.idle⟩
theorem inv_step (h : Inv m) : Inv (stepM m).1 := by
  unfold stepM
  by_cases hw : 0 ≤ m.wait
  · rw [if_pos hw]
    exact h
  rw [if_neg hw]
  by_cases h0 : m.how = 0
  · rw [if_pos h0]
    by_cases hf : m.used < m.fuel
    · rw [if_pos hf]
      by_cases hp : m.place < (m.code.length : Int)
      · rw [if_pos hp]
        have hM := mid_beg h hw h0 hf hp
        have hk : m.place.toNat < m.code.length := by have := h.place; omega
        have hmay := h.may _ hk
        cases hr : roomB (begM m) (insM m) with
        | false => exact hM.fails 82 (by omega)
        | true =>
          rw [if_pos rfl]
          unfold insM at hr ⊢
          rcases hci : ci m.code m.place.toNat with ⟨o, n, x⟩
          rw [hci] at hmay hr
          obtain ⟨q, hq⟩ : ∃ q : Nat, o = q := ⟨o.toNat, by have := hmay.1; unfold mayB knownB at this; simp at this; omega⟩
          subst hq
          exact inv_do hM hmay.1 hmay.2 hr
      · rw [if_neg hp]
        exact inv_ended h 50 (by omega) (by omega)
    · rw [if_neg hf]
      exact inv_ended h 80 (by omega) (fun _ => by have := h.used; omega)
  · rw [if_neg h0]
    exact h
theorem inv_give (h : Inv m) {x : Nat} (hx : x < 18446744073709551616) : Inv (giveM m x) := by
  unfold giveM
  by_cases hw : 0 ≤ m.wait
  · rw [if_pos hw]
    have h1 := h.high
    have h2 := h.reads
    rw [if_pos hw] at h1 h2
    have h3 := h.cells
    exact ⟨h.cells, h.fuel, h.wmax, h.len, h.may, h.args, h.loc, cons_ok (okN_fix hx) h.st, by show ((fixB x :: m.st).length : Int) + (if (0 : Int) ≤ -1 then 1 else 0) ≤ 64; rw [if_neg (by decide)]; simp; omega, h.calls, h.deep, h.place, h.used, h.out, by show ((m.reads ++ [(m.wait, fixB x)]).length : Int) + (if (0 : Int) ≤ -1 then 1 else 0) ≤ m.used; rw [if_neg (by decide)]; simp; omega, h.buf, h.few, by show (-1 : Int) ≤ -1 ∧ (-1 : Int) < m.cells; omega, h.how, h.none, h.fail, h.full, h.idle⟩
  · rw [if_neg hw]
    exact h
theorem inv_new {a b f e t : Int} {c : List Ins} {l : List Nat} (hc : Md.cfgB a b f e = true) (hx : ∀ k, k < c.length → (ci c k).x < 18446744073709551616) (hl : ∀ x ∈ l, x < 18446744073709551616) : Inv (newM a f e t c l) := by
  obtain ⟨h1, _, h3, h4⟩ := Md.cfgB_iff.1 hc
  have hcode : (if checkB t c then c else []).length ≤ 1024 ∧ ∀ k, k < (if checkB t c then c else []).length → mayB (ci (if checkB t c then c else []) k) (if checkB t c then c else []).length = true ∧ (ci (if checkB t c then c else []) k).x < 18446744073709551616 := by
    cases hq : checkB t c with
    | false => exact ⟨by simp, fun k hk => absurd hk (by simp)⟩
    | true =>
      have := check_parts.1 hq
      rw [if_pos rfl]
      exact ⟨this.2.2.1, fun k hk => ⟨this.2.2.2 k hk, hx k hk⟩⟩
  refine ⟨h1, h3, h4, hcode.1, hcode.2, fun k => okN_fix ?_, fun _ => okN_zero, fun x hx => by simp [newM] at hx, by simp [newM], fun c hc => by simp [newM] at hc, by simp [newM], by show (0 : Int) ≤ 0 ∧ (0 : Int) ≤ _; omega, by show (0 : Int) ≤ 0 ∧ (0 : Int) ≤ f; omega, by simp [newM], by simp [newM], fun t ht => by simp [newM] at ht, by show ((([] : Wr).length : Nat) : Int) ≤ e; simp; omega, by show (-1 : Int) ≤ -1 ∧ (-1 : Int) < a; omega, by show (0 : Int) ≤ 0 ∧ (0 : Int) ≤ 3; decide, fun _ => rfl, by show (0 : Int) = 3 ↔ (0 : Int) ≠ 0; decide, fun q => absurd q (show ¬ (0 : Int) = 80 by decide), fun _ => rfl⟩
  exact getD_all (P := fun x => x < 18446744073709551616) 0 (by decide) l hl k
end
end Go.Proofs.YtaliehikdidiaaaGreatDoor
namespace Go.Proofs.YtaliehikdidiaaaGreatDoor
open Go.ChangeShapes Go.WideShapes Go.ChangeAt Go.RowKit Num
attribute [local go_sem] run_store_float

section
variable {W w : World} {b : Nat} {F0 K : List Nat} {m : Mac}
/-- a box of the caller's own, kept while the machine turns -/
theorem Gm.keepBox (h : Gm W F0 b K w m) (hT : TabAt W F0) (o : Obj) : ∃ F, Gm (w.alloc o) F b K (w.alloc o) m ∧ TabAt (w.alloc o) F ∧ ∀ w' m', Gm (w.alloc o) F b K w' m' → w'.heap[w.heap.size]? = some o ∧ Gm W F0 b K w' m' := by
  obtain ⟨F, hM, ht⟩ := h.mc
  refine ⟨F, (hM.on (below_alloc w o)).gm, (hT.turn ht).on (below_alloc w o), fun w' m' hg => ?_⟩
  exact ⟨(hg.far (by simp) (fun q => absurd (hM.blw _ q) (Nat.lt_irrefl _))).trans (heap_alloc_new w o), hg.trans (ht.trans (Below.turn (below_alloc w o) F))⟩
end
def seven : Nat := 4619567317775286272
def five : Nat := 4617315517961601024
def one1 : Nat := 4607182418800017408
def liveC : List Ins := [⟨1, 0, 4619567317775286272⟩, ⟨1, 0, 0⟩, ⟨17, 0, 0⟩, ⟨1, 0, 4607182418800017408⟩, ⟨16, 0, 0⟩, ⟨18, 0, 0⟩, ⟨20, 0, 0⟩]
def lv0 : Mac := newM 2 10 1 2 liveC []
def lv1 : Mac := (stepM lv0).1
def lv2 : Mac := (stepM lv1).1
def lv3 : Mac := (stepM lv2).1
def lv4 : Mac := (stepM lv3).1
def lv5 : Mac := (stepM lv4).1
def lv6 : Mac := giveM lv5 4617315517961601024
def lv7 : Mac := (stepM lv6).1
def lv8 : Mac := (stepM lv7).1
theorem lv_check : checkB 2 liveC = true := by decide +kernel
theorem lv_cfg : Md.cfgB 2 1 10 1 = true := by decide
theorem lf2 : (stepM lv2).2 = ⟨3, 0, 4619567317775286272, true⟩ := by kernel_rfl
theorem lf4 : (stepM lv4).2 = ⟨1, 1, 0, false⟩ := by kernel_rfl
theorem lf5 : giveE lv5 = 0 := by kernel_rfl
theorem lf7 : (stepM lv7).2 = ⟨4, 0, 0, false⟩ := by kernel_rfl
theorem lf8 : lv8.how = 1 ∧ lv8.cod = 0 ∧ lv8.err = 0 ∧ lv8.used = 7 := ⟨by kernel_rfl, by kernel_rfl, by kernel_rfl, by kernel_rfl⟩
theorem lf9 : lv8.out = [4617315517961601024] := by kernel_rfl
theorem li0 : Inv lv0 := inv_new lv_cfg (by decide +kernel) (fun x hx => by simp at hx)
theorem li1 : Inv lv1 := inv_step li0
theorem li2 : Inv lv2 := inv_step li1
theorem li3 : Inv lv3 := inv_step li2
theorem li4 : Inv lv4 := inv_step li3
theorem li5 : Inv lv5 := inv_step li4
theorem li6 : Inv lv6 := inv_give li5 (by decide)
theorem li7 : Inv lv7 := inv_step li6
theorem li8 : Inv lv8 := inv_step li7
end Go.Proofs.YtaliehikdidiaaaGreatDoor
namespace Go.Proofs.YtaliehikdidiaaaGreatDoor
open Go.ChangeShapes Go.WideShapes Go.ChangeAt Go.RowKit Num
attribute [local go_sem] run_store_float

theorem float_eq (d x y : Nat) (w : World) : (Op.equalIn (d + 1) 74 (.float .f64 x) (.float .f64 y)).run Tryz.prog w = .ok (FloatKind.f64.format.order x y == some .eq) w := by
  simp [Op.equalIn, run_underlying Tryz.underlying74]
  rfl
set_option maxRecDepth 100000 in
theorem ask_eq (k c : Int) (x : Nat) (f : Bool) (hx : FloatKind.f64.format.order x x = some .eq) (w : World) : (Op.equalIn 10000 141 (.agg #[.int .i64 k, .int .i64 c, .float .f64 x, .bool f]) (.agg #[.int .i64 k, .int .i64 c, .float .f64 x, .bool f])).run Tryz.prog w = .ok true w := by
  have u3 := Tryz.underlying3
  have a3 := Tryz.isAgg3
  have z3 := Tryz.sizeOf3
  have u4 := Tryz.underlying74
  have a4 := Tryz.isAgg74
  have z4 := Tryz.sizeOf74
  have u5 := Tryz.underlying4
  have a5 := Tryz.isAgg4
  have z5 := Tryz.sizeOf4
  have hS : Tryz.prog.underlying 141 = some (.struct (Tryz.prog.fieldsOf 141)) := by kernel_rfl
  rw [show (10000 : Nat) = 9999 + 1 from rfl, run_equalIn_agg w 9999 141 _ _ hS (by kernel_rfl)]
  simp only [Program.fieldsOf, Tryz.underlying141]
  have hfl : (Op.equalIn 9999 74 (.float .f64 x) (.float .f64 x)).run Tryz.prog w = .ok true w := by rw [show (9999 : Nat) = 9998 + 1 from rfl, float_eq, hx]; rfl
  go_simp
set_option maxRecDepth 100000 in
theorem end_eq (h c e : Int) (w : World) : (Op.equalIn 10000 59 (.agg #[.int .i64 h, .int .i64 c, .int .i64 e]) (.agg #[.int .i64 h, .int .i64 c, .int .i64 e])).run Tryz.prog w = .ok true w := by
  have u3 := Tryz.underlying3
  have a3 := Tryz.isAgg3
  have z3 := Tryz.sizeOf3
  have u4 := Tryz.underlying29
  have a4 := Tryz.isAgg29
  have z4 := Tryz.sizeOf29
  have hS : Tryz.prog.underlying 59 = some (.struct (Tryz.prog.fieldsOf 59)) := by kernel_rfl
  rw [show (10000 : Nat) = 9999 + 1 from rfl, run_equalIn_agg w 9999 59 _ _ hS (by kernel_rfl)]
  simp only [Program.fieldsOf, Tryz.underlying59]
  go_simp
theorem ord7 : FloatKind.f64.format.order 4619567317775286272 4619567317775286272 = some .eq := by kernel_rfl
theorem ord5 : FloatKind.f64.format.order 4617315517961601024 4617315517961601024 = some .eq := by kernel_rfl
theorem ord0 : FloatKind.f64.format.order 0 0 = some .eq := by kernel_rfl
abbrev codeO : Obj := .cells #[.int .i64 1, .int .i64 0, .float .f64 4619567317775286272, .int .i64 1, .int .i64 0, .float .f64 0, .int .i64 17, .int .i64 0, .float .f64 0, .int .i64 1, .int .i64 0, .float .f64 4607182418800017408, .int .i64 16, .int .i64 0, .float .f64 0, .int .i64 18, .int .i64 0, .float .f64 0, .int .i64 20, .int .i64 0, .float .f64 0] 90
abbrev liveW (W : World) : World := ((W.alloc (cfgO 2 1 10 1)).alloc codeO).alloc (prgO 2 (some ⟨W.heap.size + 1, 0, none⟩) 7 7)
theorem liveW_below (W : World) : Below W.heap.size W (liveW W) := ((below_alloc W _).trans ((below_alloc _ _).mono (by simp))).trans ((below_alloc _ _).mono (by simp; omega))
theorem liveW_code (W : World) : CodeAt (liveW W) (some ⟨W.heap.size + 1, 0, none⟩) liveC := by
  have hb : (liveW W).heap[W.heap.size + 1]? = some codeO := (heap_alloc_old _ _ (by simp)).trans (heap_new (by simp))
  have hl := lt_of_block hb
  intro k hk
  refine ⟨W.heap.size + 1, 0, rfl, hl, ?_⟩
  rw [cell_of_row _ _ _ _ _ _ hb, cell_of_row _ _ _ _ _ _ hb, cell_of_row _ _ _ _ _ _ hb]
  match k, hk with
  | 0, _ => exact ⟨rfl, rfl, rfl⟩
  | 1, _ => exact ⟨rfl, rfl, rfl⟩
  | 2, _ => exact ⟨rfl, rfl, rfl⟩
  | 3, _ => exact ⟨rfl, rfl, rfl⟩
  | 4, _ => exact ⟨rfl, rfl, rfl⟩
  | 5, _ => exact ⟨rfl, rfl, rfl⟩
  | 6, _ => exact ⟨rfl, rfl, rfl⟩
  | q + 7, h => exact absurd h (by simp [liveC])
theorem row_first {w : World} {p : Option Addr} {c x : Nat} (h : RowAt 74 w p c (fls [x])) : ∃ g : Nat, ∃ _o : Nat, p = some ⟨g, 0, none⟩ ∧ g < w.heap.size ∧ w.cell? ⟨g, 0, none⟩ = some (.float .f64 x) := by
  rcases h.own.2 with ⟨_, q⟩ | ⟨g, cap, cur, hv, _, hg, _⟩
  · simp [fls] at q
  · cases hv
    exact ⟨g, 0, rfl, lt_of_block hg, World.ownsRow.cells h.own (g := g) rfl 0 _ rfl⟩
theorem ask_box {w : World} {g : Nat} {k : Ask} (h : w.heap[g]? = some (askO k)) : w.cell? ⟨g, 0, none⟩ = some (.int .i64 k.kind) ∧ w.cell? ⟨g, 1, none⟩ = some (.int .i64 k.cell) ∧ w.cell? ⟨g, 2, none⟩ = some (.float .f64 k.x) ∧ w.cell? ⟨g, 3, none⟩ = some (.bool k.first) ∧ g < w.heap.size := (askO_cells h).1
end Go.Proofs.YtaliehikdidiaaaGreatDoor
