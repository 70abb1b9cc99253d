import Derived.Test.YtaliehikdidiaaaGreatDoorC1
import Derived.Test.YtaliehikdidiaaaGreatDoorWalkH
import Derived.Test.YtaliehikdidiaaaGreatDoorY2
import Derived.Laws.FloatArith
import Derived.Laws.FloatBits
import Derived.Test.YtaliehikdidiaaaGreatDoorS2i
import Derived.Test.YtaliehikdidiaaaGreatDoorS2f
import Derived.Test.YtaliehikdidiaaaGreatDoorY5
import Derived.Test.YtaliehikdidiaaaGreatDoorC5
import Derived.Test.YtaliehikdidiaaaGreatDoorY3
import Derived.StillTailTactics
namespace Go.Proofs.YtaliehikdidiaaaGreatDoor
open Go.ChangeShapes Go.WideShapes Go.ChangeAt Go.RowKit Num

/-! a machine as numbers -/
/-- a number as a machine holds it: fixed, of 64 bits -/
def okN (x : Nat) : Prop := fixB x = x ∧ x < 18446744073709551616
theorem fixB_idem (x : Nat) : fixB (fixB x) = fixB x := by
  unfold fixB
  by_cases h : nan x = true
  · rw [if_pos h, if_pos (by decide)]
  · rw [if_neg h, if_neg h]
theorem okN_fix {x : Nat} (h : x < 18446744073709551616) : okN (fixB x) := ⟨fixB_idem x, fixB_lt h⟩
theorem okN_zero : okN 0 := ⟨by decide, by decide⟩
theorem okN_nan : okN 9221120237041090560 := ⟨by decide, by decide⟩
theorem okN_yes (c : Bool) : okN (yesB c) := by cases c <;> exact ⟨by decide, by decide⟩
theorem okN_res {o : Option Nat} (h : ∀ r, o = some r → r < 18446744073709551616) : okN (resV o) := by
  cases o with
  | none => exact okN_nan
  | some r => exact okN_fix (h r rfl)
theorem wf_lt {b : Nat} (h : (Lit.float .f64 b).wf = true) : b < 18446744073709551616 := by simpa [Lit.wf] using h
/-- what One and Two answer -/
def oneV (op : Int) (x : Nat) : Nat := ([0, fixB (fixB x ^^^ 9223372036854775808), fixB (fixB x &&& 9223372036854775807), floorV x, rootV x, yesB (!trueB x), yesB (nan x), signB x, fixB (floatOfInt .f64 (hashI (fixB x)))].getD op.toNat 0)
def twoV (op : Int) (a b : Nat) : Nat := ([0, resV (floatBits .add .f64 a b), resV (floatBits .sub .f64 a b), resV (floatBits .mul .f64 a b), resV (floatBits .quo .f64 a b), modV a b, minV a b, maxV a b, yesB (FloatKind.f64.format.order a b == some .lt), yesB (FloatKind.f64.format.order a b == some .lt || FloatKind.f64.format.order a b == some .eq), yesB (FloatKind.f64.format.order a b == some .eq), yesB (fixB a == fixB b), yesB (decide (cmpB a b < 0))].getD op.toNat 0)
theorem getD_all {P : Nat → Prop} (d : Nat) (hd : P d) : ∀ (l : List Nat), (∀ x ∈ l, P x) → ∀ k, P (l.getD k d)
  | [], _, _ => by simpa using hd
  | a :: l, h, 0 => h a (by simp)
  | a :: l, h, k + 1 => by
    have := getD_all d hd l (fun x hx => h x (by simp [hx])) k
    simpa using this
theorem floatInt_lt (n : Int) : floatOfInt .f64 n < 18446744073709551616 := wf_lt (floatOfInt_wf .f64 n)
theorem okN_floor (x : Nat) : okN (floorV x) := by
  unfold floorV
  split
  · exact okN_nan
  · exact okN_fix (wf_lt (encode_wf .f64 _))
theorem okN_one {x : Nat} (op : Int) (h : okN x) : okN (oneV op x) := by
  refine getD_all 0 okN_zero _ (fun y hy => ?_) _
  simp only [List.mem_cons, List.not_mem_nil, or_false] at hy
  rcases hy with rfl | rfl | rfl | rfl | rfl | rfl | rfl | rfl | rfl
  · exact okN_zero
  · exact okN_fix (Nat.xor_lt_two_pow (n := 64) (fixB_lt h.2) (by decide))
  · exact okN_fix (Nat.lt_of_le_of_lt Nat.and_le_left (fixB_lt h.2))
  · exact okN_floor x
  · exact okN_res fun r hr => FloatKind.f64.format.sqrt_lt hr
  · exact okN_yes _
  · exact okN_yes _
  · unfold signB
    split
    · exact okN_nan
    · split
      · exact ⟨by decide, by decide⟩
      · split
        · exact ⟨by decide, by decide⟩
        · exact h
  · exact okN_fix (floatInt_lt _)
theorem okN_two {x y : Nat} (op : Int) (hx : okN x) (hy : okN y) : okN (twoV op x y) := by
  refine getD_all 0 okN_zero _ (fun z hz => ?_) _
  simp only [List.mem_cons, List.not_mem_nil, or_false] at hz
  rcases hz with rfl | rfl | rfl | rfl | rfl | rfl | rfl | rfl | rfl | rfl | rfl | rfl | rfl
  · exact okN_zero
  · exact okN_res fun r hr => wf_lt (floatBits_wf hr)
  · exact okN_res fun r hr => wf_lt (floatBits_wf hr)
  · exact okN_res fun r hr => wf_lt (floatBits_wf hr)
  · exact okN_res fun r hr => wf_lt (floatBits_wf hr)
  · unfold modV
    split
    · exact okN_fix (floatInt_lt _)
    · exact okN_nan
  · unfold minV
    split
    · exact okN_nan
    · split
      · exact hy
      · exact hx
  · unfold maxV
    split
    · exact okN_nan
    · split
      · exact hy
      · exact hx
  · exact okN_yes _
  · exact okN_yes _
  · exact okN_yes _
  · exact okN_yes _
  · exact okN_yes _
/-- a machine: its stacks with the top first; wait: the cell whose number is wanted, -1: none; its instructions: none, if the program may not be -/
structure Mac where
  cells : Int
  fuel : Int
  wmax : Int
  upd : Bool
  code : List Ins
  args : Nat → Nat
  loc : Nat → Nat
  st : List Nat
  calls : List Int
  place : Int
  used : Int
  out : List Nat
  reads : Wr
  buf : Wr
  wait : Int
  how : Int
  cod : Int
  err : Int
/-- what a step asks -/
structure Ask where
  kind : Int
  cell : Int
  x : Nat
  first : Bool
def ask0 : Ask := ⟨0, 0, 0, false⟩
def askEnd : Ask := ⟨4, 0, 0, false⟩
def askRead (c : Int) : Ask := ⟨1, c, 0, false⟩
def failM (m : Mac) (e : Int) : Mac × Ask := ({ m with how := 3, cod := 0, err := e }, askEnd)
def updF (f : Nat → Nat) (n x : Nat) : Nat → Nat := fun k => if k = n then x else f k
/-- what an instruction takes and lays, how much must be there -/
def takesI (i : Ins) : Int := (shp i.op.toNat).takes
def laysI (i : Ins) : Int := (shp i.op.toNat).lays
def leastI (i : Ins) : Int := if i.op = 5 then i.n + 1 else takesI i
def roomB (m : Mac) (i : Ins) : Bool := decide (leastI i ≤ (m.st.length : Int)) && decide ((m.st.length : Int) - takesI i + laysI i ≤ 64) && !(decide (i.op = 14) && decide (16 ≤ m.calls.length))
/-- the address on top -/
def addrB (m : Mac) : Bool := idxB (m.st.getD 0 0) m.cells
def addrV (m : Mac) : Int := idxV (m.st.getD 0 0) m.cells
def hasRead (m : Mac) (c : Int) (x : Nat) : Mac := { m with reads := m.reads ++ [(c, x)], st := x :: m.st }
def readM (m : Mac) : Mac × Ask :=
  if addrB m then
    if hasC m.buf (addrV m) then (hasRead { m with st := m.st.drop 1 } (addrV m) (getC m.buf (addrV m)), ⟨2, addrV m, getC m.buf (addrV m), false⟩)
    else ({ m with st := m.st.drop 1, wait := addrV m }, askRead (addrV m))
  else failM m 50
def writeM (m : Mac) : Mac × Ask :=
  if m.upd then
    if addrB m then
      if mayP m.wmax m.buf (addrV m) then ({ m with st := m.st.drop 2, buf := putC m.buf (addrV m) (m.st.getD 1 0) }, ⟨3, addrV m, m.st.getD 1 0, !hasC m.buf (addrV m)⟩)
      else failM m 70
    else failM m 50
  else failM m 81
def retM (m : Mac) : Mac × Ask := match m.calls with
  | [] => ({ m with how := 1, cod := 0, err := 0 }, askEnd)
  | c :: r => ({ m with calls := r, place := c }, ask0)
def doT : List (Mac → Ins → Mac × Ask) := [
  fun m _ => (m, ask0),
  fun m i => ({ m with st := fixB i.x :: m.st }, ask0),
  fun m _ => ({ m with st := m.st.drop 1 }, ask0),
  fun m _ => ({ m with st := m.st.getD 0 0 :: m.st }, ask0),
  fun m _ => ({ m with st := m.st.getD 1 0 :: m.st.getD 0 0 :: m.st.drop 2 }, ask0),
  fun m i => ({ m with st := m.st.getD i.n.toNat 0 :: m.st }, ask0),
  fun m i => ({ m with st := m.args i.n.toNat :: m.st }, ask0),
  fun m i => ({ m with st := m.loc i.n.toNat :: m.st }, ask0),
  fun m i => ({ m with loc := updF m.loc i.n.toNat (m.st.getD 0 0), st := m.st.drop 1 }, ask0),
  fun m i => ({ m with st := oneV i.n (m.st.getD 0 0) :: m.st.drop 1 }, ask0),
  fun m i => ({ m with st := twoV i.n (m.st.getD 1 0) (m.st.getD 0 0) :: m.st.drop 2 }, ask0),
  fun m i => ({ m with place := i.n }, ask0),
  fun m i => ({ m with place := if trueB (m.st.getD 0 0) then i.n else m.place, st := m.st.drop 1 }, ask0),
  fun m i => ({ m with place := if trueB (m.st.getD 0 0) then m.place else i.n, st := m.st.drop 1 }, ask0),
  fun m i => ({ m with calls := m.place :: m.calls, place := i.n }, ask0),
  fun m _ => retM m,
  fun m _ => readM m,
  fun m _ => writeM m,
  fun m _ => ({ m with out := m.out ++ [m.st.getD 0 0], st := m.st.drop 1 }, ask0),
  fun m i => ({ m with how := 2, cod := i.n, err := 0 }, askEnd),
  fun m _ => ({ m with how := 1, cod := 0, err := 0 }, askEnd)]
def doM (m : Mac) (i : Ins) : Mac × Ask := (doT.getD i.op.toNat (fun m _ => (m, ask0))) m i
def begM (m : Mac) : Mac := { m with used := m.used + 1, place := m.place + 1 }
def insM (m : Mac) : Ins := ci m.code m.place.toNat
def stepM (m : Mac) : Mac × Ask :=
  if 0 ≤ m.wait then (m, askRead m.wait)
  else if m.how = 0 then
    if m.used < m.fuel then
      if m.place < (m.code.length : Int) then
        if roomB (begM m) (insM m) then doM (begM m) (insM m) else failM (begM m) 82
      else failM m 50
    else failM m 80
  else (m, askEnd)
def giveM (m : Mac) (x : Nat) : Mac := if 0 ≤ m.wait then hasRead { m with wait := -1 } m.wait (fixB x) else m
def giveE (m : Mac) : Int := if 0 ≤ m.wait then 0 else 3
/-- what holds of every machine -/
structure Inv (m : Mac) : Prop where
  cells : 1 ≤ m.cells ∧ m.cells ≤ 256
  fuel : 1 ≤ m.fuel ∧ m.fuel ≤ 1024
  wmax : 1 ≤ m.wmax ∧ m.wmax ≤ 32
  len : m.code.length ≤ 1024
  may : ∀ k, k < m.code.length → mayB (ci m.code k) m.code.length = true ∧ (ci m.code k).x < 18446744073709551616
  args : ∀ k, okN (m.args k)
  loc : ∀ k, okN (m.loc k)
  st : ∀ x ∈ m.st, okN x
  high : (m.st.length : Int) + (if 0 ≤ m.wait then 1 else 0) ≤ 64
  calls : ∀ c ∈ m.calls, 0 ≤ c ∧ c ≤ (m.code.length : Int)
  deep : m.calls.length ≤ 16
  place : 0 ≤ m.place ∧ m.place ≤ (m.code.length : Int)
  used : 0 ≤ m.used ∧ m.used ≤ m.fuel
  out : (m.out.length : Int) ≤ m.used
  reads : (m.reads.length : Int) + (if 0 ≤ m.wait then 1 else 0) ≤ m.used
  buf : ∀ t ∈ m.buf, okN t.2
  few : (m.buf.length : Int) ≤ m.wmax
  wait : -1 ≤ m.wait ∧ m.wait < m.cells
  how : 0 ≤ m.how ∧ m.how ≤ 3
  none : m.upd = false → m.buf = []
  fail : m.how = 3 ↔ m.err ≠ 0
  full : m.err = 80 → m.used = m.fuel
  idle : m.code = [] → m.used = 0
end Go.Proofs.YtaliehikdidiaaaGreatDoor
namespace Go.Proofs.YtaliehikdidiaaaGreatDoor
open Go.ChangeShapes Go.WideShapes Go.ChangeAt Go.RowKit Num

/-! lists of blocks that lie apart -/
def Apart (L : List (List Nat)) : Prop := ∀ i j, i ≠ j → Sep (L.getD i []) (L.getD j [])
theorem getD_set {L : List (List Nat)} {i : Nat} (hi : i < L.length) (F : List Nat) (j : Nat) : (L.set i F).getD j [] = if j = i then F else L.getD j [] := by
  rw [List.getD_eq_getElem?_getD, List.getD_eq_getElem?_getD, List.getElem?_set]
  by_cases h : i = j
  · subst h
    simp [hi]
  · rw [if_neg h, if_neg (fun q => h q.symm)]
theorem Apart.turn {L : List (List Nat)} {i : Nat} {F : List Nat} {w w' : World} (h : Apart L) (hb : ∀ j, Blw w (L.getD j [])) (hi : i < L.length) (k : Turn (L.getD i []) F w w') : Apart (L.set i F) := by
  intro a b hab
  rw [getD_set hi, getD_set hi]
  by_cases h1 : a = i
  · by_cases h2 : b = i
    · exact absurd (h1.trans h2.symm) hab
    · rw [if_pos h1, if_neg h2]
      exact ((h b i h2).turn (hb b) k).symm
  · rw [if_neg h1]
    by_cases h2 : b = i
    · rw [if_pos h2]
      exact (h a i h1).turn (hb a) k
    · rw [if_neg h2]
      exact h a b hab
theorem getD_mem {L : List (List Nat)} {i : Nat} {x : Nat} (h : x ∈ L.getD i []) : x ∈ L.flatten := by
  rw [List.getD_eq_getElem?_getD] at h
  cases hl : L[i]? with
  | none => rw [hl] at h; simp at h
  | some l =>
    rw [hl] at h
    exact List.mem_flatten.2 ⟨l, List.mem_of_getElem? hl, h⟩
theorem Turn.part {L : List (List Nat)} {i : Nat} {F : List Nat} {w w' : World} (k : Turn (L.getD i []) F w w') : Turn L.flatten (L.set i F).flatten w w' :=
  ⟨k.os, k.tape, k.output, k.size, fun x hx hn => k.block x hx (fun q => hn (getD_mem q)), fun x hx => by
    obtain ⟨l, hl, hxl⟩ := List.mem_flatten.1 hx
    rcases List.mem_or_eq_of_mem_set hl with q | q
    · exact .inl (List.mem_flatten.2 ⟨l, q, hxl⟩)
    · subst q
      exact (k.own x hxl).imp getD_mem id⟩
theorem turn_set (w : World) (b j : Nat) (v : Value) : Turn [b] [b] w (w.setCell ⟨b, j, none⟩ v) := ⟨rfl, rfl, rfl, by simp, fun k _ hn => heap_setCell_other _ _ _ _ (by simpa using hn), fun _ h => .inl h⟩
/-- where a machine's parts lie: its instructions (which nobody changes), its stacks of numbers and of places, its buffer, what it emitted, what it read; the cell that it waited for last -/
structure Pt where
  pk : Option Addr
  ck : Nat
  bn : Nat
  bc : Nat
  bw : Nat
  Fn : List Nat
  Fc : List Nat
  Fw : List Nat
  po : Option Addr
  co : Nat
  pr : Option Addr
  cr : Nat
  wt : Int
def Pt.own (p : Pt) (b : Nat) : List (List Nat) := [[b], p.Fn, p.Fc, p.Fw, fpR p.po, fpR p.pr]
def Pt.L (p : Pt) (b : Nat) : List (List Nat) := [[b], p.Fn, p.Fc, p.Fw, fpR p.po, fpR p.pr, fpR p.pk]
def Pt.F (p : Pt) (b : Nat) : List Nat := (p.own b).flatten
def boxV (m : Mac) (p : Pt) : Array Value := #[.int .i64 m.cells, .int .i64 m.fuel, .bool m.upd, .slice p.pk m.code.length p.ck,
  .float .f64 (m.args 0), .float .f64 (m.args 1), .float .f64 (m.args 2), .float .f64 (m.args 3), .float .f64 (m.args 4), .float .f64 (m.args 5), .float .f64 (m.args 6), .float .f64 (m.args 7),
  .float .f64 (m.loc 0), .float .f64 (m.loc 1), .float .f64 (m.loc 2), .float .f64 (m.loc 3), .float .f64 (m.loc 4), .float .f64 (m.loc 5), .float .f64 (m.loc 6), .float .f64 (m.loc 7),
  .pointer (some ⟨p.bn, 0, none⟩), .pointer (some ⟨p.bc, 0, none⟩), .int .i64 m.place, .int .i64 m.used, .slice p.po m.out.length p.co, .slice p.pr m.reads.length p.cr, .pointer (some ⟨p.bw, 0, none⟩),
  .bool (decide (0 ≤ m.wait)), .int .i64 p.wt, .int .i64 m.how, .int .i64 m.cod, .int .i64 m.err]
abbrev NStk (w : World) (b : Nat) (F : List Nat) (l : List Nat) : Prop := Stk 167 74 w b F (fls l) 64
abbrev CStk (w : World) (b : Nat) (F : List Nat) (l : List Int) : Prop := Stk 169 3 w b F (i64s l) 16
theorem CodeAt.keep {w w' : World} {ao : Option Addr} {c : List Ins} (h : CodeAt w ao c) (k : Kept (fpR ao) w w') : CodeAt w' ao c := fun i hi => by
  obtain ⟨b, off, e, hlt, c0, c1, c2⟩ := h i hi
  have hb : w'.heap[b]? = w.heap[b]? := k.2 b (mem_fpR.2 ⟨_, e, rfl⟩)
  exact ⟨b, off, e, Nat.lt_of_lt_of_le hlt k.1, (World.cell?_of_block (a := ⟨b, off + i * 3, none⟩) hb).trans c0, (World.cell?_of_block (a := ⟨b, off + i * 3 + 1, none⟩) hb).trans c1, (World.cell?_of_block (a := ⟨b, off + i * 3 + 2, none⟩) hb).trans c2⟩
structure MacAt (w : World) (b : Nat) (m : Mac) (p : Pt) : Prop where
  box : w.heap[b]? = some (.cells (boxV m p) 138 (0, 0))
  num : NStk w p.bn p.Fn m.st.reverse
  cal : CStk w p.bc p.Fc m.calls.reverse
  wri : Buf w p.bw p.Fw m.wmax m.buf
  out : RowAt 74 w p.po p.co (fls m.out)
  rds : TRow w p.pr p.cr m.reads
  cod : CodeAt w p.pk m.code
  ltk : Blw w (fpR p.pk)
  wt : 0 ≤ m.wait → p.wt = m.wait
  apart : Apart (p.L b)
section
variable {w w' : World} {b : Nat} {m : Mac} {p : Pt}
theorem MacAt.ltB (h : MacAt w b m p) : b < w.heap.size := lt_of_block h.box
theorem MacAt.blws (h : MacAt w b m p) : ∀ j, Blw w ((p.L b).getD j []) := fun j => by
  match j with
  | 0 => intro k hk; have : k = b := by simpa [Pt.L] using hk
         rw [this]; exact h.ltB
  | 1 => exact h.num.blw
  | 2 => exact h.cal.blw
  | 3 => exact h.wri.blw
  | 4 => exact h.out.blw
  | 5 => exact h.rds.blw
  | 6 => exact h.ltk
  | n + 7 => intro k hk; simp [Pt.L] at hk
theorem own_in {x j : Nat} (hj : j < 6) (h : x ∈ (p.L b).getD j []) : x ∈ p.F b := by
  have e : (p.L b).getD j [] = (p.own b).getD j [] := by
    match j, hj with
    | 0, _ => rfl
    | 1, _ => rfl
    | 2, _ => rfl
    | 3, _ => rfl
    | 4, _ => rfl
    | 5, _ => rfl
  rw [e] at h
  exact getD_mem h
theorem in_own {x : Nat} (h : x ∈ p.F b) : ∃ j, j < 6 ∧ x ∈ (p.L b).getD j [] := by
  simp only [Pt.F, Pt.own, List.flatten_cons, List.flatten_nil, List.mem_append, List.append_nil] at h
  rcases h with h | h | h | h | h | h
  · exact ⟨0, by omega, h⟩
  · exact ⟨1, by omega, h⟩
  · exact ⟨2, by omega, h⟩
  · exact ⟨3, by omega, h⟩
  · exact ⟨4, by omega, h⟩
  · exact ⟨5, by omega, h⟩
theorem MacAt.blw (h : MacAt w b m p) : Blw w (p.F b) := fun k hk => by
  obtain ⟨j, _, hj⟩ := in_own hk
  exact h.blws j k hj
theorem MacAt.sepK (h : MacAt w b m p) : Sep (fpR p.pk) (p.F b) := fun k hk q => by
  obtain ⟨j, hj, hq⟩ := in_own q
  exact h.apart 6 j (by omega) k hk hq
theorem MacAt.keep (h : MacAt w b m p) (k : Kept (p.F b) w w') (k2 : Kept (fpR p.pk) w w') : MacAt w' b m p := by
  have kk : ∀ j, j < 6 → Kept ((p.L b).getD j []) w w' := fun j hj => ⟨k.1, fun i hi => k.2 i (own_in hj hi)⟩
  exact ⟨((kk 0 (by omega)).2 b (by simp [Pt.L])).trans h.box, h.num.keep (kk 1 (by omega)), h.cal.keep (kk 2 (by omega)), h.wri.keep (kk 3 (by omega)), h.out.keep (kk 4 (by omega)), h.rds.keep (kk 5 (by omega)), h.cod.keep k2, fun x hx => Nat.lt_of_lt_of_le (h.ltk x hx) k2.1, h.wt, h.apart⟩
theorem MacAt.same (h : MacAt w b m p) (k : Same w w') : MacAt w' b m p := h.keep (k.kept _) (k.kept _)
theorem MacAt.on (h : MacAt w b m p) (k : Below w.heap.size w w') : MacAt w' b m p := h.keep (kept_below k h.blw) (kept_below k h.ltk)
/-- a turn of one part leaves the others -/
theorem MacAt.others (h : MacAt w b m p) {i : Nat} {F' : List Nat} (t : Turn ((p.L b).getD i []) F' w w') : ∀ j, j ≠ i → Kept ((p.L b).getD j []) w w' := fun j hj => t.kept (h.apart j i hj) (h.blws j)
theorem MacAt.ltk' (h : MacAt w b m p) (k : w.heap.size ≤ w'.heap.size) : Blw w' (fpR p.pk) := fun x hx => Nat.lt_of_lt_of_le (h.ltk x hx) k
theorem MacAt.putN (h : MacAt w b m p) {s : List Nat} {F' : List Nat} (hs : NStk w' p.bn F' s.reverse) (t : Turn p.Fn F' w w') : MacAt w' b { m with st := s } { p with Fn := F' } ∧ Turn (p.F b) ({ p with Fn := F' }.F b) w w' := by
  have kk := h.others (i := 1) t
  exact ⟨⟨((kk 0 (by omega)).2 b (by simp [Pt.L])).trans h.box, hs, h.cal.keep (kk 2 (by omega)), h.wri.keep (kk 3 (by omega)), h.out.keep (kk 4 (by omega)), h.rds.keep (kk 5 (by omega)), h.cod.keep (kk 6 (by omega)), h.ltk' t.size, h.wt, h.apart.turn (i := 1) h.blws (by simp [Pt.L]) t⟩, Turn.part (L := p.own b) (i := 1) t⟩
theorem MacAt.putC (h : MacAt w b m p) {s : List Int} {F' : List Nat} (hs : CStk w' p.bc F' s.reverse) (t : Turn p.Fc F' w w') : MacAt w' b { m with calls := s } { p with Fc := F' } ∧ Turn (p.F b) ({ p with Fc := F' }.F b) w w' := by
  have kk := h.others (i := 2) t
  exact ⟨⟨((kk 0 (by omega)).2 b (by simp [Pt.L])).trans h.box, h.num.keep (kk 1 (by omega)), hs, h.wri.keep (kk 3 (by omega)), h.out.keep (kk 4 (by omega)), h.rds.keep (kk 5 (by omega)), h.cod.keep (kk 6 (by omega)), h.ltk' t.size, h.wt, h.apart.turn (i := 2) h.blws (by simp [Pt.L]) t⟩, Turn.part (L := p.own b) (i := 2) t⟩
theorem MacAt.putW (h : MacAt w b m p) {s : Wr} {F' : List Nat} (hs : Buf w' p.bw F' m.wmax s) (t : Turn p.Fw F' w w') : MacAt w' b { m with buf := s } { p with Fw := F' } ∧ Turn (p.F b) ({ p with Fw := F' }.F b) w w' := by
  have kk := h.others (i := 3) t
  exact ⟨⟨((kk 0 (by omega)).2 b (by simp [Pt.L])).trans h.box, h.num.keep (kk 1 (by omega)), h.cal.keep (kk 2 (by omega)), hs, h.out.keep (kk 4 (by omega)), h.rds.keep (kk 5 (by omega)), h.cod.keep (kk 6 (by omega)), h.ltk' t.size, h.wt, h.apart.turn (i := 3) h.blws (by simp [Pt.L]) t⟩, Turn.part (L := p.own b) (i := 3) t⟩
/-- a store into its own block, of a field that is no part -/
theorem MacAt.set (h : MacAt w b m p) (j : Nat) (v : Value) (m' : Mac) (z : Int) (e : (boxV m p).setIfInBounds j v = boxV m' { p with wt := z }) (e1 : m'.st = m.st ∧ m'.calls = m.calls ∧ m'.wmax = m.wmax ∧ m'.buf = m.buf ∧ m'.out = m.out ∧ m'.reads = m.reads ∧ m'.code = m.code) (hz : 0 ≤ m'.wait → z = m'.wait) :
    MacAt (w.setCell ⟨b, j, none⟩ v) b m' { p with wt := z } ∧ Turn (p.F b) ({ p with wt := z }.F b) w (w.setCell ⟨b, j, none⟩ v) := by
  have t := turn_set w b j v
  have kk := h.others (i := 0) t
  obtain ⟨f1, f2, f3, f4, f5, f6, f7⟩ := e1
  refine ⟨⟨?_, by rw [f1]; exact h.num.keep (kk 1 (by omega)), by rw [f2]; exact h.cal.keep (kk 2 (by omega)), by rw [f3, f4]; exact h.wri.keep (kk 3 (by omega)), by rw [f5]; exact h.out.keep (kk 4 (by omega)), by rw [f6]; exact h.rds.keep (kk 5 (by omega)), by rw [f7]; exact h.cod.keep (kk 6 (by omega)), h.ltk' t.size, hz, h.apart⟩, Turn.part (L := p.own b) (i := 0) t⟩
  rw [← e]
  exact heap_setCell_same w b j _ _ v h.box
/-- a number emitted: behind append, and the store of the field -/
theorem MacAt.putO (h : MacAt w b m p) {w3 : World} {v : Value} {x : Nat} (hown : w3.ownsRow 0 74 1 v (m.out.length + 1) (fls m.out ++ [.float .f64 x])) (hg : w.grownBy w3 (Value.slice p.po m.out.length p.co).ownBlock) (hat : v.ownBlock = (Value.slice p.po m.out.length p.co).ownBlock ∨ ∃ s, v.ownBlock = some s ∧ w.heap.size ≤ s) :
    ∃ p' c', v = .slice p' (m.out.length + 1) c' ∧ w3.heap[b]? = some (.cells (boxV m p) 138 (0, 0)) ∧ MacAt (w3.setCell ⟨b, 24, none⟩ v) b { m with out := m.out ++ [x] } { p with po := p', co := c' } ∧ Turn (p.F b) ({ p with po := p', co := c' }.F b) w (w3.setCell ⟨b, 24, none⟩ v) := by
  obtain ⟨p', c', rfl, hr⟩ := ownsRow_slice hown
  have hl : (fls m.out ++ [Value.float .f64 x]).length = m.out.length + 1 := by simp [fls_len]
  rw [hl] at hat ⊢
  have ho : ∀ k, k ∈ fpR p' → k ∈ fpR p.po ∨ w.heap.size ≤ k := by
    rcases hat with q | ⟨s, q, hs⟩
    · exact own_at (s := w.heap.size) (.inl q) (Nat.le_refl _)
    · exact own_at (n := m.out.length) (c := p.co) (.inr q) hs
  have t : Turn (fpR p.po) (fpR p') w w3 := ⟨hg.os, hg.tape, hg.output, hg.size, fun k hk hn => hg.block k hk (fun q => hn (own_fpR.2 q.symm)), ho⟩
  have kk := h.others (i := 4) t
  have hbox : w3.heap[b]? = _ := ((kk 0 (by omega)).2 b (by simp [Pt.L])).trans h.box
  have ap : Apart ({ p with po := p', co := c' }.L b) := h.apart.turn (i := 4) h.blws (by simp [Pt.L]) t
  have t2 := turn_set w3 b 24 (.slice p' (m.out.length + 1) c')
  have k2 : ∀ F, Blw w3 F → Sep F [b] → Kept F w3 (w3.setCell ⟨b, 24, none⟩ (.slice p' (m.out.length + 1) c')) := fun F hb hs => t2.kept hs hb
  refine ⟨p', c', rfl, hbox, ⟨?_, ?_, ?_, ?_, ?_, ?_, ?_, ?_, h.wt, ap⟩, (Turn.part (L := p.own b) (i := 4) t).trans (Turn.part (L := Pt.own { p with po := p', co := c' } b) (i := 0) t2)⟩
  · refine (heap_setCell_same w3 b 24 _ _ _ hbox).trans ?_
    have : (m.out ++ [x]).length = m.out.length + 1 := by simp
    unfold boxV
    rw [this]
    rfl
  · exact (h.num.keep (kk 1 (by omega))).keep (k2 _ (h.num.keep (kk 1 (by omega))).blw (ap 1 0 (by omega)))
  · exact (h.cal.keep (kk 2 (by omega))).keep (k2 _ (h.cal.keep (kk 2 (by omega))).blw (ap 2 0 (by omega)))
  · exact (h.wri.keep (kk 3 (by omega))).keep (k2 _ (h.wri.keep (kk 3 (by omega))).blw (ap 3 0 (by omega)))
  · rw [fls_snoc]
    exact hr.keep (k2 _ hr.blw (ap 4 0 (by omega)))
  · exact (h.rds.keep (kk 5 (by omega))).keep (k2 _ (h.rds.keep (kk 5 (by omega))).blw (ap 5 0 (by omega)))
  · exact (h.cod.keep (kk 6 (by omega))).keep (k2 _ (h.ltk' t.size) (ap 6 0 (by omega)))
  · exact h.ltk' (Nat.le_trans t.size t2.size)
/-- a cell with its number read: behind append, and the store of the field -/
theorem MacAt.putR (h : MacAt w b m p) {w3 : World} {v : Value} {d : Int} {x : Nat} (hown : w3.ownsRow 0 123 2 v (m.reads.length + 1) (m.reads.flatMap tchC ++ [.int .i64 d, .float .f64 x])) (hg : w.grownBy w3 (Value.slice p.pr m.reads.length p.cr).ownBlock) (hat : v.ownBlock = (Value.slice p.pr m.reads.length p.cr).ownBlock ∨ ∃ s, v.ownBlock = some s ∧ w.heap.size ≤ s) :
    ∃ p' c', v = .slice p' (m.reads.length + 1) c' ∧ w3.heap[b]? = some (.cells (boxV m p) 138 (0, 0)) ∧ MacAt (w3.setCell ⟨b, 25, none⟩ v) b { m with reads := m.reads ++ [(d, x)] } { p with pr := p', cr := c' } ∧ Turn (p.F b) ({ p with pr := p', cr := c' }.F b) w (w3.setCell ⟨b, 25, none⟩ v) := by
  obtain ⟨p', c', rfl, _⟩ := owns_slice2 hown
  have hl : (m.reads ++ [(d, x)]).length = m.reads.length + 1 := by simp
  have hr : TRow w3 p' c' (m.reads ++ [(d, x)]) := ⟨by rw [hl, List.flatMap_append]; simpa [tchC] using hown⟩
  have ho : ∀ k, k ∈ fpR p' → k ∈ fpR p.pr ∨ w.heap.size ≤ k := by
    rcases hat with q | ⟨s, q, hs⟩
    · exact own_at (s := w.heap.size) (.inl q) (Nat.le_refl _)
    · exact own_at (n := m.reads.length) (c := p.cr) (.inr q) hs
  have t : Turn (fpR p.pr) (fpR p') w w3 := ⟨hg.os, hg.tape, hg.output, hg.size, fun k hk hn => hg.block k hk (fun q => hn (own_fpR.2 q.symm)), ho⟩
  have kk := h.others (i := 5) t
  have hbox : w3.heap[b]? = _ := ((kk 0 (by omega)).2 b (by simp [Pt.L])).trans h.box
  have ap : Apart ({ p with pr := p', cr := c' }.L b) := h.apart.turn (i := 5) h.blws (by simp [Pt.L]) t
  have t2 := turn_set w3 b 25 (.slice p' (m.reads.length + 1) c')
  have k2 : ∀ F, Blw w3 F → Sep F [b] → Kept F w3 (w3.setCell ⟨b, 25, none⟩ (.slice p' (m.reads.length + 1) c')) := fun F hb hs => t2.kept hs hb
  refine ⟨p', c', rfl, hbox, ⟨?_, ?_, ?_, ?_, ?_, ?_, ?_, ?_, h.wt, ap⟩, (Turn.part (L := p.own b) (i := 5) t).trans (Turn.part (L := Pt.own { p with pr := p', cr := c' } b) (i := 0) t2)⟩
  · refine (heap_setCell_same w3 b 25 _ _ _ hbox).trans ?_
    unfold boxV
    rw [hl]
    rfl
  · exact (h.num.keep (kk 1 (by omega))).keep (k2 _ (h.num.keep (kk 1 (by omega))).blw (ap 1 0 (by omega)))
  · exact (h.cal.keep (kk 2 (by omega))).keep (k2 _ (h.cal.keep (kk 2 (by omega))).blw (ap 2 0 (by omega)))
  · exact (h.wri.keep (kk 3 (by omega))).keep (k2 _ (h.wri.keep (kk 3 (by omega))).blw (ap 3 0 (by omega)))
  · exact (h.out.keep (kk 4 (by omega))).keep (k2 _ (h.out.keep (kk 4 (by omega))).blw (ap 4 0 (by omega)))
  · exact hr.keep (k2 _ hr.blw (ap 5 0 (by omega)))
  · exact (h.cod.keep (kk 6 (by omega))).keep (k2 _ (h.ltk' t.size) (ap 6 0 (by omega)))
  · exact h.ltk' (Nat.le_trans t.size t2.size)
end
/-- a machine, its blocks F, its instructions' K -/
def Mc (w : World) (b : Nat) (F K : List Nat) (m : Mac) : Prop := ∃ p, MacAt w b m p ∧ F = p.F b ∧ K = fpR p.pk
/-- a machine in the midst of a call that began at W, with the blocks F0 -/
def Gm (W : World) (F0 : List Nat) (b : Nat) (K : List Nat) (w : World) (m : Mac) : Prop := ∃ p, MacAt w b m p ∧ Turn F0 (p.F b) W w ∧ K = fpR p.pk
section
variable {W w w' : World} {b : Nat} {F F0 K : List Nat} {m : Mac}
theorem Mc.gm (h : Mc w b F K m) : Gm w F b K w m := by
  obtain ⟨p, h1, rfl, h3⟩ := h
  exact ⟨p, h1, Turn.refl _ _, h3⟩
theorem Gm.mc (h : Gm W F0 b K w m) : ∃ F', Mc w b F' K m ∧ Turn F0 F' W w := by
  obtain ⟨p, h1, h2, h3⟩ := h
  exact ⟨_, ⟨p, h1, rfl, h3⟩, h2⟩
theorem Gm.trans {w0 : World} {F1 : List Nat} (h : Gm w0 F1 b K w m) (t : Turn F0 F1 W w0) : Gm W F0 b K w m := by
  obtain ⟨p, h1, h2, h3⟩ := h
  exact ⟨p, h1, t.trans h2, h3⟩
theorem Gm.same (h : Gm W F0 b K w m) (k : Same w w') : Gm W F0 b K w' m := by
  obtain ⟨p, h1, h2, h3⟩ := h
  exact ⟨p, h1.same k, h2.trans (k.turn _), h3⟩
theorem Gm.on (h : Gm W F0 b K w m) (k : Below w.heap.size w w') : Gm W F0 b K w' m := by
  obtain ⟨p, h1, h2, h3⟩ := h
  exact ⟨p, h1.on k, h2.trans (Below.turn k _), h3⟩
theorem Gm.alloc (h : Gm W F0 b K w m) (x : Obj) : Gm W F0 b K (w.alloc x) m := h.on (below_alloc _ x)
theorem Gm.set (h : Gm W F0 b K w m) (j : Nat) (v : Value) (m' : Mac) (e : ∀ p, (0 ≤ m.wait → p.wt = m.wait) → ∃ z, (boxV m p).setIfInBounds j v = boxV m' { p with wt := z } ∧ (0 ≤ m'.wait → z = m'.wait)) (e1 : m'.st = m.st ∧ m'.calls = m.calls ∧ m'.wmax = m.wmax ∧ m'.buf = m.buf ∧ m'.out = m.out ∧ m'.reads = m.reads ∧ m'.code = m.code) : Gm W F0 b K (w.setCell ⟨b, j, none⟩ v) m' := by
  obtain ⟨p, h1, h2, h3⟩ := h
  obtain ⟨z, hz, hz2⟩ := e p h1.wt
  obtain ⟨q1, q2⟩ := h1.set j v m' z hz e1 hz2
  exact ⟨{ p with wt := z }, q1, h2.trans q2, h3⟩
theorem Mc.blw (h : Mc w b F K m) : Blw w F := by obtain ⟨p, h1, rfl, rfl⟩ := h; exact h1.blw
theorem Mc.blwK (h : Mc w b F K m) : Blw w K := by obtain ⟨p, h1, rfl, rfl⟩ := h; exact h1.ltk
theorem Mc.sepK (h : Mc w b F K m) : Sep K F := by obtain ⟨p, h1, rfl, rfl⟩ := h; exact h1.sepK
theorem Mc.keep (h : Mc w b F K m) (k : Kept F w w') (k2 : Kept K w w') : Mc w' b F K m := by obtain ⟨p, h1, rfl, rfl⟩ := h; exact ⟨p, h1.keep k k2, rfl, rfl⟩
theorem Mc.same (h : Mc w b F K m) (k : Same w w') : Mc w' b F K m := h.keep (k.kept _) (k.kept _)
theorem Mc.on (h : Mc w b F K m) (k : Below w.heap.size w w') : Mc w' b F K m := h.keep (kept_below k h.blw) (kept_below k h.blwK)
theorem Mc.turn {G G' : List Nat} (h : Mc w b F K m) (k : Turn G G' w w') (s : Sep F G) (s2 : Sep K G) : Mc w' b F K m := h.keep (k.kept s h.blw) (k.kept s2 h.blwK)
theorem Gm.ltB (h : Gm W F0 b K w m) : b < w.heap.size := by obtain ⟨p, h1, _⟩ := h; exact h1.ltB
theorem Gm.free (h : Gm W F0 b K w m) (j : Nat) : w.frozen? ⟨b, j, none⟩ = false := by obtain ⟨p, h1, _⟩ := h; exact frozen_of_row w b j _ _ h1.box
end
theorem MacAt.cell {w : World} {b : Nat} {m : Mac} {p : Pt} (h : MacAt w b m p) (j : Nat) : w.cell? ⟨b, j, none⟩ = (boxV m p)[j]? := cell_of_row w b j _ _ _ h.box
theorem MacAt.free {w : World} {b : Nat} {m : Mac} {p : Pt} (h : MacAt w b m p) (j : Nat) : w.frozen? ⟨b, j, none⟩ = false := frozen_of_row w b j _ _ h.box
end Go.Proofs.YtaliehikdidiaaaGreatDoor
namespace Go.Proofs.YtaliehikdidiaaaGreatDoor
open Go.ChangeShapes Go.WideShapes Go.ChangeAt Go.RowKit Num
attribute [local go_sem] run_store_float

/-- it gave up, with this error -/
abbrev gaveM (e : Int) : Ending := .panicked [{ v := .iface 29 (.int .i64 e), recovered := false }]
theorem mustBe_no {c : Bool} (hc : c = false) (e : Int) (w : World) : Calls Tryz.prog 145 #[.bool c, .int .i64 e] w fun r w' => r = gaveM e ∧ w' = w := by
  subst hc
  go_enter Tryz.func145, Tryz.ntmps145
  go_wp2
  exact ⟨rfl, rfl, rfl⟩
theorem mustBe_yes {c : Bool} (hc : c = true) (e : Int) (w : World) : Calls Tryz.prog 145 #[.bool c, .int .i64 e] w fun r w' => r = .returned (.tuple #[]) ∧ w' = w := by
  subst hc
  go_enter Tryz.func145, Tryz.ntmps145
  go_wp2
  go_end0
  exact ⟨rfl, rfl⟩
theorem heap_new {w : World} {o : Obj} {g : Nat} (h : g = w.heap.size) : (w.alloc o).heap[g]? = some o := by rw [h]; exact heap_alloc_new _ _
theorem rev_at (l : List Nat) (k : Nat) (h : k < l.length) : l.reverse[l.length - 1 - k]? = some (l.getD k 0) := by
  rw [List.getElem?_reverse (by omega), show l.length - 1 - (l.length - 1 - k) = k by omega, List.getD_eq_getElem?_getD, List.getElem?_eq_getElem h]
  rfl
section
variable {W w : World} {b : Nat} {F0 K : List Nat} {m : Mac}
set_option maxRecDepth 100000 in
theorem take_any (h : Gm W F0 b K w m) {x : Nat} {s : List Nat} (hs : m.st = x :: s) : Calls Tryz.prog 157 #[.pointer (some ⟨b, 0, none⟩)] w fun e w' => e = .returned (.float .f64 x) ∧ Gm W F0 b K w' { m with st := s } := by
  obtain ⟨p, hm, ht, hk⟩ := h
  have h20 : w.cell? ⟨b, 20, none⟩ = some (.pointer (some ⟨p.bn, 0, none⟩)) := (hm.cell 20).trans rfl
  have hb := hm.ltB
  have HP := Lib.hid (fPop_some (m := s.reverse) (x := x) (by have := hm.num; rw [hs, List.reverse_cons] at this; exact this))
  have HD : Hid (∀ F' w', NStk w' p.bn F' s.reverse → Turn p.Fn F' w w' → Gm W F0 b K w' { m with st := s }) := fun F' w' q1 q2 => by
    obtain ⟨a1, a2⟩ := hm.putN q1 q2
    exact ⟨_, a1, ht.trans a2, hk⟩
  clear hm ht hk
  go_enter Tryz.func157, Tryz.ntmps157
  go_wp2_with (go_at_call 170; refine HP.out.mono ?_; rintro e w1 ⟨F', rfl, q1, q2⟩; have HQ := Lib.hid (HD.out _ _ q1 q2); clear q1 q2 HD HP)
  go_ret
  exact ⟨rfl, HQ.out⟩
set_option maxRecDepth 100000 in
theorem lay_any (h : Gm W F0 b K w m) (x : Nat) (hs : m.st.length < 64) : Calls Tryz.prog 146 #[.pointer (some ⟨b, 0, none⟩), .float .f64 x] w fun e w' => e = .returned (.tuple #[]) ∧ Gm W F0 b K w' { m with st := x :: m.st } := by
  obtain ⟨p, hm, ht, hk⟩ := h
  have h20 : w.cell? ⟨b, 20, none⟩ = some (.pointer (some ⟨p.bn, 0, none⟩)) := (hm.cell 20).trans rfl
  have hb := hm.ltB
  have hlt : ((m.st.reverse.length : Nat) : Int) < 64 := by rw [List.length_reverse]; omega
  have HP := Lib.hid (fPush_any hm.num x)
  rw [show pushL m.st.reverse 64 x = (x :: m.st).reverse by simp [pushL]; omega] at HP
  have HD : Hid (∀ F' w', NStk w' p.bn F' (x :: m.st).reverse → Turn p.Fn F' w w' → Gm W F0 b K w' { m with st := x :: m.st }) := fun F' w' q1 q2 => by
    obtain ⟨a1, a2⟩ := hm.putN q1 q2
    exact ⟨_, a1, ht.trans a2, hk⟩
  clear hm ht hk hlt
  go_enter Tryz.func146, Tryz.ntmps146
  go_wp2_with (go_at_call 166; refine HP.out.mono ?_; rintro e w1 ⟨F', rfl, q1, q2⟩; have HQ := Lib.hid (HD.out _ _ q1 q2); clear q1 q2 HD HP)
  go_end0
  exact ⟨rfl, HQ.out⟩
set_option maxRecDepth 100000 in
theorem pick_any (h : Gm W F0 b K w m) (k : Nat) (hs : k < m.st.length) : Calls Tryz.prog 159 #[.pointer (some ⟨b, 0, none⟩), .int .i64 k] w fun e w' => e = .returned (.float .f64 (m.st.getD k 0)) ∧ ∃ q, w' = w.drewN q := by
  obtain ⟨p, hm, ht, hk⟩ := h
  have h20 : w.cell? ⟨b, 20, none⟩ = some (.pointer (some ⟨p.bn, 0, none⟩)) := (hm.cell 20).trans rfl
  have hb := hm.ltB
  have HP := Lib.hid (fPick_drew hm.num k (m.st.length - 1 - k) (by rw [List.length_reverse]; omega) _ (rev_at m.st k hs))
  clear hm ht hk hs
  go_enter Tryz.func159, Tryz.ntmps159
  go_wp2_with (go_at_call 171; refine HP.out.mono ?_; rintro e w1 ⟨rfl, q, hq⟩; subst w1; clear HP)
  go_ret
  exact ⟨rfl, q, rfl⟩
def askV (a : Ask) : Value := .agg #[.int .i64 a.kind, .int .i64 a.cell, .float .f64 a.x, .bool a.first]
theorem ask_back {fn : Func} {p : Tmp} (h : fn.results = #[.cell p 141]) {R : Ending → World → Prop} {a : Act} {w : World} (g : Nat) (k : Ask) (hp : a.tmps.getD p undef = .pointer (some ⟨g, 0, none⟩))
    (hg : w.heap[g]? = some (.cells #[.int .i64 k.kind, .int .i64 k.cell, .float .f64 k.x, .bool k.first] 141 (0, 0))) (hd : a.defers = []) (hR : R (.returned (askV k)) w) : bodyPost Tryz.prog fn R .ret a w :=
  bodyPost_ret (results_cell_row h _ _ g _ _ _ _ hp hg Tryz.underlying141 rfl (by kernel_rfl)) hd hR
set_option maxRecDepth 100000 in
theorem wants_any (h : Gm W F0 b K w m) (hw : 0 ≤ m.wait) : Calls Tryz.prog 123 #[.pointer (some ⟨b, 0, none⟩)] w fun e w' => e = .returned (askV (askRead m.wait)) ∧ Below w.heap.size w w' := by
  obtain ⟨p, hm, ht, hk⟩ := h
  have h28 : w.cell? ⟨b, 28, none⟩ = some (.int .i64 m.wait) := by rw [← hm.wt hw]; exact (hm.cell 28).trans rfl
  have hb := hm.ltB
  have HB := Lib.hid (fun x => below_alloc w x)
  clear hm ht hk hw
  go_enter Tryz.func123, Tryz.ntmps123
  go_wp2
  refine ask_back rfl w.heap.size (askRead m.wait) rfl (heap_alloc_new _ _) rfl ⟨rfl, HB.out _⟩
set_option maxRecDepth 100000 in
theorem ends_any (h : Gm W F0 b K w m) (o c e : Int) : Calls Tryz.prog 125 #[.pointer (some ⟨b, 0, none⟩), .agg #[.int .i64 o, .int .i64 c, .int .i64 e]] w fun r w' => r = .returned (askV askEnd) ∧ Gm W F0 b K w' { m with how := o, cod := c, err := e } := by
  have hb := h.ltB
  obtain ⟨p, hm, _, _⟩ := id h
  have h29 : w.cell? ⟨b, 29, none⟩ = some (.int .i64 m.how) := (hm.cell 29).trans rfl
  have h30 : w.cell? ⟨b, 30, none⟩ = some (.int .i64 m.cod) := (hm.cell 30).trans rfl
  have h31 : w.cell? ⟨b, 31, none⟩ = some (.int .i64 m.err) := (hm.cell 31).trans rfl
  have f29 := hm.free 29
  have f30 := hm.free 30
  have f31 := hm.free 31
  clear hm
  have HD : Hid (Gm W F0 b K (((w.setCell ⟨b, 29, none⟩ (.int .i64 o)).setCell ⟨b, 30, none⟩ (.int .i64 c)).setCell ⟨b, 31, none⟩ (.int .i64 e)) { m with how := o, cod := c, err := e }) := by
    have g1 := h.set 29 (.int .i64 o) { m with how := o } (fun p hp => ⟨p.wt, rfl, hp⟩) ⟨rfl, rfl, rfl, rfl, rfl, rfl, rfl⟩
    have g2 := g1.set 30 (.int .i64 c) { m with how := o, cod := c } (fun p hp => ⟨p.wt, rfl, hp⟩) ⟨rfl, rfl, rfl, rfl, rfl, rfl, rfl⟩
    exact g2.set 31 (.int .i64 e) { m with how := o, cod := c, err := e } (fun p hp => ⟨p.wt, rfl, hp⟩) ⟨rfl, rfl, rfl, rfl, rfl, rfl, rfl⟩
  clear h
  go_enter Tryz.func125, Tryz.ntmps125
  go_wp2
  exact ask_back rfl (w.heap.size + 1) askEnd rfl (heap_new (by simp)) rfl ⟨rfl, (HD.out.alloc _).alloc _⟩
end
/-- of a machine: what lies in a block that is none of its own is as it was -/
theorem Gm.far {W w : World} {b : Nat} {F0 K : List Nat} {m : Mac} (h : Gm W F0 b K w m) {g : Nat} (hg : g < W.heap.size) (hn : g ∉ F0) : w.heap[g]? = W.heap[g]? := by
  obtain ⟨p, _, h2, _⟩ := h
  exact h2.block g hg hn
section
variable {W w : World} {b : Nat} {F0 K : List Nat} {m : Mac}
set_option maxRecDepth 100000 in
theorem used_any (h : Gm W F0 b K w m) : Calls Tryz.prog 98 #[.pointer (some ⟨b, 0, none⟩)] w fun e w' => e = .returned (.int .i64 m.used) ∧ w' = w := by
  obtain ⟨p, hm, ht, hk⟩ := h
  have h20 : w.cell? ⟨b, 23, none⟩ = some (.int .i64 m.used) := (hm.cell 23).trans rfl
  have hb := hm.ltB
  clear hm ht hk
  go_enter Tryz.func98, Tryz.ntmps98
  go_wp2
  go_ret
  exact ⟨rfl, rfl⟩
set_option maxRecDepth 100000 in
theorem writes_any (h : Gm W F0 b K w m) : Calls Tryz.prog 51 #[.pointer (some ⟨b, 0, none⟩)] w fun e w' => e = .returned (.slice (some ⟨w.heap.size, 0, none⟩) m.buf.length m.buf.length) ∧ TRow w' (some ⟨w.heap.size, 0, none⟩) m.buf.length m.buf ∧ Below w.heap.size w w' := by
  obtain ⟨p, hm, ht, hk⟩ := h
  have h20 : w.cell? ⟨b, 26, none⟩ = some (.pointer (some ⟨p.bw, 0, none⟩)) := (hm.cell 26).trans rfl
  have hb := hm.ltB
  have HP := Lib.hid (all_any hm.wri)
  clear hm ht hk
  go_enter Tryz.func51, Tryz.ntmps51
  go_wp2_with (go_at_call 95; refine HP.out.mono ?_; rintro e w1 ⟨rfl, q1, q2⟩; have HQ := Lib.hid (And.intro q1 q2); clear q1 q2 HP)
  go_ret
  exact ⟨rfl, HQ.out.1, HQ.out.2⟩
def endV (m : Mac) : Value := .agg #[.int .i64 m.how, .int .i64 m.cod, .int .i64 m.err]
set_option maxRecDepth 100000 in
theorem end_any (h : Gm W F0 b K w m) : Calls Tryz.prog 49 #[.pointer (some ⟨b, 0, none⟩)] w fun e w' => e = .returned (endV m) ∧ Below w.heap.size w w' := by
  obtain ⟨p, hm, ht, hk⟩ := h
  have h29 : w.cell? ⟨b, 29, none⟩ = some (.int .i64 m.how) := (hm.cell 29).trans rfl
  have h30 : w.cell? ⟨b, 30, none⟩ = some (.int .i64 m.cod) := (hm.cell 30).trans rfl
  have h31 : w.cell? ⟨b, 31, none⟩ = some (.int .i64 m.err) := (hm.cell 31).trans rfl
  have hb := hm.ltB
  have HB := Lib.hid (fun x => below_alloc w x)
  clear hm ht hk
  go_enter Tryz.func49, Tryz.ntmps49
  go_wp2
  exact bodyPost_ret (results_cell_row rfl _ _ w.heap.size _ _ _ _ rfl (heap_alloc_new _ _) Tryz.underlying59 rfl (by kernel_rfl)) rfl ⟨rfl, HB.out _⟩
end
end Go.Proofs.YtaliehikdidiaaaGreatDoor
