import Derived.Test.YtpimfhkigbcniaaW4
namespace Go.Proofs.Ytpimfhkigbcniaa.Bo
open Go.ChangeShapes Go.WideShapes Go.ChangeAt Go.RowKit Go.Shelf Md En
attribute [local go_sem] Oper.semAt_some

set_option maxRecDepth 100000 in
set_option maxHeartbeats 1000000 in
theorem excesses1_nil (n l Bl cap : Nat) (b c : Value) (p : Option Addr) (J : List (Int × Int) → World → Prop) (W : World) (hBs : W.cell? ⟨Bl, 0, none⟩ = some (.slice p 0 cap)) (h0 : J [] W) :
    CallsIn Fence.wide n Try.prog 20 #[.func (.yield l) #[] #[], .pointer (some ⟨Bl, 0, none⟩), b, c] W fun e W' => (∃ v, e = .returned v) ∧ J [] W' := by
  refine callsIn_of_wp Try.func20 rfl trivial ?_ rfl
  simp only [Try.ntmps20, List.size_toArray, List.length_cons, List.length_nil, Nat.reduceAdd, Nat.reduceSub, Array.replicate_succ, Array.replicate_zero, List.push_toArray, List.append_toArray, List.nil_append, List.cons_append]
  gi_wp2
  gi_loopw [9] (fun i wr => i = .int .i64 0 ∧ J [] wr) (fun _ _ => 0)
  case atStart => exact ⟨rfl, h0⟩
  case round =>
    obtain ⟨rfl, hJs⟩ := hrel
    gi_wp2
    go_end0
    exact ⟨⟨_, rfl⟩, hJs⟩
abbrev exW (w : World) (p : Option Addr) (len cap : Nat) (rd wt : Int) : World := ((w.alloc (.cells #[.slice p len cap] 30)).alloc (.cells #[.int .i64 rd] 3)).alloc (.cells #[.int .i64 wt] 3)
set_option maxHeartbeats 1000000 in
theorem excesses_any (p : Option Addr) (len cap : Nat) (rd wt : Int) (w : World) : Calls Try.prog 16 #[.slice p len cap, .int .i64 rd, .int .i64 wt] w fun e w' =>
    e = .returned (.func (.func 20) #[] #[.pointer (some ⟨w.heap.size, 0, none⟩), .pointer (some ⟨w.heap.size + 1, 0, none⟩), .pointer (some ⟨w.heap.size + 1 + 1, 0, none⟩)]) ∧ w' = exW w p len cap rd wt := by
  go_enter Try.func16, Try.ntmps16
  go_wp2
  go_ret
  exact ⟨rfl, rfl⟩
/-- excesses tells of all deeds that have a bound, or of the first of them -/
theorem excesses_stops (n : Nat) (hn : 1 ≤ n) (R : Nat → Prop) (B : Nat) (p : Option Addr) (len cap : Nat) (rd wt : Int) (ds : List Dn) (hmx : ds.length ≤ 9223372036854775807) (w : World) (hB : B ≤ w.heap.size) (hD : DnL B w (.slice p len cap) ds) (hr : ∀ x, R x → B ≤ x ∧ x < w.heap.size) :
    SeqStopsK Fence.wide n Try.prog 20 #[.pointer (some ⟨w.heap.size, 0, none⟩), .pointer (some ⟨w.heap.size + 1, 0, none⟩), .pointer (some ⟨w.heap.size + 1 + 1, 0, none⟩)] (fun x : Int × Int => #[Value.int .i64 x.1, Value.int .i64 x.2]) (KC R) (fun ys => ys = exF rd wt 0 ds) (fun pre => pre <+: exF rd wt 0 ds) ds.length (exW w p len cap rd wt) := fun l J Jx W hW hJ _ hY h0 => by
  have hs : (exW w p len cap rd wt).heap.size = w.heap.size + 3 := by simp
  have c0 := (cell_new1 w (.slice p len cap) 30).1
  have c1 := (cell_new1 (w.alloc (.cells #[.slice p len cap] 30)) (.int .i64 rd) 3).1
  have c2 := (cell_new1 ((w.alloc (.cells #[.slice p len cap] 30)).alloc (.cells #[.int .i64 rd] 3)) (.int .i64 wt) 3).1
  have c0 := cell_al (.cells #[.int .i64 wt] 3) (cell_al (.cells #[.int .i64 rd] 3) c0)
  have c1 := cell_al (.cells #[.int .i64 wt] 3) c1
  simp only [World.size_alloc] at c1 c2
  have hc0 := (hW.cell (p := ⟨w.heap.size, 0, none⟩) (by rw [hs]; show w.heap.size < _; omega)).trans c0
  have hc1 := (hW.cell (p := ⟨w.heap.size + 1, 0, none⟩) (by rw [hs]; show w.heap.size + 1 < _; omega)).trans c1
  have hc2 := (hW.cell (p := ⟨w.heap.size + 1 + 1, 0, none⟩) (by rw [hs]; show w.heap.size + 1 + 1 < _; omega)).trans c2
  have hB1 : Below B w (exW w p len cap rd wt) := (((Below.refl B w).alloc hB _).alloc (by simp; omega) _).alloc (by simp; omega) _
  rcases hD.below (hB1.trans (hW.mono (by rw [hs]; omega))) with ⟨rfl, p', c, e⟩ | ⟨b, off, c, e, hd⟩
  · simp only [Value.slice.injEq] at e
    obtain ⟨rfl, rfl, rfl⟩ := e
    exact (excesses1_nil n l w.heap.size _ _ _ _ J W hc0 h0).mono fun e W' ⟨he, hj⟩ => ⟨he, .inl ⟨_, rfl, hj⟩⟩
  · simp only [Value.slice.injEq] at e
    obtain ⟨rfl, rfl, rfl⟩ := e
    exact excesses1_in n hn l w.heap.size (w.heap.size + 1) (w.heap.size + 1 + 1) B b off ds.length _ rd wt ds rfl hmx R J Jx _ hJ hY W (fun x h => ⟨(hr x h).1, by have h1 := (hr x h).2; have h2 := hW.size; rw [hs] at h2; omega⟩) (fun h => by have := (hr _ h).2; omega) (fun h => by have := (hr _ h).2; omega) hc0 hc1 hc2 hd h0
/-- the first that is beyond its bound -/
def fst0 : List (Int × Int) → Int
  | [] => -1
  | p :: l => if 0 < p.2 then p.1 else fst0 l
def noneB (l : List (Int × Int)) : Bool := l.all fun p => decide (p.2 ≤ 0)
theorem noneB_snoc {l : List (Int × Int)} {x : Int × Int} (hl : noneB l = true) (h : x.2 ≤ 0) : noneB (l ++ [x]) = true := by
  unfold noneB at *
  rw [List.all_append, hl]
  simpa using h
theorem fst0_none {l : List (Int × Int)} (h : noneB l = true) : fst0 l = -1 := by
  induction l with
  | nil => rfl
  | cons p l ih =>
    simp only [noneB, List.all_cons, Bool.and_eq_true, decide_eq_true_eq] at h
    show (if 0 < p.2 then p.1 else fst0 l) = _
    rw [if_neg (by omega), ih h.2]
theorem fst0_some {l m : List (Int × Int)} {x : Int × Int} (h : noneB l = true) (hx : 0 < x.2) (hp : l ++ [x] <+: m) : fst0 m = x.1 := by
  obtain ⟨q, rfl⟩ := hp
  induction l with
  | nil => show (if 0 < x.2 then x.1 else fst0 q) = _; rw [if_pos hx]
  | cons p l ih =>
    simp only [noneB, List.all_cons, Bool.and_eq_true, decide_eq_true_eq] at h
    show (if 0 < p.2 then p.1 else fst0 (l ++ [x] ++ q)) = _
    rw [if_neg (by omega), ih h.2]
end Go.Proofs.Ytpimfhkigbcniaa.Bo
