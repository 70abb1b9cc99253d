import Derived.Test.YtmmijcmlnhmooaaEC
namespace Go.Proofs.Ytmmijcmlnhmooaa
open Go.ChangeShapes Go.WideShapes Go.ChangeAt Go.RowKit Num

/-- the cell's words, and the write, behind d steps of the write -/
def wsD (v a : Int) (x y : Nat) (d : Nat) : List Int := [if d < 2 then v else a, if d < 3 then x else y, if d < 1 then 0 else x]
def wtD (a : Int) (x y : Nat) (d : Nat) : Wt := ⟨0, 0, x, a, y, d⟩
theorem err3 {ws : List Int} (hl : ws.length = 3) {j : Nat} (hj : j < 3) : errC ws true 0 0 j = 0 := by
  have h1 : mayC 0 = true := by decide
  have h2 : hasB ws (placeI 0 0 j) = true := by
    have e : placeI 0 0 j = (j : Int) := by simp [placeI]
    rw [e]; unfold hasB; exact decide_eq_true ⟨by omega, by omega⟩
  simp [errC, h1, errA, h2]
theorem wsD_len (v a : Int) (x y d : Nat) : (wsD v a x y d).length = 3 := rfl
theorem wtD_step (v a : Int) (x y : Nat) {d : Nat} (hd : d < 3) : errW (wtD a x y d) (wsD v a x y d) true = 0 ∧ endW (wtD a x y d) (wsD v a x y d) true = decide (d + 1 = 3) ∧ stepW (wtD a x y d) (wsD v a x y d) true = wtD a x y (d + 1) ∧ laidW (wtD a x y d) (wsD v a x y d) true = wsD v a x y (d + 1) := by
  have e0 := err3 (wsD_len v a x y d) (show 0 < 3 by omega)
  have e1 := err3 (wsD_len v a x y d) (show 1 < 3 by omega)
  have e2 := err3 (wsD_len v a x y d) (show 2 < 3 by omega)
  have : d = 0 ∨ d = 1 ∨ d = 2 := by omega
  rcases this with rfl | rfl | rfl
  · have ee : errW (wtD a x y 0) (wsD v a x y 0) true = 0 := e2
    exact ⟨ee, by rw [endW, decide_eq_true ee]; rfl, by rw [stepW, if_pos ee]; rfl, by rw [laidW, if_pos ee]; rfl⟩
  · have ee : errW (wtD a x y 1) (wsD v a x y 1) true = 0 := e0
    exact ⟨ee, by rw [endW, decide_eq_true ee]; rfl, by rw [stepW, if_pos ee]; rfl, by rw [laidW, if_pos ee]; rfl⟩
  · have ee : errW (wtD a x y 2) (wsD v a x y 2) true = 0 := e1
    exact ⟨ee, by rw [endW, decide_eq_true ee]; rfl, by rw [stepW, if_pos ee]; rfl, by rw [laidW, if_pos ee]; rfl⟩
theorem wsD_0 (v a : Int) (x y d : Nat) : wordC (wsD v a x y d) 0 0 0 = if d < 2 then v else a := by simp [wordC, wordAt, placeI, wsD]
theorem wsD_1 (v a : Int) (x y d : Nat) : wordC (wsD v a x y d) 0 0 1 = ((if d < 3 then x else y : Nat) : Int) := by
  simp [wordC, wordAt, placeI, wsD]
  split <;> rfl
theorem wsD_2 (v a : Int) (x y d : Nat) : wordC (wsD v a x y d) 0 0 2 = if d < 1 then 0 else (x : Int) := by simp [wordC, wordAt, placeI, wsD]
/-- how a read stands that goes on beside the write: n steps, the number x is told at the end -/
structure RI (v s : Int) (x : Nat) (d : Nat) (r : Rd) (n : Nat) : Prop where
  ep : r.p = 0
  ec : r.c = 0
  es : r.s = s
  en : r.n = n
  st : r.k = 0 ∧ n = 0 ∨ r.k = 1 ∧ n = 1 ∧ r.v = v ∨ r.k = 2 ∧ n = 2 ∧ r.v = v ∧ (d ≤ 2 → r.x = x) ∨ r.k = 3 ∧ (n = 1 ∨ n = 3) ∧ 2 ≤ d ∨ r.k = 4 ∧ n ≤ 4 ∧ r.y = x
theorem RI.few {v s : Int} {x d n : Nat} {r : Rd} (h : RI v s x d r n) : n ≤ 4 ∧ (¬ 4 ≤ r.k → n ≤ 3) := by
  rcases h.st with ⟨h1, h2⟩ | ⟨h1, h2, _⟩ | ⟨h1, h2, _⟩ | ⟨h1, h2, _⟩ | ⟨h1, h2, _⟩ <;> omega
theorem RI.write {v s : Int} {x d n : Nat} {r : Rd} (h : RI v s x d r n) : RI v s x (d + 1) r n := by
  refine ⟨h.ep, h.ec, h.es, h.en, ?_⟩
  rcases h.st with ⟨h1, h2⟩ | ⟨h1, h2, h3⟩ | ⟨h1, h2, h3, h4⟩ | ⟨h1, h2, h3⟩ | ⟨h1, h2, h3⟩
  · exact .inl ⟨h1, h2⟩
  · exact .inr (.inl ⟨h1, h2, h3⟩)
  · exact .inr (.inr (.inl ⟨h1, h2, h3, fun q => h4 (by omega)⟩))
  · exact .inr (.inr (.inr (.inl ⟨h1, h2, by omega⟩)))
  · exact .inr (.inr (.inr (.inr ⟨h1, h2, h3⟩)))
theorem up_nat {n : Nat} (h : n ≤ 4) : up (n : Int) = ((n + 1 : Nat) : Int) := by
  unfold up
  rw [Go.IntWalk.wrap64_in _ ⟨by omega, by omega⟩]
  omega
theorem RI.read {v s a : Int} {x y d n : Nat} {r : Rd} (h : RI v s (fixB x) d r n) (hv : v ≤ s) (ha : s < a) (hk : ¬ 4 ≤ r.k) : errR r (wsD v a (fixB x) y d) true = 0 ∧ endR r (wsD v a (fixB x) y d) true = decide (4 ≤ (stepR r (wsD v a (fixB x) y d) true).k) ∧ RI v s (fixB x) d (stepR r (wsD v a (fixB x) y d) true) (n + 1) := by
  have e0 := err3 (wsD_len v a (fixB x) y d) (show 0 < 3 by omega)
  have e1 := err3 (wsD_len v a (fixB x) y d) (show 1 < 3 by omega)
  have e2 := err3 (wsD_len v a (fixB x) y d) (show 2 < 3 by omega)
  have x0 := wsD_0 v a (fixB x) y d
  have x1 := wsD_1 v a (fixB x) y d
  have x2 := wsD_2 v a (fixB x) y d
  have hn := up_nat h.few.1
  obtain ⟨p, c, ss, k, vv, xx, yy, nn, t⟩ := r
  obtain ⟨hp, hc, hs, hnn, st⟩ := h
  simp only at hp hc hs hnn st hk
  subst hp hc hs hnn
  have key : errR ⟨0, 0, ss, k, vv, xx, yy, n, t⟩ (wsD v a (fixB x) y d) true = 0 := by
    simp only [errR, show k < 4 by omega, if_true]
    obtain h | h | h | h : k = 0 ∨ k = 1 ∨ k = 2 ∨ k = 3 := by omega
    · subst h; exact e0
    · subst h; exact e1
    · subst h; exact e0
    · subst h; exact e2
  refine ⟨key, by rw [endR, decide_eq_true key]; rfl, ?_⟩
  rw [stepR, if_pos key]
  rcases st with ⟨rfl, rfl⟩ | ⟨rfl, rfl, rfl⟩ | ⟨rfl, rfl, rfl, h4⟩ | ⟨rfl, h2, h3⟩ | ⟨rfl, h2, h3⟩
  · simp only [wrd, nxt, nx0, if_true, show ¬ (0 = 1) by omega, show ¬ (0 = 3) by omega, if_false, x0]
    by_cases hd : d < 2
    · rw [if_pos hd, if_neg (by omega)]
      exact ⟨rfl, rfl, rfl, hn, .inr (.inl ⟨rfl, rfl, rfl⟩)⟩
    · rw [if_neg hd, if_pos ha]
      exact ⟨rfl, rfl, rfl, hn, .inr (.inr (.inr (.inl ⟨rfl, .inl rfl, by omega⟩)))⟩
  · simp only [wrd, nxt, nx0, if_true, show ¬ (1 = 0) by omega, if_false, x1]
    refine ⟨rfl, rfl, rfl, hn, .inr (.inr (.inl ⟨rfl, rfl, rfl, fun q => ?_⟩))⟩
    simp only [show d < 3 by omega, if_true, Int.toNat_natCast]
    exact fixB_fixB x
  · simp only [wrd, nxt, nx0, if_true, show ¬ (2 = 0) by omega, show ¬ (2 = 1) by omega, show ¬ (2 = 3) by omega, if_false, x0]
    by_cases hd : d < 2
    · rw [if_pos hd, if_pos rfl]
      exact ⟨rfl, rfl, rfl, hn, .inr (.inr (.inr (.inr ⟨rfl, by omega, h4 (by omega)⟩)))⟩
    · rw [if_neg hd, if_neg (by omega)]
      exact ⟨rfl, rfl, rfl, hn, .inr (.inr (.inr (.inl ⟨rfl, .inr rfl, by omega⟩)))⟩
  · simp only [wrd, nxt, nx0, if_true, show ¬ (3 = 0) by omega, show ¬ (3 = 1) by omega, show ¬ (3 = 2) by omega, if_false, x2]
    rw [if_neg (show ¬ d < 1 by omega)]
    refine ⟨rfl, rfl, rfl, hn, .inr (.inr (.inr (.inr ⟨rfl, by omega, ?_⟩)))⟩
    show fixB (Int.toNat _) = _
    rw [Int.toNat_natCast]
    exact fixB_fixB x
  · omega
/-- what is sure behind i of len + 8 rounds -/
def Tm (len i d n : Nat) (k : Nat) : Prop := d ≤ 3 ∧ (∀ j, j ≤ 3 → len + j ≤ i → j ≤ d) ∧ (∀ j, len + 3 + j ≤ i → 4 ≤ k ∨ j ≤ n)
theorem Tm.write {len i d n k : Nat} (h : Tm len i d n k) (hd : d < 3) : Tm len (i + 1) (d + 1) n k := by
  obtain ⟨h1, h2, h3⟩ := h
  refine ⟨by omega, fun j hj hi => ?_, fun j hi => ?_⟩
  · by_cases e : j = 0
    · omega
    · have := h2 (j - 1) (by omega) (by omega)
      omega
  · by_cases e : j = 0
    · exact .inr (by omega)
    · have := h2 3 (by omega) (by omega)
      omega
theorem Tm.read {len i d n k k' : Nat} (h : Tm len i d n k) (hk : ¬ 4 ≤ k) (hc : d = 3 ∨ i < len) : Tm len (i + 1) d (n + 1) k' := by
  obtain ⟨h1, h2, h3⟩ := h
  refine ⟨h1, fun j hj hi => ?_, fun j hi => .inr ?_⟩
  · rcases hc with hc | hc <;> omega
  · by_cases e : j = 0
    · omega
    · have := h3 (j - 1) (by omega)
      omega
theorem Tm.idle {len i d n k : Nat} (hd : d = 3) (hk : 4 ≤ k) : Tm len (i + 1) d n k := ⟨by omega, fun j hj _ => by omega, fun _ _ => .inl hk⟩
theorem Tm.last {len d n k : Nat} (h : Tm len (len + 8) d n k) (hn : ¬ 4 ≤ k → n ≤ 3) : d = 3 ∧ 4 ≤ k := by
  obtain ⟨h1, h2, h3⟩ := h
  have a1 := h2 3 (by omega) (by omega)
  have a2 := h3 5 (by omega)
  refine ⟨by omega, ?_⟩
  by_cases q : 4 ≤ k
  · exact q
  · have := hn q
    omega
theorem start3 (x : Nat) : startE [0, 0, 0] 0 [x] = 0 ∧ startW [0, 0, 0] 0 [x] = [0, ((fixB x : Nat) : Int), 0] := by
  have h : startE [0, 0, 0] 0 [x] = 0 := by simp [startE, okP, hasB, placeI, List.range, List.range.loop]
  refine ⟨h, ?_⟩
  rw [startW, if_pos h]
  simp [startL, laidC, poked, hasB, placeI]
theorem poke3 (v : Int) (x : Nat) (a : Int) (y : Nat) : poked [0, (x : Int), 0] 0 v = wsD v a x y 0 := rfl
/-- a read at the write's own version, behind j steps -/
def rq (a : Int) (x y : Nat) : Nat → Rd
  | 0 => newR 0 0 a
  | j + 1 => stepR (rq a x y j) (wsD 0 a x y 3) true
theorem rq_step (a : Int) (x y : Nat) {j : Nat} (hj : j < 3) : errR (rq a x y j) (wsD 0 a x y 3) true = 0 ∧ endR (rq a x y j) (wsD 0 a x y 3) true = decide (j = 2) := by
  have e0 := err3 (wsD_len 0 a x y 3) (show 0 < 3 by omega)
  have e1 := err3 (wsD_len 0 a x y 3) (show 1 < 3 by omega)
  have x0 := wsD_0 0 a x y 3
  simp at e0 e1 x0
  have : j = 0 ∨ j = 1 ∨ j = 2 := by omega
  rcases this with rfl | rfl | rfl
  · simp [rq, newR, errR, endR, stepR, nxt, nx0, wrd, e0, x0]
  · simp [rq, newR, errR, endR, stepR, nxt, nx0, wrd, e0, e1, x0]
  · simp [rq, newR, errR, endR, stepR, nxt, nx0, wrd, e0, e1, x0]
theorem rq_last (a : Int) (x y : Nat) : (rq a x (fixB y) 3).t = false ∧ (rq a x (fixB y) 3).y = fixB y := by
  have e0 := err3 (wsD_len 0 a x (fixB y) 3) (show 0 < 3 by omega)
  have e1 := err3 (wsD_len 0 a x (fixB y) 3) (show 1 < 3 by omega)
  have x0 := wsD_0 0 a x (fixB y) 3
  have x1 := wsD_1 0 a x (fixB y) 3
  simp at e0 e1 x0 x1
  simp [rq, newR, errR, stepR, nxt, nx0, wrd, e0, e1, x0, x1, fixB_fixB]
theorem wsD_3 (v a : Int) (x y : Nat) : wsD v a x y 3 = wsD 0 a x y 3 := rfl
/-! the openings -/
open Go.Deep
theorem bytesB : Try.prog.bytesOf 4 = 1 := by kernel_rfl
section
variable {H : Type} {enc : TypeId × Value → H}
set_option maxRecDepth 100000 in
theorem open_bools2 {W : World} {fuel : Nat} {cs : List Value} {x : DataW H × List MemPlace} (hf : DataW.trod enc Try.prog W 0 (fun _ => true) true fuel 62 cs = some x) :
    ∃ (ao : Option Addr) (cap : Nat) (l : List Bool), cs = [.slice ao l.length cap] ∧ BoolsAt W ao l ∧ l.length ≤ maxLen ∧ ((∀ z ∈ x.1.weights Try.prog 62, z ≤ reachBytes) → l.length ≤ reachBytes) := by
  rcases open_slice Try.underlying62 hf with ⟨hcs, _⟩ | ⟨a, len, cap, m, n, D, Pl, hcs, _, hl, hm, hmm, hd, hx⟩
  · exact ⟨none, 0, [], hcs, fun i hi => absurd hi (Nat.not_lt_zero i), Nat.zero_le _, fun _ => by simp⟩
  · simp only [if_true] at hmm
    have hd1 : x.1 = .slice ((List.range len).map D) ((List.range (m - len)).map fun j => D (len + j)) := congrArg Prod.fst hd
    obtain ⟨b, off, spot⟩ := a
    have hs : 0 < len → spot = none := by
      intro h0
      obtain ⟨cs', h1, _⟩ := hx 0 (by omega)
      rw [cellsB] at h1
      obtain ⟨_, hlen, hcell⟩ := World.cells?_some h1
      match cs', hlen with
      | [c0], _ =>
        have f0 := hcell 0 (by omega)
        simpa [Addr.add] using World.cell?_spot f0
    have each : ∀ i, i < len → ∃ q : Bool, spot = none ∧ b < W.heap.size ∧ W.cell? ⟨b, off + i, none⟩ = some (.bool q) := by
      intro i hi
      obtain ⟨cs', h1, h2⟩ := hx i (by omega)
      rw [cellsB] at h1
      obtain ⟨_, hlen, hcell⟩ := World.cells?_some h1
      match cs', hlen with
      | [c0], _ =>
        obtain ⟨q, e0, _⟩ := DataW.trod_bool Try.underlying4 h2
        simp at e0
        subst e0
        have f0 := hcell 0 (by omega)
        rw [add_add] at f0
        have hspot := hs (by omega)
        subst hspot
        rw [Go.WideShapes.add_plain] at f0
        simp at f0
        have hb := World.block_lt_of_cell? W _ f0
        exact ⟨q, rfl, hb, f0⟩
    obtain ⟨q, hq⟩ := choose_lt each
    have hlen : ((List.range len).map q).length = len := by simp
    have hget : ∀ i, i < len → ((List.range len).map q).getD i false = q i := fun i hi => by simp [hi]
    refine ⟨some ⟨b, off, spot⟩, cap, (List.range len).map q, by rw [hlen]; exact hcs, fun i hi => ?_, by rw [hlen]; omega, fun hz => ?_⟩
    · rw [hlen] at hi
      obtain ⟨rfl, r1, r2⟩ := hq i hi
      exact ⟨b, off, rfl, r1, by rw [hget i hi]; exact r2⟩
    · have := hz ((len + (m - len)) * 1) (by
        rw [hd1]
        simp [DataW.weights, Try.underlying62, bytesB])
      rw [hlen]
      omega
set_option maxRecDepth 100000 in
theorem open_whole2 {W : World} {base : Nat} {v : Value} {d : DataW H} {ps : List MemPlace} (hval : Value.okWide Try.prog W .any base 64 v) (h : DataW.Trod enc Try.prog W 0 (fun _ => true) true 64 v d ps) :
    ∃ (x y e s m : Nat) (ao : Option Addr) (cap : Nat) (l : List Bool), v = .agg #[.int .u64 x, .int .u64 y, .int .u64 e, .int .u64 s, .int .u64 m, .slice ao l.length cap] ∧ l.length ≤ maxLen ∧ (∀ {ts : List TypeId} {ds : List (DataW H)}, (DataW.weightsEach Try.prog ts ds).all (· ≤ reachBytes) = true → ∀ {j : Nat}, ts[j]? = some 64 → ds[j]? = some d → l.length ≤ reachBytes) ∧ (s < 18446744073709551616 ∧ e < 18446744073709551616) ∧ BoolsAt W ao l := by
  obtain ⟨cs, rfl, hsz⟩ := okWide_struct Try.underlying64 hval
  rw [cellsWh] at hsz
  obtain ⟨l⟩ := cs
  match l, hsz with
  | [c0, c1, c2, c3, c4, c5], _ =>
    obtain ⟨fuel, hf⟩ := h
    obtain ⟨xs, n, _, hxx, _, hlen, hg⟩ := DataW.trod_struct Try.underlying64 hf
    match xs, hlen with
    | [y0, y1, y2, y3, y4, y5], _ =>
      have g0 := hg 0 _ rfl
      have g1 := hg 1 _ rfl
      have g2 := hg 2 _ rfl
      have g3 := hg 3 _ rfl
      have g4 := hg 4 _ rfl
      have g5 := hg 5 _ rfl
      simp [cellsW, cellsLB, Value.cells] at g0 g1 g2 g3 g4 g5
      obtain ⟨a0, e0, _, w0⟩ := DataW.trod_int Try.underlying22 g0
      obtain ⟨a1, e1, _, w1⟩ := DataW.trod_int Try.underlying22 g1
      obtain ⟨a2, e2, _, w2⟩ := DataW.trod_int Try.underlying22 g2
      obtain ⟨a3, e3, _, w3⟩ := DataW.trod_int Try.underlying22 g3
      obtain ⟨a4, e4, _, w4⟩ := DataW.trod_int Try.underlying22 g4
      obtain ⟨z0, rfl, _⟩ := nat_of_u64 w0
      obtain ⟨z1, rfl, _⟩ := nat_of_u64 w1
      obtain ⟨z2, rfl, b2⟩ := nat_of_u64 w2
      obtain ⟨z3, rfl, b3⟩ := nat_of_u64 w3
      obtain ⟨z4, rfl, _⟩ := nat_of_u64 w4
      have hD : d = .agg [y0.1, y1.1, y2.1, y3.1, y4.1, y5.1] := congrArg Prod.fst hxx
      obtain ⟨ao, cp, bl, e5, hp, hm, hw⟩ := open_bools2 g5
      simp at e0 e1 e2 e3 e4 e5
      refine ⟨z0, z1, z2, z3, z4, ao, cp, bl, by rw [e0, e1, e2, e3, e4, e5], hm, fun {ts ds} hz {j} h1 h2 => hw (fun z hzz => ?_), ⟨b3, b2⟩, hp⟩
      rw [hD] at h2
      have hmem : z ∈ DataW.weights Try.prog 64 (.agg [y0.1, y1.1, y2.1, y3.1, y4.1, y5.1]) := by
        simp only [DataW.weights, Try.underlying64]
        exact DataW.weights_mem_each (ts := _) (ds := [y0.1, y1.1, y2.1, y3.1, y4.1, y5.1]) (j := 5) rfl rfl z hzz
      have := List.all_eq_true.1 hz _ (DataW.weights_mem_each h1 h2 z hmem)
      simpa using this
end
end Go.Proofs.Ytmmijcmlnhmooaa
