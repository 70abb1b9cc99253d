import Derived.Test.YtdodhpfdldkbdabGreatDoorJV2
import Derived.Test.YtdodhpfdldkbdabGreatDoorJV1
namespace Go.Proofs.YtdodhpfdldkbdabGreatDoor.Tr
open Num As
theorem addB_small (s : Bs) (o : O) (h : ∀ i ∈ s.code, i.x < 18446744073709551616) : ∀ i ∈ (addB s o).code, i.x < 18446744073709551616 := by
  unfold addB
  have key : ∀ (j : Ins), j.x < 18446744073709551616 → ∀ q, ∀ i ∈ (s.add j q).code, i.x < 18446744073709551616 := fun j hj q i hi => by
    rcases List.mem_append.1 (show i ∈ s.code ++ [j] from hi) with hi | hi
    · exact h i hi
    · rw [List.mem_singleton.1 hi]; exact hj
  split
  · exact key _ (floatInt_lt _) _
  · split
    · exact key ⟨o.code, 0, 0⟩ (by show (0 : Nat) < _; decide) _
    · split
      · exact h
      · exact key ⟨o.code, o.n, 0⟩ (by show (0 : Nat) < _; decide) _
theorem foldB_small : ∀ (l : List O) (s : Bs), (∀ i ∈ s.code, i.x < 18446744073709551616) → ∀ i ∈ (l.foldl addB s).code, i.x < 18446744073709551616
  | [], _, h => h
  | o :: l, s, h => foldB_small l (addB s o) (addB_small s o h)
theorem filled_small (s : Bs) (h : ∀ i ∈ s.code, i.x < 18446744073709551616) : ∀ i ∈ s.filled, i.x < 18446744073709551616 := by
  intro i hi
  obtain ⟨k, hk, rfl⟩ := List.mem_map.1 hi
  have hk := List.mem_range.1 hk
  have hm : (ci s.code k).x < 18446744073709551616 := h _ (by unfold ci; rw [List.getD_eq_getElem?_getD, List.getElem?_eq_getElem hk]; exact List.getElem_mem hk)
  unfold Bs.fin
  split
  · exact hm
  · exact hm
theorem code_small {t : Int} {ops : List O} {cs : List Ins} (h1 : (bsOf t ops).filled.map fixI = cs) : ∀ k, k < cs.length → (ci cs k).x < 18446744073709551616 :=
  small_of h1 (filled_small _ (foldB_small _ _ fun i hi => by rw [(labs_len 10 t).1] at hi; cases hi))
theorem arg_ok {l : List Nat} (hl : ∀ x ∈ l, x < 18446744073709551616) (k : Nat) : okN (argF l k) := by
  refine okN_fix ?_
  rw [List.getD_eq_getElem?_getD]
  rcases Nat.lt_or_ge k l.length with h | h
  · rw [List.getElem?_eq_getElem h]; exact hl _ (List.getElem_mem h)
  · rw [List.getElem?_eq_none h]; decide
theorem Holds.congr {B R : Nat} {M : Tm} {mem mem' : Nat → Nat} (h : Holds B R M mem) (k : ∀ c, B ≤ c → c ≤ B + 3 * R + 2 → mem' c = mem c) (hR : 1 ≤ R) : Holds B R M mem' :=
  ⟨(k _ (by omega) (by omega)).trans h.sp, (k _ (by omega) (by omega)).trans h.n, (k _ (by omega) (by omega)).trans h.rt, fun i h1 h2 => (k _ (by omega) (by omega)).trans (h.k i h1 h2), fun i h1 h2 => (k _ (by omega) (by omega)).trans (h.v i h1 h2), fun i h1 h2 => (k _ (by omega) (by omega)).trans (h.l i h1 h2), h.bs, h.bn, h.br, h.ba, h.bb⟩
theorem Tree.congr {B R : Nat} {M : Tm} {mem mem' : Nat → Nat} {t : T} {S : List Nat} (h : Tree B R M mem t S) (k : ∀ c, B ≤ c → c ≤ B + 3 * R + 2 → mem' c = mem c) (hR : 1 ≤ R) : Tree B R M mem' t S :=
  ⟨⟨h.H.congr k hR, h.W, h.ch, h.nd, h.rng, h.top, h.fresh, h.len, h.ko, h.vo⟩, h.srt⟩
section
variable {a b e : Int} {B R cells : Nat} {s l : List Nat} {L : Prs}
theorem aft_quiet {m : Mac} (h : m.buf.length ≤ 0) : aftS s m = s := by
  have : m.buf = [] := List.length_eq_zero_iff.1 (by omega)
  unfold aftS
  rw [this]
  split <;> rfl
theorem get_ran (h : Lies a b e B R cells s.length) (hs : okS s) (hH : Has B R s L) (hl8 : l.length ≤ 8) (hl : ∀ x ∈ l, x < 18446744073709551616) : Ran s (runR a b 1024 e 1 (getC B R) l s) B cells 1 0 (getS L (argF l 0)) ∧ aftS s (runR a b 1024 e 1 (getC B R) l s) = s := by
  obtain ⟨M, t, S, hT, rfl⟩ := hH
  obtain ⟨v, ⟨_, q2, q3⟩, r1, r2, _⟩ := ran_of h hl8 hl hs (check_of (get_code B R) (get_ans B R)) (code_small (get_code B R)) (get_ends (h.fits 1 (getC B R)) rfl hT rfl (arg_ok hl 0))
  exact ⟨q2 ▸ r1, aft_quiet (q3 ▸ r2)⟩
theorem len_ran (h : Lies a b e B R cells s.length) (hs : okS s) (hH : Has B R s L) (hl8 : l.length ≤ 8) (hl : ∀ x ∈ l, x < 18446744073709551616) : Ran s (runR a b 1024 e 1 (lenC B R) l s) B cells 1 0 [X (L.length : Nat)] ∧ aftS s (runR a b 1024 e 1 (lenC B R) l s) = s := by
  obtain ⟨M, t, S, hT, rfl⟩ := hH
  obtain ⟨v, ⟨_, q2, q3⟩, r1, r2, _⟩ := ran_of h hl8 hl hs (check_of (len_code B R) (len_ans B R)) (code_small (len_code B R)) (len_ends (h.fits 1 (lenC B R)) rfl hT)
  exact ⟨q2 ▸ r1, aft_quiet (q3 ▸ r2)⟩
theorem least_ran (h : Lies a b e B R cells s.length) (hs : okS s) (hH : Has B R s L) (hl8 : l.length ≤ 8) (hl : ∀ x ∈ l, x < 18446744073709551616) : Ran s (runR a b 1024 e 1 (leastC B R) l s) B cells 1 0 (fstS L 0) ∧ aftS s (runR a b 1024 e 1 (leastC B R) l s) = s := by
  obtain ⟨M, t, S, hT, rfl⟩ := hH
  obtain ⟨v, ⟨_, q2, q3⟩, r1, r2, _⟩ := ran_of h hl8 hl hs (check_of (least_code B R) (least_ans B R)) (code_small (least_code B R)) (least_ends (h.fits 1 (leastC B R)) rfl hT)
  exact ⟨q2 ▸ r1, aft_quiet (q3 ▸ r2)⟩
theorem after_ran (h : Lies a b e B R cells s.length) (hs : okS s) (hH : Has B R s L) (hl8 : l.length ≤ 8) (hl : ∀ x ∈ l, x < 18446744073709551616) : Ran s (runR a b 1024 e 1 (afterC B R) l s) B cells 1 0 (aftS2 L (argF l 0)) ∧ aftS s (runR a b 1024 e 1 (afterC B R) l s) = s := by
  obtain ⟨M, t, S, hT, rfl⟩ := hH
  obtain ⟨v, ⟨_, q2, q3⟩, r1, r2, _⟩ := ran_of h hl8 hl hs (check_of (after_code B R) (after_ans B R)) (code_small (after_code B R)) (after_ends (h.fits 1 (afterC B R)) rfl hT rfl)
  exact ⟨q2 ▸ r1, aft_quiet (q3 ▸ r2)⟩
theorem all_ran (h : Lies a b e B R cells s.length) (hs : okS s) (hH : Has B R s L) (hl8 : l.length ≤ 8) (hl : ∀ x ∈ l, x < 18446744073709551616) : Ran s (runR a b 1024 e 1 (allC B R) l s) B cells 1 0 (allS L) ∧ aftS s (runR a b 1024 e 1 (allC B R) l s) = s := by
  obtain ⟨M, t, S, hT, rfl⟩ := hH
  obtain ⟨v, ⟨_, q2, q3⟩, r1, r2, _⟩ := ran_of h hl8 hl hs (check_of (all_code B R) (all_ans B R)) (code_small (all_code B R)) (all_ends (h.fits 1 (allC B R)) rfl hT)
  exact ⟨q2 ▸ r1, aft_quiet (q3 ▸ r2)⟩
def Outside (s s' : List Nat) (B cells : Nat) : Prop := s'.length = s.length ∧ ∀ i, i < s.length → i < B ∨ B + cells ≤ i → s'.getD i 0 = s.getD i 0
theorem has_aft (h : Lies a b e B R cells s.length) {m : Mac} {v : Vm} {M' : Tm} {t' : T} {S' : List Nat} {L' : Prs} (ha : ∀ i, i < s.length → (aftS s m).getD i 0 = if i < B + cells then v.mem i else s.getD i 0) (ho : ∀ c, c < B ∨ B + cells ≤ c → v.mem c = (v0 s).mem c) (hT : Tree B R M' v.mem t' S') (hL : prs M' t'.nodes = L') : Has B R (aftS s m) L' ∧ Outside s (aftS s m) B cells := by
  have hr := h.r
  have hfit := h.fit
  have hn := h.n
  have hlen := aftS_len s m
  refine ⟨⟨M', t', S', hT.congr (fun c h1 h2 => ?_) hr.1, hL⟩, hlen, fun i hi hio => ?_⟩
  · rw [v0_mem (by rw [hlen]; omega), ha c (by omega), if_pos (by omega)]
  · rw [ha i hi]
    split
    · rw [ho i hio, v0_mem hi]
    · rfl
theorem put_ran (h : Lies a b e B R cells s.length) (hs : okS s) (hH : Has B R s L) (hl8 : l.length ≤ 8) (hl : ∀ x ∈ l, x < 18446744073709551616) :
    (isK L (argF l 0) = false ∧ R ≤ L.length ∧ Ran s (runR a b 1024 e 2 (putCd B R) l s) B cells 2 1 [] ∧ aftS s (runR a b 1024 e 2 (putCd B R) l s) = s) ∨
    ((isK L (argF l 0) = true ∨ L.length < R) ∧ Ran s (runR a b 1024 e 2 (putCd B R) l s) B cells 1 0 [X ((if isK L (argF l 0) then 0 else 1 : Nat) : Int)] ∧ Has B R (aftS s (runR a b 1024 e 2 (putCd B R) l s)) (putS L (argF l 0) (argF l 1)) ∧ Outside s (aftS s (runR a b 1024 e 2 (putCd B R) l s)) B cells) := by
  obtain ⟨M, t, S, hT, rfl⟩ := hH
  rcases put_ends (h.fits 2 (putCd B R)) rfl rfl hT rfl rfl (arg_ok hl 0) (arg_ok hl 1) with ⟨k1, k2, k3⟩ | ⟨k1, k2⟩
  · obtain ⟨v, ⟨q1, q2⟩, r1, r2, _⟩ := ran_of h hl8 hl hs (check_of (put_code B R) (put_ans B R)) (code_small (put_code B R)) k3
    exact .inl ⟨k1, k2, q1 ▸ r1, aft_quiet (q2 ▸ r2)⟩
  · obtain ⟨v, ⟨q1, q2, M', t', S', q3, q4⟩, r1, r2, r3⟩ := ran_of h hl8 hl hs (check_of (put_code B R) (put_ans B R)) (code_small (put_code B R)) k2
    exact .inr ⟨k1, q1 ▸ r1, has_aft h (r3 rfl) q2 q3 q4⟩
theorem del_ran (h : Lies a b e B R cells s.length) (hs : okS s) (hH : Has B R s L) (hl8 : l.length ≤ 8) (hl : ∀ x ∈ l, x < 18446744073709551616) :
    Ran s (runR a b 1024 e 2 (delC B R) l s) B cells 1 0 [X ((if isK L (argF l 0) then 1 else 0 : Nat) : Int)] ∧ Has B R (aftS s (runR a b 1024 e 2 (delC B R) l s)) (delS L (argF l 0)) ∧ Outside s (aftS s (runR a b 1024 e 2 (delC B R) l s)) B cells := by
  obtain ⟨M, t, S, hT, rfl⟩ := hH
  obtain ⟨v, ⟨q1, q2, M', t', S', q3, q4⟩, r1, r2, r3⟩ := ran_of h hl8 hl hs (check_of (del_code B R) (del_ans B R)) (code_small (del_code B R)) (del_ends (h.fits 2 (delC B R)) rfl rfl hT rfl (arg_ok hl 0))
  exact ⟨q1 ▸ r1, has_aft h (r3 rfl) q2 q3 q4⟩
theorem has_new (h : Lies a b e B R cells s.length) (h0 : ∀ i, B ≤ i → i < B + cells → s.getD i 0 = 0) : Has B R s [] := by
  have hr := h.r
  have hfit := h.fit
  have hn := h.n
  have key : ∀ c, B ≤ c → c ≤ B + 3 * R + 2 → (v0 s).mem c = X (0 : Nat) := fun c h1 h2 => by rw [v0_mem (by omega), h0 c h1 (by omega)]; exact X_zero.symm
  refine ⟨⟨0, 0, 0, fun _ => 0, fun _ => 0, fun _ => 0, fun _ => 0⟩, .nil, [], ⟨⟨⟨key _ (by omega) (by omega), key _ (by omega) (by omega), key _ (by omega) (by omega), fun i h1 h2 => (key _ (by omega) (by omega)).trans X_zero, fun i h1 h2 => (key _ (by omega) (by omega)).trans X_zero, fun i h1 h2 => key _ (by omega) (by omega), Nat.zero_le _, Nat.zero_le _, Nat.zero_le _, fun _ => Nat.zero_le _, fun _ => Nat.zero_le _⟩, ⟨rfl, trivial⟩, rfl, List.nodup_nil, fun j hj => absurd hj (by simp [T.nodes_eq]), Nat.zero_le _, fun _ _ _ => ⟨rfl, rfl⟩, rfl, fun _ => okN_zero, fun _ => okN_zero⟩, List.Pairwise.nil⟩, rfl⟩
end
end Go.Proofs.YtdodhpfdldkbdabGreatDoor.Tr
namespace Go.Proofs.YtdodhpfdldkbdabGreatDoor.Tr
open Go.ChangeShapes Go.WideShapes Go.ChangeAt Go.RowKit Num Go.Maps As
open Go.ChangeMaps Go.MapKept
attribute [local go_sem] run_store_float frombits_run bits_run
def PgC (W : World) (t : Int) (cs : List Ins) (e : Ending) (w' : World) : Prop := ∃ p n c, e = .returned (.agg #[.int .i64 t, .slice p n c]) ∧ Hid (n = cs.length ∧ RowW 108 3 w' p c n (codC cs) ∧ Below W.heap.size W w')
theorem bs_len {t : Int} {l : List O} {cs : List Ins} (h : (bsOf t l).filled.map fixI = cs) : (bsOf t l).code.length = cs.length := by rw [← h, List.length_map, filled_len]
def plotO (B R : Int) : Obj := .cells #[.int .i64 B, .int .i64 R] 68
def pg0 : Obj := .cells #[.int .i64 0, .slice none 0 0] 29
def pgW (w : World) (B R : Int) : World := (w.alloc (plotO B R)).alloc pg0
theorem pgW_size (w : World) (B R : Int) : (pgW w B R).heap.size = w.heap.size + 2 := by simp [pgW]
theorem pgW_bl (w : World) (B R : Int) : Below w.heap.size w (pgW w B R) := (bl1 w _).trans ((bl1 _ _).mono (by simp))
theorem pg_cells (w : World) (B R : Int) (u : World) (k : Below (pgW w B R).heap.size (pgW w B R) u) : (u.cell? ⟨w.heap.size, 0, none⟩ = some (.int .i64 B) ∧ u.cell? ⟨w.heap.size, 1, none⟩ = some (.int .i64 R)) ∧ (w.heap.size + 1 < u.heap.size ∧ u.cell? ⟨w.heap.size + 1, 0, none⟩ = some (.int .i64 0) ∧ u.cell? ⟨w.heap.size + 1, 1, none⟩ = some (.slice none 0 0) ∧ u.frozen? ⟨w.heap.size + 1, 0, none⟩ = false ∧ u.frozen? ⟨w.heap.size + 1, 1, none⟩ = false) := by
  have h1 : (pgW w B R).heap[w.heap.size + 1]? = some pg0 := by
    have := heap_alloc_new (w.alloc (plotO B R)) pg0
    simpa [pgW] using this
  have h0 : (pgW w B R).heap[w.heap.size]? = some (plotO B R) := (Below.heap_alloc _ _ _ (by simp)).trans (heap_alloc_new w _)
  have hs : (pgW w B R).heap.size = w.heap.size + 2 := by simp [pgW]
  have a := cells2_of ((k.block _ (by omega)).trans h0)
  have hb := (k.block _ (by omega)).trans h1
  have b := cells2_of hb
  exact ⟨⟨a.1, a.2.1⟩, b.2.2, b.1, b.2.1, frozen_of_row _ _ 0 _ _ hb, frozen_of_row _ _ 1 _ _ hb⟩
theorem pg_end {w u : World} {B R t : Int} {p : Option Addr} {n c : Nat} {cs : List Ins} (k : Below (pgW w B R).heap.size (pgW w B R) u) (hr : RowW 108 3 u p c n (codC cs)) :
    ((u.setCell ⟨w.heap.size + 1, 0, none⟩ (.int .i64 t)).setCell ⟨w.heap.size + 1, 1, none⟩ (.slice p n c)).heap[w.heap.size + 1]? = some (.cells #[.int .i64 t, .slice p n c] 29 (0, 0)) ∧ RowW 108 3 ((u.setCell ⟨w.heap.size + 1, 0, none⟩ (.int .i64 t)).setCell ⟨w.heap.size + 1, 1, none⟩ (.slice p n c)) p c n (codC cs) ∧ Below w.heap.size w ((u.setCell ⟨w.heap.size + 1, 0, none⟩ (.int .i64 t)).setCell ⟨w.heap.size + 1, 1, none⟩ (.slice p n c)) := by
  have h1 : (pgW w B R).heap[w.heap.size + 1]? = some pg0 := by
    have := heap_alloc_new (w.alloc (plotO B R)) pg0
    simpa [pgW] using this
  have hs : (pgW w B R).heap.size = w.heap.size + 2 := by simp [pgW]
  have hb := (k.block _ (by omega)).trans h1
  have t4 := (As.turn_set (w.heap.size + 1) 0 (.int .i64 t) u).trans (As.turn_set (w.heap.size + 1) 1 (.slice p n c) _)
  have hbw : Below w.heap.size w (pgW w B R) := (bl1 w _).trans ((bl1 _ _).mono (by simp))
  exact ⟨(heap_setCell_same _ _ 1 _ _ _ (heap_setCell_same _ _ 0 _ _ _ hb)).trans rfl, hr.keep (t4.kept (fun x hx z => by
    obtain ⟨arr, e⟩ := hr.blk hx
    rw [show x = w.heap.size + 1 by simpa using z] at e
    exact ne_ty e hb (by decide) rfl) hr.blw), (hbw.trans (k.mono hbw.size)).trans (t4.below (fun i hi => by simp at hi; omega) (Nat.le_trans hbw.size k.size))⟩
section
variable {w : World} {B R : Int}
set_option maxHeartbeats 2000000 in
set_option maxRecDepth 100000 in
theorem g_pget (hB : 0 ≤ B ∧ B ≤ 256) (hR : 0 ≤ R ∧ R ≤ 16) (hT : Shaped5 w) : Calls Tryz.prog 20 #[.agg #[.int .i64 B, .int .i64 R]] w fun e w' => PgC w 1 (getC B R) e w' := by
  have A : Hid (Acc (pgW w B R) (pgW w B R) []) := acc_nil (Below.refl _ _)
  have HT : Hid (Shaped5 w) := hT
  clear hT
  go_enter Tryz.func20, Tryz.ntmps20
  go_wp2_with (first
    | (go_at_call 39; refine (g_search hB hR _).mono ?_; rintro e u ⟨g, n, c, rfl, h⟩; replace A := Lib.hid (A.out.more h.out); clear h)
    | (go_at_call 40; refine (g_mark _ _).mono ?_; rintro e u ⟨g, n, c, rfl, h⟩; replace A := Lib.hid (A.out.more h.out); clear h)
    | (go_at_call 41; refine (g_load _ _ _).mono ?_; rintro e u ⟨g, n, c, rfl, h⟩; replace A := Lib.hid (A.out.more h.out); clear h)
    | (go_at_call 42; refine (g_emit _).mono ?_; rintro e u ⟨g, n, c, rfl, h⟩; replace A := Lib.hid (A.out.more h.out); clear h)
    | (go_at_call 43; refine (g_halt _).mono ?_; rintro e u ⟨g, n, c, rfl, h⟩; replace A := Lib.hid (A.out.more h.out); clear h)
    | (go_at_call 38; refine (g_program 1 (A.out.parts rfl) rfl (Nat.le_of_ble_eq_true rfl) (Nat.le_of_ble_eq_true rfl) (Nat.le_of_ble_eq_true rfl) (get_wf B R) (HT.out.on ((pgW_bl w B R).trans (((A.out.on (bl1 _ _)).bl).mono (by rw [pgW_size]; omega)))) (get_ans B R)).mono ?_; rintro e u ⟨p, n, c, rfl, hZ⟩; have HBL := Lib.hid (A.out.bl.trans (((bl1 _ _).trans (hZ.out.2.2.mono (by simp))).mono A.out.bl.size)); obtain ⟨⟨x0, x1⟩, y0, y1, y2, y3, y4⟩ := pg_cells w B R _ HBL.out))
  obtain ⟨f1, f2, f3⟩ := hZ.out
  change RowW 108 3 u p c n (codC ((bsOf 1 (getO B R).flatten).filled.map fixI)) at f2
  change n = (bsOf 1 (getO B R).flatten).code.length at f1
  rw [get_code] at f2
  obtain ⟨z1, z2, z3⟩ := pg_end (t := 1) HBL.out f2
  exact pg_back rfl (w.heap.size + 1) 1 p n c rfl z1 rfl ⟨p, n, c, rfl, f1.trans (bs_len (get_code B R)), z2, z3⟩
set_option maxHeartbeats 2000000 in
set_option maxRecDepth 100000 in
theorem g_pput (hB : 0 ≤ B ∧ B ≤ 256) (hR : 0 ≤ R ∧ R ≤ 16) (hT : Shaped5 w) : Calls Tryz.prog 21 #[.agg #[.int .i64 B, .int .i64 R]] w fun e w' => PgC w 2 (putCd B R) e w' := by
  have HB : Hid (∀ u, Below (pgW w B R).heap.size (pgW w B R) u → u.cell? ⟨w.heap.size, 0, none⟩ = some (.int .i64 B) ∧ u.cell? ⟨w.heap.size, 1, none⟩ = some (.int .i64 R)) := fun u k => (pg_cells w B R u k).1
  have A : Hid (Acc (pgW w B R) ((pgW w B R).drew) []) := acc_nil ((Same.drew _).below _)
  have HT : Hid (Shaped5 w) := hT
  clear hT
  go_enter Tryz.func21, Tryz.ntmps21
  go_wp2_with fail
  refine wp_region_seqE (fun u => u.cell? ⟨w.heap.size, 0, none⟩ = some (.int .i64 B) ∧ u.cell? ⟨w.heap.size, 1, none⟩ = some (.int .i64 R)) ((0, true) :: (8, true) :: (9, true) :: (12, true) :: (19, true) :: (20, true) :: (26, true) :: (27, true) :: (34, true) :: (37, true) :: (50, true) :: (54, true) :: (13, true) :: (1, false) :: (2, false) :: (3, false) :: (4, false) :: (5, false) :: (6, false) :: (7, false) :: (10, false) :: (11, false) :: (14, false) :: (15, false) :: (16, false) :: (17, false) :: (18, false) :: (21, false) :: (22, false) :: (23, false) :: (24, false) :: (25, false) :: (28, false) :: (29, false) :: (30, false) :: (31, false) :: (32, false) :: (33, false) :: (35, false) :: (36, false) :: (38, false) :: (39, false) :: (40, false) :: (41, false) :: (42, false) :: (43, false) :: (44, false) :: (45, false) :: (46, false) :: (47, false) :: (48, false) :: (49, false) :: (51, false) :: (52, false) :: (53, false) :: (55, false) :: (56, false) :: (57, false) :: (58, false) :: (59, false) :: []) follows (by kernel_rfl) (fun _ _ _ _ _ h => h) (HB.out _ ((Same.drew _).below _)) ?_
  (repeat (refine wpSeqE_take (v := ?_) rfl (by rfl) (fun wq hSq => ?_) ?_; rotate_left; (focus ((try dsimp only at hSq); go_simp; try with_reducible rfl)); simp only [Act.put, List.setIfInBounds_toArray, List.set_cons_zero, List.set_cons_succ]))
  (refine wpSeqE_do rfl (by rfl) (fun KK hK => ?_); go_simp)
  refine (g_search hB hR _).mono ?_; rintro e u ⟨g, n, c, rfl, h⟩; replace A := Lib.hid (A.out.more h.out); clear h
  refine hK.out _ _ (fun _ => HB.out _ A.out.bl) ?_
  (clear hK KK; try simp only [Act.put, List.setIfInBounds_toArray, List.set_cons_zero, List.set_cons_succ])
  (repeat (refine wpSeqE_take (v := ?_) rfl (by rfl) (fun wq hSq => ?_) ?_; rotate_left; (focus ((try dsimp only at hSq); go_simp; try with_reducible rfl)); simp only [Act.put, List.setIfInBounds_toArray, List.set_cons_zero, List.set_cons_succ]))
  (refine wpSeqE_do rfl (by rfl) (fun KK hK => ?_); go_simp)
  refine (g_mark _ _).mono ?_; rintro e u ⟨g, n, c, rfl, h⟩; replace A := Lib.hid (A.out.more h.out); clear h
  refine hK.out _ _ (fun _ => HB.out _ A.out.bl) ?_
  (clear hK KK; try simp only [Act.put, List.setIfInBounds_toArray, List.set_cons_zero, List.set_cons_succ])
  (repeat (refine wpSeqE_take (v := ?_) rfl (by rfl) (fun wq hSq => ?_) ?_; rotate_left; (focus ((try dsimp only at hSq); go_simp; try with_reducible rfl)); simp only [Act.put, List.setIfInBounds_toArray, List.set_cons_zero, List.set_cons_succ]))
  (refine wpSeqE_do rfl (by rfl) (fun KK hK => ?_); go_simp)
  refine (g_arg _ _).mono ?_; rintro e u ⟨g, n, c, rfl, h⟩; replace A := Lib.hid (A.out.more h.out); clear h
  refine hK.out _ _ (fun _ => HB.out _ A.out.bl) ?_
  (clear hK KK; try simp only [Act.put, List.setIfInBounds_toArray, List.set_cons_zero, List.set_cons_succ])
  (repeat (refine wpSeqE_take (v := ?_) rfl (by rfl) (fun wq hSq => ?_) ?_; rotate_left; (focus ((try dsimp only at hSq); go_simp; try with_reducible rfl)); simp only [Act.put, List.setIfInBounds_toArray, List.set_cons_zero, List.set_cons_succ]))
  (refine wpSeqE_do rfl (by rfl) (fun KK hK => ?_); go_simp)
  refine hK.out _ _ (fun _ => HB.out _ (A.out.on (bl1 _ _)).bl) ?_
  (clear hK KK; try simp only [Act.put, List.setIfInBounds_toArray, List.set_cons_zero, List.set_cons_succ])
  (repeat (refine wpSeqE_take (v := ?_) rfl (by rfl) (fun wq hSq => ?_) ?_; rotate_left; (focus ((try dsimp only at hSq); go_simp; try with_reducible rfl)); simp only [Act.put, List.setIfInBounds_toArray, List.set_cons_zero, List.set_cons_succ]))
  (refine wpSeqE_do rfl (by rfl) (fun KK hK => ?_); go_simp)
  refine (g_store ((A.out.take 1).parts rfl) rfl (Nat.le_of_ble_eq_true rfl) (Nat.le_of_ble_eq_true rfl) (Nat.le_of_ble_eq_true rfl) _ _).mono ?_; rintro e u ⟨g, n, c, rfl, h⟩; replace A := Lib.hid ((A.out.drop 1).over h.out); clear h
  refine hK.out _ _ (fun _ => HB.out _ A.out.bl) ?_
  (clear hK KK; try simp only [Act.put, List.setIfInBounds_toArray, List.set_cons_zero, List.set_cons_succ])
  (repeat (refine wpSeqE_take (v := ?_) rfl (by rfl) (fun wq hSq => ?_) ?_; rotate_left; (focus ((try dsimp only at hSq); go_simp; try with_reducible rfl)); simp only [Act.put, List.setIfInBounds_toArray, List.set_cons_zero, List.set_cons_succ]))
  (refine wpSeqE_do rfl (by rfl) (fun KK hK => ?_); go_simp)
  refine (g_tell _ _).mono ?_; rintro e u ⟨g, n, c, rfl, h⟩; replace A := Lib.hid (A.out.more h.out); clear h
  refine hK.out _ _ (fun _ => HB.out _ A.out.bl) ?_
  (clear hK KK; try simp only [Act.put, List.setIfInBounds_toArray, List.set_cons_zero, List.set_cons_succ])
  (repeat (refine wpSeqE_take (v := ?_) rfl (by rfl) (fun wq hSq => ?_) ?_; rotate_left; (focus ((try dsimp only at hSq); go_simp; try with_reducible rfl)); simp only [Act.put, List.setIfInBounds_toArray, List.set_cons_zero, List.set_cons_succ]))
  (refine wpSeqE_do rfl (by rfl) (fun KK hK => ?_); go_simp)
  refine (g_mark _ _).mono ?_; rintro e u ⟨g, n, c, rfl, h⟩; replace A := Lib.hid (A.out.more h.out); clear h
  refine hK.out _ _ (fun _ => HB.out _ A.out.bl) ?_
  (clear hK KK; try simp only [Act.put, List.setIfInBounds_toArray, List.set_cons_zero, List.set_cons_succ])
  (repeat (refine wpSeqE_take (v := ?_) rfl (by rfl) (fun wq hSq => ?_) ?_; rotate_left; (focus ((try dsimp only at hSq); go_simp; try with_reducible rfl)); simp only [Act.put, List.setIfInBounds_toArray, List.set_cons_zero, List.set_cons_succ]))
  (refine wpSeqE_do rfl (by rfl) (fun KK hK => ?_); go_simp)
  refine (g_count hB hR _).mono ?_; rintro e u ⟨rfl, h⟩; replace A := Lib.hid (A.out.on h); clear h
  refine hK.out _ _ (fun _ => HB.out _ A.out.bl) ?_
  (clear hK KK; try simp only [Act.put, List.setIfInBounds_toArray, List.set_cons_zero, List.set_cons_succ])
  (repeat (refine wpSeqE_take (v := ?_) rfl (by rfl) (fun wq hSq => ?_) ?_; rotate_left; (focus ((try dsimp only at hSq); go_simp; try with_reducible rfl)); simp only [Act.put, List.setIfInBounds_toArray, List.set_cons_zero, List.set_cons_succ]))
  (refine wpSeqE_do rfl (by rfl) (fun KK hK => ?_); go_simp)
  refine (g_folded hB hR _ _).mono ?_; rintro e u ⟨g, n, c, rfl, h⟩; replace A := Lib.hid (A.out.more h.out); clear h
  refine hK.out _ _ (fun _ => HB.out _ A.out.bl) ?_
  (clear hK KK; try simp only [Act.put, List.setIfInBounds_toArray, List.set_cons_zero, List.set_cons_succ])
  (repeat (refine wpSeqE_take (v := ?_) rfl (by rfl) (fun wq hSq => ?_) ?_; rotate_left; (focus ((try dsimp only at hSq); go_simp; try with_reducible rfl)); simp only [Act.put, List.setIfInBounds_toArray, List.set_cons_zero, List.set_cons_succ]))
  (refine wpSeqE_do rfl (by rfl) (fun KK hK => ?_); go_simp)
  refine (g_push _ _).mono ?_; rintro e u ⟨g, n, c, rfl, h⟩; replace A := Lib.hid (A.out.more h.out); clear h
  refine hK.out _ _ (fun _ => HB.out _ A.out.bl) ?_
  (clear hK KK; try simp only [Act.put, List.setIfInBounds_toArray, List.set_cons_zero, List.set_cons_succ])
  (repeat (refine wpSeqE_take (v := ?_) rfl (by rfl) (fun wq hSq => ?_) ?_; rotate_left; (focus ((try dsimp only at hSq); go_simp; try with_reducible rfl)); simp only [Act.put, List.setIfInBounds_toArray, List.set_cons_zero, List.set_cons_succ]))
  (refine wpSeqE_do rfl (by rfl) (fun KK hK => ?_); go_simp)
  refine (g_two _ _).mono ?_; rintro e u ⟨g, n, c, rfl, h⟩; replace A := Lib.hid (A.out.more h.out); clear h
  refine hK.out _ _ (fun _ => HB.out _ A.out.bl) ?_
  (clear hK KK; try simp only [Act.put, List.setIfInBounds_toArray, List.set_cons_zero, List.set_cons_succ])
  (repeat (refine wpSeqE_take (v := ?_) rfl (by rfl) (fun wq hSq => ?_) ?_; rotate_left; (focus ((try dsimp only at hSq); go_simp; try with_reducible rfl)); simp only [Act.put, List.setIfInBounds_toArray, List.set_cons_zero, List.set_cons_succ]))
  (refine wpSeqE_do rfl (by rfl) (fun KK hK => ?_); go_simp)
  refine (g_to _ _ _).mono ?_; rintro e u ⟨g, n, c, rfl, h⟩; replace A := Lib.hid (A.out.more h.out); clear h
  refine hK.out _ _ (fun _ => HB.out _ A.out.bl) ?_
  (clear hK KK; try simp only [Act.put, List.setIfInBounds_toArray, List.set_cons_zero, List.set_cons_succ])
  (repeat (refine wpSeqE_take (v := ?_) rfl (by rfl) (fun wq hSq => ?_) ?_; rotate_left; (focus ((try dsimp only at hSq); go_simp; try with_reducible rfl)); simp only [Act.put, List.setIfInBounds_toArray, List.set_cons_zero, List.set_cons_succ]))
  (refine wpSeqE_do rfl (by rfl) (fun KK hK => ?_); go_simp)
  refine (g_do _ _ _).mono ?_; rintro e u ⟨g, n, c, rfl, h⟩; replace A := Lib.hid (A.out.more h.out); clear h
  refine hK.out _ _ (fun _ => HB.out _ A.out.bl) ?_
  (clear hK KK; try simp only [Act.put, List.setIfInBounds_toArray, List.set_cons_zero, List.set_cons_succ])
  (repeat (refine wpSeqE_take (v := ?_) rfl (by rfl) (fun wq hSq => ?_) ?_; rotate_left; (focus ((try dsimp only at hSq); go_simp; try with_reducible rfl)); simp only [Act.put, List.setIfInBounds_toArray, List.set_cons_zero, List.set_cons_succ]))
  (refine wpSeqE_do rfl (by rfl) (fun KK hK => ?_); go_simp)
  refine (g_mark _ _).mono ?_; rintro e u ⟨g, n, c, rfl, h⟩; replace A := Lib.hid (A.out.more h.out); clear h
  refine hK.out _ _ (fun _ => HB.out _ A.out.bl) ?_
  (clear hK KK; try simp only [Act.put, List.setIfInBounds_toArray, List.set_cons_zero, List.set_cons_succ])
  (repeat (refine wpSeqE_take (v := ?_) rfl (by rfl) (fun wq hSq => ?_) ?_; rotate_left; (focus ((try dsimp only at hSq); go_simp; try with_reducible rfl)); simp only [Act.put, List.setIfInBounds_toArray, List.set_cons_zero, List.set_cons_succ]))
  (refine wpSeqE_do rfl (by rfl) (fun KK hK => ?_); go_simp)
  refine (g_spare hB hR _).mono ?_; rintro e u ⟨rfl, h⟩; replace A := Lib.hid (A.out.on h); clear h
  refine hK.out _ _ (fun _ => HB.out _ A.out.bl) ?_
  (clear hK KK; try simp only [Act.put, List.setIfInBounds_toArray, List.set_cons_zero, List.set_cons_succ])
  (repeat (refine wpSeqE_take (v := ?_) rfl (by rfl) (fun wq hSq => ?_) ?_; rotate_left; (focus ((try dsimp only at hSq); go_simp; try with_reducible rfl)); simp only [Act.put, List.setIfInBounds_toArray, List.set_cons_zero, List.set_cons_succ]))
  (refine wpSeqE_do rfl (by rfl) (fun KK hK => ?_); go_simp)
  refine (g_folded hB hR _ _).mono ?_; rintro e u ⟨g, n, c, rfl, h⟩; replace A := Lib.hid (A.out.more h.out); clear h
  refine hK.out _ _ (fun _ => HB.out _ A.out.bl) ?_
  (clear hK KK; try simp only [Act.put, List.setIfInBounds_toArray, List.set_cons_zero, List.set_cons_succ])
  (repeat (refine wpSeqE_take (v := ?_) rfl (by rfl) (fun wq hSq => ?_) ?_; rotate_left; (focus ((try dsimp only at hSq); go_simp; try with_reducible rfl)); simp only [Act.put, List.setIfInBounds_toArray, List.set_cons_zero, List.set_cons_succ]))
  (refine wpSeqE_do rfl (by rfl) (fun KK hK => ?_); go_simp)
  refine (g_set _ _).mono ?_; rintro e u ⟨g, n, c, rfl, h⟩; replace A := Lib.hid (A.out.more h.out); clear h
  refine hK.out _ _ (fun _ => HB.out _ A.out.bl) ?_
  (clear hK KK; try simp only [Act.put, List.setIfInBounds_toArray, List.set_cons_zero, List.set_cons_succ])
  (repeat (refine wpSeqE_take (v := ?_) rfl (by rfl) (fun wq hSq => ?_) ?_; rotate_left; (focus ((try dsimp only at hSq); go_simp; try with_reducible rfl)); simp only [Act.put, List.setIfInBounds_toArray, List.set_cons_zero, List.set_cons_succ]))
  (refine wpSeqE_do rfl (by rfl) (fun KK hK => ?_); go_simp)
  refine (g_get _ _).mono ?_; rintro e u ⟨g, n, c, rfl, h⟩; replace A := Lib.hid (A.out.more h.out); clear h
  refine hK.out _ _ (fun _ => HB.out _ A.out.bl) ?_
  (clear hK KK; try simp only [Act.put, List.setIfInBounds_toArray, List.set_cons_zero, List.set_cons_succ])
  (repeat (refine wpSeqE_take (v := ?_) rfl (by rfl) (fun wq hSq => ?_) ?_; rotate_left; (focus ((try dsimp only at hSq); go_simp; try with_reducible rfl)); simp only [Act.put, List.setIfInBounds_toArray, List.set_cons_zero, List.set_cons_succ]))
  (refine wpSeqE_do rfl (by rfl) (fun KK hK => ?_); go_simp)
  refine (g_to _ _ _).mono ?_; rintro e u ⟨g, n, c, rfl, h⟩; replace A := Lib.hid (A.out.more h.out); clear h
  refine hK.out _ _ (fun _ => HB.out _ A.out.bl) ?_
  (clear hK KK; try simp only [Act.put, List.setIfInBounds_toArray, List.set_cons_zero, List.set_cons_succ])
  (repeat (refine wpSeqE_take (v := ?_) rfl (by rfl) (fun wq hSq => ?_) ?_; rotate_left; (focus ((try dsimp only at hSq); go_simp; try with_reducible rfl)); simp only [Act.put, List.setIfInBounds_toArray, List.set_cons_zero, List.set_cons_succ]))
  (refine wpSeqE_do rfl (by rfl) (fun KK hK => ?_); go_simp)
  refine (g_count hB hR _).mono ?_; rintro e u ⟨rfl, h⟩; replace A := Lib.hid (A.out.on h); clear h
  refine hK.out _ _ (fun _ => HB.out _ A.out.bl) ?_
  (clear hK KK; try simp only [Act.put, List.setIfInBounds_toArray, List.set_cons_zero, List.set_cons_succ])
  (repeat (refine wpSeqE_take (v := ?_) rfl (by rfl) (fun wq hSq => ?_) ?_; rotate_left; (focus ((try dsimp only at hSq); go_simp; try with_reducible rfl)); simp only [Act.put, List.setIfInBounds_toArray, List.set_cons_zero, List.set_cons_succ]))
  (refine wpSeqE_do rfl (by rfl) (fun KK hK => ?_); go_simp)
  refine (g_folded hB hR _ _).mono ?_; rintro e u ⟨g, n, c, rfl, h⟩; replace A := Lib.hid (A.out.more h.out); clear h
  refine hK.out _ _ (fun _ => HB.out _ A.out.bl) ?_
  (clear hK KK; try simp only [Act.put, List.setIfInBounds_toArray, List.set_cons_zero, List.set_cons_succ])
  (repeat (refine wpSeqE_take (v := ?_) rfl (by rfl) (fun wq hSq => ?_) ?_; rotate_left; (focus ((try dsimp only at hSq); go_simp; try with_reducible rfl)); simp only [Act.put, List.setIfInBounds_toArray, List.set_cons_zero, List.set_cons_succ]))
  (refine wpSeqE_do rfl (by rfl) (fun KK hK => ?_); go_simp)
  refine (g_push _ _).mono ?_; rintro e u ⟨g, n, c, rfl, h⟩; replace A := Lib.hid (A.out.more h.out); clear h
  refine hK.out _ _ (fun _ => HB.out _ A.out.bl) ?_
  (clear hK KK; try simp only [Act.put, List.setIfInBounds_toArray, List.set_cons_zero, List.set_cons_succ])
  (repeat (refine wpSeqE_take (v := ?_) rfl (by rfl) (fun wq hSq => ?_) ?_; rotate_left; (focus ((try dsimp only at hSq); go_simp; try with_reducible rfl)); simp only [Act.put, List.setIfInBounds_toArray, List.set_cons_zero, List.set_cons_succ]))
  (refine wpSeqE_do rfl (by rfl) (fun KK hK => ?_); go_simp)
  refine (g_two _ _).mono ?_; rintro e u ⟨g, n, c, rfl, h⟩; replace A := Lib.hid (A.out.more h.out); clear h
  refine hK.out _ _ (fun _ => HB.out _ A.out.bl) ?_
  (clear hK KK; try simp only [Act.put, List.setIfInBounds_toArray, List.set_cons_zero, List.set_cons_succ])
  (repeat (refine wpSeqE_take (v := ?_) rfl (by rfl) (fun wq hSq => ?_) ?_; rotate_left; (focus ((try dsimp only at hSq); go_simp; try with_reducible rfl)); simp only [Act.put, List.setIfInBounds_toArray, List.set_cons_zero, List.set_cons_succ]))
  (refine wpSeqE_do rfl (by rfl) (fun KK hK => ?_); go_simp)
  refine (g_set _ _).mono ?_; rintro e u ⟨g, n, c, rfl, h⟩; replace A := Lib.hid (A.out.more h.out); clear h
  refine hK.out _ _ (fun _ => HB.out _ A.out.bl) ?_
  (clear hK KK; try simp only [Act.put, List.setIfInBounds_toArray, List.set_cons_zero, List.set_cons_succ])
  (repeat (refine wpSeqE_take (v := ?_) rfl (by rfl) (fun wq hSq => ?_) ?_; rotate_left; (focus ((try dsimp only at hSq); go_simp; try with_reducible rfl)); simp only [Act.put, List.setIfInBounds_toArray, List.set_cons_zero, List.set_cons_succ]))
  (refine wpSeqE_do rfl (by rfl) (fun KK hK => ?_); go_simp)
  refine (g_mark _ _).mono ?_; rintro e u ⟨g, n, c, rfl, h⟩; replace A := Lib.hid (A.out.more h.out); clear h
  refine hK.out _ _ (fun _ => HB.out _ A.out.bl) ?_
  (clear hK KK; try simp only [Act.put, List.setIfInBounds_toArray, List.set_cons_zero, List.set_cons_succ])
  (repeat (refine wpSeqE_take (v := ?_) rfl (by rfl) (fun wq hSq => ?_) ?_; rotate_left; (focus ((try dsimp only at hSq); go_simp; try with_reducible rfl)); simp only [Act.put, List.setIfInBounds_toArray, List.set_cons_zero, List.set_cons_succ]))
  (refine wpSeqE_do rfl (by rfl) (fun KK hK => ?_); go_simp)
  refine (g_goTo hB hR _).mono ?_; rintro e u ⟨g, n, c, rfl, h⟩; replace A := Lib.hid (A.out.more h.out); clear h
  refine hK.out _ _ (fun _ => HB.out _ A.out.bl) ?_
  (clear hK KK; try simp only [Act.put, List.setIfInBounds_toArray, List.set_cons_zero, List.set_cons_succ])
  (repeat (refine wpSeqE_take (v := ?_) rfl (by rfl) (fun wq hSq => ?_) ?_; rotate_left; (focus ((try dsimp only at hSq); go_simp; try with_reducible rfl)); simp only [Act.put, List.setIfInBounds_toArray, List.set_cons_zero, List.set_cons_succ]))
  (refine wpSeqE_do rfl (by rfl) (fun KK hK => ?_); go_simp)
  refine (g_load _ _ _).mono ?_; rintro e u ⟨g, n, c, rfl, h⟩; replace A := Lib.hid (A.out.more h.out); clear h
  refine hK.out _ _ (fun _ => HB.out _ A.out.bl) ?_
  (clear hK KK; try simp only [Act.put, List.setIfInBounds_toArray, List.set_cons_zero, List.set_cons_succ])
  (repeat (refine wpSeqE_take (v := ?_) rfl (by rfl) (fun wq hSq => ?_) ?_; rotate_left; (focus ((try dsimp only at hSq); go_simp; try with_reducible rfl)); simp only [Act.put, List.setIfInBounds_toArray, List.set_cons_zero, List.set_cons_succ]))
  (refine wpSeqE_do rfl (by rfl) (fun KK hK => ?_); go_simp)
  refine (g_spare hB hR _).mono ?_; rintro e u ⟨rfl, h⟩; replace A := Lib.hid (A.out.on h); clear h
  refine hK.out _ _ (fun _ => HB.out _ A.out.bl) ?_
  (clear hK KK; try simp only [Act.put, List.setIfInBounds_toArray, List.set_cons_zero, List.set_cons_succ])
  (repeat (refine wpSeqE_take (v := ?_) rfl (by rfl) (fun wq hSq => ?_) ?_; rotate_left; (focus ((try dsimp only at hSq); go_simp; try with_reducible rfl)); simp only [Act.put, List.setIfInBounds_toArray, List.set_cons_zero, List.set_cons_succ]))
  (refine wpSeqE_do rfl (by rfl) (fun KK hK => ?_); go_simp)
  refine (g_push _ _).mono ?_; rintro e u ⟨g, n, c, rfl, h⟩; replace A := Lib.hid (A.out.more h.out); clear h
  refine hK.out _ _ (fun _ => HB.out _ A.out.bl) ?_
  (clear hK KK; try simp only [Act.put, List.setIfInBounds_toArray, List.set_cons_zero, List.set_cons_succ])
  (repeat (refine wpSeqE_take (v := ?_) rfl (by rfl) (fun wq hSq => ?_) ?_; rotate_left; (focus ((try dsimp only at hSq); go_simp; try with_reducible rfl)); simp only [Act.put, List.setIfInBounds_toArray, List.set_cons_zero, List.set_cons_succ]))
  (refine wpSeqE_do rfl (by rfl) (fun KK hK => ?_); go_simp)
  refine (g_write _).mono ?_; rintro e u ⟨g, n, c, rfl, h⟩; replace A := Lib.hid (A.out.more h.out); clear h
  refine hK.out _ _ (fun _ => HB.out _ A.out.bl) ?_
  (clear hK KK; try simp only [Act.put, List.setIfInBounds_toArray, List.set_cons_zero, List.set_cons_succ])
  (repeat (refine wpSeqE_take (v := ?_) rfl (by rfl) (fun wq hSq => ?_) ?_; rotate_left; (focus ((try dsimp only at hSq); go_simp; try with_reducible rfl)); simp only [Act.put, List.setIfInBounds_toArray, List.set_cons_zero, List.set_cons_succ]))
  (refine wpSeqE_do rfl (by rfl) (fun KK hK => ?_); go_simp)
  refine (g_arg _ _).mono ?_; rintro e u ⟨g, n, c, rfl, h⟩; replace A := Lib.hid (A.out.more h.out); clear h
  refine hK.out _ _ (fun _ => HB.out _ A.out.bl) ?_
  (clear hK KK; try simp only [Act.put, List.setIfInBounds_toArray, List.set_cons_zero, List.set_cons_succ])
  (repeat (refine wpSeqE_take (v := ?_) rfl (by rfl) (fun wq hSq => ?_) ?_; rotate_left; (focus ((try dsimp only at hSq); go_simp; try with_reducible rfl)); simp only [Act.put, List.setIfInBounds_toArray, List.set_cons_zero, List.set_cons_succ]))
  (refine wpSeqE_do rfl (by rfl) (fun KK hK => ?_); go_simp)
  refine hK.out _ _ (fun _ => HB.out _ (A.out.on (bl1 _ _)).bl) ?_
  (clear hK KK; try simp only [Act.put, List.setIfInBounds_toArray, List.set_cons_zero, List.set_cons_succ])
  (repeat (refine wpSeqE_take (v := ?_) rfl (by rfl) (fun wq hSq => ?_) ?_; rotate_left; (focus ((try dsimp only at hSq); go_simp; try with_reducible rfl)); simp only [Act.put, List.setIfInBounds_toArray, List.set_cons_zero, List.set_cons_succ]))
  (refine wpSeqE_do rfl (by rfl) (fun KK hK => ?_); go_simp)
  refine (g_store ((A.out.take 1).parts rfl) rfl (Nat.le_of_ble_eq_true rfl) (Nat.le_of_ble_eq_true rfl) (Nat.le_of_ble_eq_true rfl) _ _).mono ?_; rintro e u ⟨g, n, c, rfl, h⟩; replace A := Lib.hid ((A.out.drop 1).over h.out); clear h
  refine hK.out _ _ (fun _ => HB.out _ A.out.bl) ?_
  (clear hK KK; try simp only [Act.put, List.setIfInBounds_toArray, List.set_cons_zero, List.set_cons_succ])
  (repeat (refine wpSeqE_take (v := ?_) rfl (by rfl) (fun wq hSq => ?_) ?_; rotate_left; (focus ((try dsimp only at hSq); go_simp; try with_reducible rfl)); simp only [Act.put, List.setIfInBounds_toArray, List.set_cons_zero, List.set_cons_succ]))
  (refine wpSeqE_do rfl (by rfl) (fun KK hK => ?_); go_simp)
  refine (g_arg _ _).mono ?_; rintro e u ⟨g, n, c, rfl, h⟩; replace A := Lib.hid (A.out.more h.out); clear h
  refine hK.out _ _ (fun _ => HB.out _ A.out.bl) ?_
  (clear hK KK; try simp only [Act.put, List.setIfInBounds_toArray, List.set_cons_zero, List.set_cons_succ])
  (repeat (refine wpSeqE_take (v := ?_) rfl (by rfl) (fun wq hSq => ?_) ?_; rotate_left; (focus ((try dsimp only at hSq); go_simp; try with_reducible rfl)); simp only [Act.put, List.setIfInBounds_toArray, List.set_cons_zero, List.set_cons_succ]))
  (refine wpSeqE_do rfl (by rfl) (fun KK hK => ?_); go_simp)
  refine hK.out _ _ (fun _ => HB.out _ (A.out.on (bl1 _ _)).bl) ?_
  (clear hK KK; try simp only [Act.put, List.setIfInBounds_toArray, List.set_cons_zero, List.set_cons_succ])
  (repeat (refine wpSeqE_take (v := ?_) rfl (by rfl) (fun wq hSq => ?_) ?_; rotate_left; (focus ((try dsimp only at hSq); go_simp; try with_reducible rfl)); simp only [Act.put, List.setIfInBounds_toArray, List.set_cons_zero, List.set_cons_succ]))
  (refine wpSeqE_do rfl (by rfl) (fun KK hK => ?_); go_simp)
  refine (g_store ((A.out.take 1).parts rfl) rfl (Nat.le_of_ble_eq_true rfl) (Nat.le_of_ble_eq_true rfl) (Nat.le_of_ble_eq_true rfl) _ _).mono ?_; rintro e u ⟨g, n, c, rfl, h⟩; replace A := Lib.hid ((A.out.drop 1).over h.out); clear h
  refine hK.out _ _ (fun _ => HB.out _ A.out.bl) ?_
  (clear hK KK; try simp only [Act.put, List.setIfInBounds_toArray, List.set_cons_zero, List.set_cons_succ])
  (repeat (refine wpSeqE_take (v := ?_) rfl (by rfl) (fun wq hSq => ?_) ?_; rotate_left; (focus ((try dsimp only at hSq); go_simp; try with_reducible rfl)); simp only [Act.put, List.setIfInBounds_toArray, List.set_cons_zero, List.set_cons_succ]))
  (refine wpSeqE_do rfl (by rfl) (fun KK hK => ?_); go_simp)
  refine (g_push _ _).mono ?_; rintro e u ⟨g, n, c, rfl, h⟩; replace A := Lib.hid (A.out.more h.out); clear h
  refine hK.out _ _ (fun _ => HB.out _ A.out.bl) ?_
  (clear hK KK; try simp only [Act.put, List.setIfInBounds_toArray, List.set_cons_zero, List.set_cons_succ])
  (repeat (refine wpSeqE_take (v := ?_) rfl (by rfl) (fun wq hSq => ?_) ?_; rotate_left; (focus ((try dsimp only at hSq); go_simp; try with_reducible rfl)); simp only [Act.put, List.setIfInBounds_toArray, List.set_cons_zero, List.set_cons_succ]))
  (refine wpSeqE_do rfl (by rfl) (fun KK hK => ?_); go_simp)
  refine hK.out _ _ (fun _ => HB.out _ (A.out.on (bl1 _ _)).bl) ?_
  (clear hK KK; try simp only [Act.put, List.setIfInBounds_toArray, List.set_cons_zero, List.set_cons_succ])
  (repeat (refine wpSeqE_take (v := ?_) rfl (by rfl) (fun wq hSq => ?_) ?_; rotate_left; (focus ((try dsimp only at hSq); go_simp; try with_reducible rfl)); simp only [Act.put, List.setIfInBounds_toArray, List.set_cons_zero, List.set_cons_succ]))
  (refine wpSeqE_do rfl (by rfl) (fun KK hK => ?_); go_simp)
  refine (g_store ((A.out.take 1).parts rfl) rfl (Nat.le_of_ble_eq_true rfl) (Nat.le_of_ble_eq_true rfl) (Nat.le_of_ble_eq_true rfl) _ _).mono ?_; rintro e u ⟨g, n, c, rfl, h⟩; replace A := Lib.hid ((A.out.drop 1).over h.out); clear h
  refine hK.out _ _ (fun _ => HB.out _ A.out.bl) ?_
  (clear hK KK; try simp only [Act.put, List.setIfInBounds_toArray, List.set_cons_zero, List.set_cons_succ])
  (repeat (refine wpSeqE_take (v := ?_) rfl (by rfl) (fun wq hSq => ?_) ?_; rotate_left; (focus ((try dsimp only at hSq); go_simp; try with_reducible rfl)); simp only [Act.put, List.setIfInBounds_toArray, List.set_cons_zero, List.set_cons_succ]))
  (refine wpSeqE_do rfl (by rfl) (fun KK hK => ?_); go_simp)
  refine (g_get _ _).mono ?_; rintro e u ⟨g, n, c, rfl, h⟩; replace A := Lib.hid (A.out.more h.out); clear h
  refine hK.out _ _ (fun _ => HB.out _ A.out.bl) ?_
  (clear hK KK; try simp only [Act.put, List.setIfInBounds_toArray, List.set_cons_zero, List.set_cons_succ])
  (repeat (refine wpSeqE_take (v := ?_) rfl (by rfl) (fun wq hSq => ?_) ?_; rotate_left; (focus ((try dsimp only at hSq); go_simp; try with_reducible rfl)); simp only [Act.put, List.setIfInBounds_toArray, List.set_cons_zero, List.set_cons_succ]))
  (refine wpSeqE_do rfl (by rfl) (fun KK hK => ?_); go_simp)
  refine hK.out _ _ (fun _ => HB.out _ (A.out.on (bl1 _ _)).bl) ?_
  (clear hK KK; try simp only [Act.put, List.setIfInBounds_toArray, List.set_cons_zero, List.set_cons_succ])
  (repeat (refine wpSeqE_take (v := ?_) rfl (by rfl) (fun wq hSq => ?_) ?_; rotate_left; (focus ((try dsimp only at hSq); go_simp; try with_reducible rfl)); simp only [Act.put, List.setIfInBounds_toArray, List.set_cons_zero, List.set_cons_succ]))
  (refine wpSeqE_do rfl (by rfl) (fun KK hK => ?_); go_simp)
  refine (g_relink hB hR ((A.out.take 1).parts rfl) rfl (Nat.le_of_ble_eq_true rfl) (Nat.le_of_ble_eq_true rfl) (Nat.le_of_ble_eq_true rfl)).mono ?_; rintro e u ⟨g, n, c, rfl, h⟩; replace A := Lib.hid ((A.out.drop 1).over h.out); clear h
  refine hK.out _ _ (fun _ => HB.out _ A.out.bl) ?_
  (clear hK KK; try simp only [Act.put, List.setIfInBounds_toArray, List.set_cons_zero, List.set_cons_succ])
  (repeat (refine wpSeqE_take (v := ?_) rfl (by rfl) (fun wq hSq => ?_) ?_; rotate_left; (focus ((try dsimp only at hSq); go_simp; try with_reducible rfl)); simp only [Act.put, List.setIfInBounds_toArray, List.set_cons_zero, List.set_cons_succ]))
  (refine wpSeqE_do rfl (by rfl) (fun KK hK => ?_); go_simp)
  refine (g_grow hB hR _ _).mono ?_; rintro e u ⟨g, n, c, rfl, h⟩; replace A := Lib.hid (A.out.more h.out); clear h
  refine hK.out _ _ (fun _ => HB.out _ A.out.bl) ?_
  (clear hK KK; try simp only [Act.put, List.setIfInBounds_toArray, List.set_cons_zero, List.set_cons_succ])
  (repeat (refine wpSeqE_take (v := ?_) rfl (by rfl) (fun wq hSq => ?_) ?_; rotate_left; (focus ((try dsimp only at hSq); go_simp; try with_reducible rfl)); simp only [Act.put, List.setIfInBounds_toArray, List.set_cons_zero, List.set_cons_succ]))
  (refine wpSeqE_do rfl (by rfl) (fun KK hK => ?_); go_simp)
  refine (g_tell _ _).mono ?_; rintro e u ⟨g, n, c, rfl, h⟩; replace A := Lib.hid (A.out.more h.out); clear h
  refine hK.out _ _ (fun _ => HB.out _ A.out.bl) ?_
  (clear hK KK; try simp only [Act.put, List.setIfInBounds_toArray, List.set_cons_zero, List.set_cons_succ])
  (repeat (refine wpSeqE_take (v := ?_) rfl (by rfl) (fun wq hSq => ?_) ?_; rotate_left; (focus ((try dsimp only at hSq); go_simp; try with_reducible rfl)); simp only [Act.put, List.setIfInBounds_toArray, List.set_cons_zero, List.set_cons_succ]))
  (refine wpSeqE_do rfl (by rfl) (fun KK hK => ?_); go_simp)
  refine hK.out _ _ (fun _ => HB.out _ (A.out.on (bl1 _ _)).bl) ?_
  (clear hK KK; try simp only [Act.put, List.setIfInBounds_toArray, List.set_cons_zero, List.set_cons_succ])
  (repeat (refine wpSeqE_take (v := ?_) rfl (by rfl) (fun wq hSq => ?_) ?_; rotate_left; (focus ((try dsimp only at hSq); go_simp; try with_reducible rfl)); simp only [Act.put, List.setIfInBounds_toArray, List.set_cons_zero, List.set_cons_succ]))
  (refine wpSeqE_do rfl (by rfl) (fun KK hK => ?_); go_simp)
  refine (g_program 2 (A.out.parts rfl) rfl (Nat.le_of_ble_eq_true rfl) (Nat.le_of_ble_eq_true rfl) (Nat.le_of_ble_eq_true rfl) (put_wf B R) (HT.out.on ((pgW_bl w B R).trans (((A.out.on (bl1 _ _)).bl).mono (by rw [pgW_size]; omega)))) (put_ans B R)).mono ?_; rintro e u ⟨p, n, c, rfl, hZ⟩; have HBL := Lib.hid (A.out.bl.trans (((bl1 _ _).trans (hZ.out.2.2.mono (by simp))).mono A.out.bl.size)); obtain ⟨⟨x0, x1⟩, y0, y1, y2, y3, y4⟩ := pg_cells w B R _ HBL.out
  refine hK.out _ _ (fun _ => ⟨x0, x1⟩) ?_
  (clear hK KK; try simp only [Act.put, List.setIfInBounds_toArray, List.set_cons_zero, List.set_cons_succ])
  (repeat (refine wpSeqE_take (v := ?_) rfl (by rfl) (fun wq hSq => ?_) ?_; rotate_left; (focus ((try dsimp only at hSq); go_simp; try with_reducible rfl)); simp only [Act.put, List.setIfInBounds_toArray, List.set_cons_zero, List.set_cons_succ]))
  (refine wpSeqE_do rfl (by rfl) (fun KK hK => ?_); go_simp)
  refine hK.out _ _ (fun hn => absurd rfl hn) ?_
  (clear hK KK; try simp only [Act.put])
  refine wpSeqE_nil ?_
  go_wp2_with fail
  obtain ⟨f1, f2, f3⟩ := hZ.out
  change RowW 108 3 u p c n (codC ((bsOf 2 (putO B R).flatten).filled.map fixI)) at f2
  change n = (bsOf 2 (putO B R).flatten).code.length at f1
  rw [put_code] at f2
  obtain ⟨z1, z2, z3⟩ := pg_end (t := 2) HBL.out f2
  exact pg_back rfl (w.heap.size + 1) 2 p n c rfl z1 rfl ⟨p, n, c, rfl, f1.trans (bs_len (put_code B R)), z2, z3⟩
set_option maxHeartbeats 2000000 in
set_option maxRecDepth 100000 in
theorem g_pdel (hB : 0 ≤ B ∧ B ≤ 256) (hR : 0 ≤ R ∧ R ≤ 16) (hT : Shaped5 w) : Calls Tryz.prog 22 #[.agg #[.int .i64 B, .int .i64 R]] w fun e w' => PgC w 2 (delC B R) e w' := by
  have HB : Hid (∀ u, Below (pgW w B R).heap.size (pgW w B R) u → u.cell? ⟨w.heap.size, 0, none⟩ = some (.int .i64 B) ∧ u.cell? ⟨w.heap.size, 1, none⟩ = some (.int .i64 R)) := fun u k => (pg_cells w B R u k).1
  have A : Hid (Acc (pgW w B R) ((pgW w B R).drew) []) := acc_nil ((Same.drew _).below _)
  have HT : Hid (Shaped5 w) := hT
  clear hT
  go_enter Tryz.func22, Tryz.ntmps22
  go_wp2_with fail
  refine wp_region_seqE (fun u => u.cell? ⟨w.heap.size, 0, none⟩ = some (.int .i64 B) ∧ u.cell? ⟨w.heap.size, 1, none⟩ = some (.int .i64 R)) ((0, true) :: (5, true) :: (8, true) :: (15, true) :: (19, true) :: (20, true) :: (35, true) :: (36, true) :: (38, true) :: (45, true) :: (46, true) :: (52, true) :: (56, true) :: (1, false) :: (2, false) :: (3, false) :: (4, false) :: (6, false) :: (7, false) :: (9, false) :: (10, false) :: (11, false) :: (12, false) :: (13, false) :: (14, false) :: (16, false) :: (17, false) :: (18, false) :: (21, false) :: (22, false) :: (23, false) :: (24, false) :: (25, false) :: (26, false) :: (27, false) :: (28, false) :: (29, false) :: (30, false) :: (31, false) :: (32, false) :: (33, false) :: (34, false) :: (37, false) :: (39, false) :: (40, false) :: (41, false) :: (42, false) :: (43, false) :: (44, false) :: (47, false) :: (48, false) :: (49, false) :: (50, false) :: (51, false) :: (53, false) :: (54, false) :: (55, false) :: (57, false) :: (58, false) :: (59, false) :: (60, false) :: (61, false) :: []) follows (by kernel_rfl) (fun _ _ _ _ _ h => h) (HB.out _ ((Same.drew _).below _)) ?_
  (repeat (refine wpSeqE_take (v := ?_) rfl (by rfl) (fun wq hSq => ?_) ?_; rotate_left; (focus ((try dsimp only at hSq); go_simp; try with_reducible rfl)); simp only [Act.put, List.setIfInBounds_toArray, List.set_cons_zero, List.set_cons_succ]))
  (refine wpSeqE_do rfl (by rfl) (fun KK hK => ?_); go_simp)
  refine (g_search hB hR _).mono ?_; rintro e u ⟨g, n, c, rfl, h⟩; replace A := Lib.hid (A.out.more h.out); clear h
  refine hK.out _ _ (fun _ => HB.out _ A.out.bl) ?_
  (clear hK KK; try simp only [Act.put, List.setIfInBounds_toArray, List.set_cons_zero, List.set_cons_succ])
  (repeat (refine wpSeqE_take (v := ?_) rfl (by rfl) (fun wq hSq => ?_) ?_; rotate_left; (focus ((try dsimp only at hSq); go_simp; try with_reducible rfl)); simp only [Act.put, List.setIfInBounds_toArray, List.set_cons_zero, List.set_cons_succ]))
  (refine wpSeqE_do rfl (by rfl) (fun KK hK => ?_); go_simp)
  refine (g_mark _ _).mono ?_; rintro e u ⟨g, n, c, rfl, h⟩; replace A := Lib.hid (A.out.more h.out); clear h
  refine hK.out _ _ (fun _ => HB.out _ A.out.bl) ?_
  (clear hK KK; try simp only [Act.put, List.setIfInBounds_toArray, List.set_cons_zero, List.set_cons_succ])
  (repeat (refine wpSeqE_take (v := ?_) rfl (by rfl) (fun wq hSq => ?_) ?_; rotate_left; (focus ((try dsimp only at hSq); go_simp; try with_reducible rfl)); simp only [Act.put, List.setIfInBounds_toArray, List.set_cons_zero, List.set_cons_succ]))
  (refine wpSeqE_do rfl (by rfl) (fun KK hK => ?_); go_simp)
  refine (g_tell _ _).mono ?_; rintro e u ⟨g, n, c, rfl, h⟩; replace A := Lib.hid (A.out.more h.out); clear h
  refine hK.out _ _ (fun _ => HB.out _ A.out.bl) ?_
  (clear hK KK; try simp only [Act.put, List.setIfInBounds_toArray, List.set_cons_zero, List.set_cons_succ])
  (repeat (refine wpSeqE_take (v := ?_) rfl (by rfl) (fun wq hSq => ?_) ?_; rotate_left; (focus ((try dsimp only at hSq); go_simp; try with_reducible rfl)); simp only [Act.put, List.setIfInBounds_toArray, List.set_cons_zero, List.set_cons_succ]))
  (refine wpSeqE_do rfl (by rfl) (fun KK hK => ?_); go_simp)
  refine (g_mark _ _).mono ?_; rintro e u ⟨g, n, c, rfl, h⟩; replace A := Lib.hid (A.out.more h.out); clear h
  refine hK.out _ _ (fun _ => HB.out _ A.out.bl) ?_
  (clear hK KK; try simp only [Act.put, List.setIfInBounds_toArray, List.set_cons_zero, List.set_cons_succ])
  (repeat (refine wpSeqE_take (v := ?_) rfl (by rfl) (fun wq hSq => ?_) ?_; rotate_left; (focus ((try dsimp only at hSq); go_simp; try with_reducible rfl)); simp only [Act.put, List.setIfInBounds_toArray, List.set_cons_zero, List.set_cons_succ]))
  (refine wpSeqE_do rfl (by rfl) (fun KK hK => ?_); go_simp)
  refine (g_ahead hB hR _).mono ?_; rintro e u ⟨g, n, c, rfl, h⟩; replace A := Lib.hid (A.out.more h.out); clear h
  refine hK.out _ _ (fun _ => HB.out _ A.out.bl) ?_
  (clear hK KK; try simp only [Act.put, List.setIfInBounds_toArray, List.set_cons_zero, List.set_cons_succ])
  (repeat (refine wpSeqE_take (v := ?_) rfl (by rfl) (fun wq hSq => ?_) ?_; rotate_left; (focus ((try dsimp only at hSq); go_simp; try with_reducible rfl)); simp only [Act.put, List.setIfInBounds_toArray, List.set_cons_zero, List.set_cons_succ]))
  (refine wpSeqE_do rfl (by rfl) (fun KK hK => ?_); go_simp)
  refine (g_to _ _ _).mono ?_; rintro e u ⟨g, n, c, rfl, h⟩; replace A := Lib.hid (A.out.more h.out); clear h
  refine hK.out _ _ (fun _ => HB.out _ A.out.bl) ?_
  (clear hK KK; try simp only [Act.put, List.setIfInBounds_toArray, List.set_cons_zero, List.set_cons_succ])
  (repeat (refine wpSeqE_take (v := ?_) rfl (by rfl) (fun wq hSq => ?_) ?_; rotate_left; (focus ((try dsimp only at hSq); go_simp; try with_reducible rfl)); simp only [Act.put, List.setIfInBounds_toArray, List.set_cons_zero, List.set_cons_succ]))
  (refine wpSeqE_do rfl (by rfl) (fun KK hK => ?_); go_simp)
  refine (g_behind hB hR _).mono ?_; rintro e u ⟨g, n, c, rfl, h⟩; replace A := Lib.hid (A.out.more h.out); clear h
  refine hK.out _ _ (fun _ => HB.out _ A.out.bl) ?_
  (clear hK KK; try simp only [Act.put, List.setIfInBounds_toArray, List.set_cons_zero, List.set_cons_succ])
  (repeat (refine wpSeqE_take (v := ?_) rfl (by rfl) (fun wq hSq => ?_) ?_; rotate_left; (focus ((try dsimp only at hSq); go_simp; try with_reducible rfl)); simp only [Act.put, List.setIfInBounds_toArray, List.set_cons_zero, List.set_cons_succ]))
  (refine wpSeqE_do rfl (by rfl) (fun KK hK => ?_); go_simp)
  refine (g_to _ _ _).mono ?_; rintro e u ⟨g, n, c, rfl, h⟩; replace A := Lib.hid (A.out.more h.out); clear h
  refine hK.out _ _ (fun _ => HB.out _ A.out.bl) ?_
  (clear hK KK; try simp only [Act.put, List.setIfInBounds_toArray, List.set_cons_zero, List.set_cons_succ])
  (repeat (refine wpSeqE_take (v := ?_) rfl (by rfl) (fun wq hSq => ?_) ?_; rotate_left; (focus ((try dsimp only at hSq); go_simp; try with_reducible rfl)); simp only [Act.put, List.setIfInBounds_toArray, List.set_cons_zero, List.set_cons_succ]))
  (refine wpSeqE_do rfl (by rfl) (fun KK hK => ?_); go_simp)
  refine (g_get _ _).mono ?_; rintro e u ⟨g, n, c, rfl, h⟩; replace A := Lib.hid (A.out.more h.out); clear h
  refine hK.out _ _ (fun _ => HB.out _ A.out.bl) ?_
  (clear hK KK; try simp only [Act.put, List.setIfInBounds_toArray, List.set_cons_zero, List.set_cons_succ])
  (repeat (refine wpSeqE_take (v := ?_) rfl (by rfl) (fun wq hSq => ?_) ?_; rotate_left; (focus ((try dsimp only at hSq); go_simp; try with_reducible rfl)); simp only [Act.put, List.setIfInBounds_toArray, List.set_cons_zero, List.set_cons_succ]))
  (refine wpSeqE_do rfl (by rfl) (fun KK hK => ?_); go_simp)
  refine (g_set _ _).mono ?_; rintro e u ⟨g, n, c, rfl, h⟩; replace A := Lib.hid (A.out.more h.out); clear h
  refine hK.out _ _ (fun _ => HB.out _ A.out.bl) ?_
  (clear hK KK; try simp only [Act.put, List.setIfInBounds_toArray, List.set_cons_zero, List.set_cons_succ])
  (repeat (refine wpSeqE_take (v := ?_) rfl (by rfl) (fun wq hSq => ?_) ?_; rotate_left; (focus ((try dsimp only at hSq); go_simp; try with_reducible rfl)); simp only [Act.put, List.setIfInBounds_toArray, List.set_cons_zero, List.set_cons_succ]))
  (refine wpSeqE_do rfl (by rfl) (fun KK hK => ?_); go_simp)
  refine (g_cell _ _ _).mono ?_; rintro e u ⟨g, n, c, rfl, h⟩; replace A := Lib.hid (A.out.more h.out); clear h
  refine hK.out _ _ (fun _ => HB.out _ A.out.bl) ?_
  (clear hK KK; try simp only [Act.put, List.setIfInBounds_toArray, List.set_cons_zero, List.set_cons_succ])
  (repeat (refine wpSeqE_take (v := ?_) rfl (by rfl) (fun wq hSq => ?_) ?_; rotate_left; (focus ((try dsimp only at hSq); go_simp; try with_reducible rfl)); simp only [Act.put, List.setIfInBounds_toArray, List.set_cons_zero, List.set_cons_succ]))
  (refine wpSeqE_do rfl (by rfl) (fun KK hK => ?_); go_simp)
  refine (g_set _ _).mono ?_; rintro e u ⟨g, n, c, rfl, h⟩; replace A := Lib.hid (A.out.more h.out); clear h
  refine hK.out _ _ (fun _ => HB.out _ A.out.bl) ?_
  (clear hK KK; try simp only [Act.put, List.setIfInBounds_toArray, List.set_cons_zero, List.set_cons_succ])
  (repeat (refine wpSeqE_take (v := ?_) rfl (by rfl) (fun wq hSq => ?_) ?_; rotate_left; (focus ((try dsimp only at hSq); go_simp; try with_reducible rfl)); simp only [Act.put, List.setIfInBounds_toArray, List.set_cons_zero, List.set_cons_succ]))
  (refine wpSeqE_do rfl (by rfl) (fun KK hK => ?_); go_simp)
  refine (g_wide hB hR _).mono ?_; rintro e u ⟨rfl, h⟩; replace A := Lib.hid (A.out.on h); clear h
  refine hK.out _ _ (fun _ => HB.out _ A.out.bl) ?_
  (clear hK KK; try simp only [Act.put, List.setIfInBounds_toArray, List.set_cons_zero, List.set_cons_succ])
  (repeat (refine wpSeqE_take (v := ?_) rfl (by rfl) (fun wq hSq => ?_) ?_; rotate_left; (focus ((try dsimp only at hSq); go_simp; try with_reducible rfl)); simp only [Act.put, List.setIfInBounds_toArray, List.set_cons_zero, List.set_cons_succ]))
  (refine wpSeqE_do rfl (by rfl) (fun KK hK => ?_); go_simp)
  refine (g_push _ _).mono ?_; rintro e u ⟨g, n, c, rfl, h⟩; replace A := Lib.hid (A.out.more h.out); clear h
  refine hK.out _ _ (fun _ => HB.out _ A.out.bl) ?_
  (clear hK KK; try simp only [Act.put, List.setIfInBounds_toArray, List.set_cons_zero, List.set_cons_succ])
  (repeat (refine wpSeqE_take (v := ?_) rfl (by rfl) (fun wq hSq => ?_) ?_; rotate_left; (focus ((try dsimp only at hSq); go_simp; try with_reducible rfl)); simp only [Act.put, List.setIfInBounds_toArray, List.set_cons_zero, List.set_cons_succ]))
  (refine wpSeqE_do rfl (by rfl) (fun KK hK => ?_); go_simp)
  refine (g_set _ _).mono ?_; rintro e u ⟨g, n, c, rfl, h⟩; replace A := Lib.hid (A.out.more h.out); clear h
  refine hK.out _ _ (fun _ => HB.out _ A.out.bl) ?_
  (clear hK KK; try simp only [Act.put, List.setIfInBounds_toArray, List.set_cons_zero, List.set_cons_succ])
  (repeat (refine wpSeqE_take (v := ?_) rfl (by rfl) (fun wq hSq => ?_) ?_; rotate_left; (focus ((try dsimp only at hSq); go_simp; try with_reducible rfl)); simp only [Act.put, List.setIfInBounds_toArray, List.set_cons_zero, List.set_cons_succ]))
  (refine wpSeqE_do rfl (by rfl) (fun KK hK => ?_); go_simp)
  refine (g_ahead hB hR _).mono ?_; rintro e u ⟨g, n, c, rfl, h⟩; replace A := Lib.hid (A.out.more h.out); clear h
  refine hK.out _ _ (fun _ => HB.out _ A.out.bl) ?_
  (clear hK KK; try simp only [Act.put, List.setIfInBounds_toArray, List.set_cons_zero, List.set_cons_succ])
  (repeat (refine wpSeqE_take (v := ?_) rfl (by rfl) (fun wq hSq => ?_) ?_; rotate_left; (focus ((try dsimp only at hSq); go_simp; try with_reducible rfl)); simp only [Act.put, List.setIfInBounds_toArray, List.set_cons_zero, List.set_cons_succ]))
  (refine wpSeqE_do rfl (by rfl) (fun KK hK => ?_); go_simp)
  refine (g_to _ _ _).mono ?_; rintro e u ⟨g, n, c, rfl, h⟩; replace A := Lib.hid (A.out.more h.out); clear h
  refine hK.out _ _ (fun _ => HB.out _ A.out.bl) ?_
  (clear hK KK; try simp only [Act.put, List.setIfInBounds_toArray, List.set_cons_zero, List.set_cons_succ])
  (repeat (refine wpSeqE_take (v := ?_) rfl (by rfl) (fun wq hSq => ?_) ?_; rotate_left; (focus ((try dsimp only at hSq); go_simp; try with_reducible rfl)); simp only [Act.put, List.setIfInBounds_toArray, List.set_cons_zero, List.set_cons_succ]))
  (refine wpSeqE_do rfl (by rfl) (fun KK hK => ?_); go_simp)
  refine (g_push _ _).mono ?_; rintro e u ⟨g, n, c, rfl, h⟩; replace A := Lib.hid (A.out.more h.out); clear h
  refine hK.out _ _ (fun _ => HB.out _ A.out.bl) ?_
  (clear hK KK; try simp only [Act.put, List.setIfInBounds_toArray, List.set_cons_zero, List.set_cons_succ])
  (repeat (refine wpSeqE_take (v := ?_) rfl (by rfl) (fun wq hSq => ?_) ?_; rotate_left; (focus ((try dsimp only at hSq); go_simp; try with_reducible rfl)); simp only [Act.put, List.setIfInBounds_toArray, List.set_cons_zero, List.set_cons_succ]))
  (refine wpSeqE_do rfl (by rfl) (fun KK hK => ?_); go_simp)
  refine (g_set _ _).mono ?_; rintro e u ⟨g, n, c, rfl, h⟩; replace A := Lib.hid (A.out.more h.out); clear h
  refine hK.out _ _ (fun _ => HB.out _ A.out.bl) ?_
  (clear hK KK; try simp only [Act.put, List.setIfInBounds_toArray, List.set_cons_zero, List.set_cons_succ])
  (repeat (refine wpSeqE_take (v := ?_) rfl (by rfl) (fun wq hSq => ?_) ?_; rotate_left; (focus ((try dsimp only at hSq); go_simp; try with_reducible rfl)); simp only [Act.put, List.setIfInBounds_toArray, List.set_cons_zero, List.set_cons_succ]))
  (refine wpSeqE_do rfl (by rfl) (fun KK hK => ?_); go_simp)
  refine hK.out _ _ (fun _ => HB.out _ (A.out.on (bl1 _ _)).bl) ?_
  (clear hK KK; try simp only [Act.put, List.setIfInBounds_toArray, List.set_cons_zero, List.set_cons_succ])
  (repeat (refine wpSeqE_take (v := ?_) rfl (by rfl) (fun wq hSq => ?_) ?_; rotate_left; (focus ((try dsimp only at hSq); go_simp; try with_reducible rfl)); simp only [Act.put, List.setIfInBounds_toArray, List.set_cons_zero, List.set_cons_succ]))
  (refine wpSeqE_do rfl (by rfl) (fun KK hK => ?_); go_simp)
  refine (g_walk hB hR ((A.out.take 4).parts rfl) rfl (Nat.le_of_ble_eq_true rfl) (Nat.le_of_ble_eq_true rfl) (Nat.le_of_ble_eq_true rfl) _ _).mono ?_; rintro e u ⟨g, n, c, rfl, h⟩; replace A := Lib.hid ((A.out.drop 4).over h.out); clear h
  refine hK.out _ _ (fun _ => HB.out _ A.out.bl) ?_
  (clear hK KK; try simp only [Act.put, List.setIfInBounds_toArray, List.set_cons_zero, List.set_cons_succ])
  (repeat (refine wpSeqE_take (v := ?_) rfl (by rfl) (fun wq hSq => ?_) ?_; rotate_left; (focus ((try dsimp only at hSq); go_simp; try with_reducible rfl)); simp only [Act.put, List.setIfInBounds_toArray, List.set_cons_zero, List.set_cons_succ]))
  (refine wpSeqE_do rfl (by rfl) (fun KK hK => ?_); go_simp)
  refine (g_mark _ _).mono ?_; rintro e u ⟨g, n, c, rfl, h⟩; replace A := Lib.hid (A.out.more h.out); clear h
  refine hK.out _ _ (fun _ => HB.out _ A.out.bl) ?_
  (clear hK KK; try simp only [Act.put, List.setIfInBounds_toArray, List.set_cons_zero, List.set_cons_succ])
  (repeat (refine wpSeqE_take (v := ?_) rfl (by rfl) (fun wq hSq => ?_) ?_; rotate_left; (focus ((try dsimp only at hSq); go_simp; try with_reducible rfl)); simp only [Act.put, List.setIfInBounds_toArray, List.set_cons_zero, List.set_cons_succ]))
  (refine wpSeqE_do rfl (by rfl) (fun KK hK => ?_); go_simp)
  refine (g_load _ _ _).mono ?_; rintro e u ⟨g, n, c, rfl, h⟩; replace A := Lib.hid (A.out.more h.out); clear h
  refine hK.out _ _ (fun _ => HB.out _ A.out.bl) ?_
  (clear hK KK; try simp only [Act.put, List.setIfInBounds_toArray, List.set_cons_zero, List.set_cons_succ])
  (repeat (refine wpSeqE_take (v := ?_) rfl (by rfl) (fun wq hSq => ?_) ?_; rotate_left; (focus ((try dsimp only at hSq); go_simp; try with_reducible rfl)); simp only [Act.put, List.setIfInBounds_toArray, List.set_cons_zero, List.set_cons_succ]))
  (refine wpSeqE_do rfl (by rfl) (fun KK hK => ?_); go_simp)
  refine hK.out _ _ (fun _ => HB.out _ (A.out.on (bl1 _ _)).bl) ?_
  (clear hK KK; try simp only [Act.put, List.setIfInBounds_toArray, List.set_cons_zero, List.set_cons_succ])
  (repeat (refine wpSeqE_take (v := ?_) rfl (by rfl) (fun wq hSq => ?_) ?_; rotate_left; (focus ((try dsimp only at hSq); go_simp; try with_reducible rfl)); simp only [Act.put, List.setIfInBounds_toArray, List.set_cons_zero, List.set_cons_succ]))
  (refine wpSeqE_do rfl (by rfl) (fun KK hK => ?_); go_simp)
  refine (g_store ((A.out.take 1).parts rfl) rfl (Nat.le_of_ble_eq_true rfl) (Nat.le_of_ble_eq_true rfl) (Nat.le_of_ble_eq_true rfl) _ _).mono ?_; rintro e u ⟨g, n, c, rfl, h⟩; replace A := Lib.hid ((A.out.drop 1).over h.out); clear h
  refine hK.out _ _ (fun _ => HB.out _ A.out.bl) ?_
  (clear hK KK; try simp only [Act.put, List.setIfInBounds_toArray, List.set_cons_zero, List.set_cons_succ])
  (repeat (refine wpSeqE_take (v := ?_) rfl (by rfl) (fun wq hSq => ?_) ?_; rotate_left; (focus ((try dsimp only at hSq); go_simp; try with_reducible rfl)); simp only [Act.put, List.setIfInBounds_toArray, List.set_cons_zero, List.set_cons_succ]))
  (refine wpSeqE_do rfl (by rfl) (fun KK hK => ?_); go_simp)
  refine (g_load _ _ _).mono ?_; rintro e u ⟨g, n, c, rfl, h⟩; replace A := Lib.hid (A.out.more h.out); clear h
  refine hK.out _ _ (fun _ => HB.out _ A.out.bl) ?_
  (clear hK KK; try simp only [Act.put, List.setIfInBounds_toArray, List.set_cons_zero, List.set_cons_succ])
  (repeat (refine wpSeqE_take (v := ?_) rfl (by rfl) (fun wq hSq => ?_) ?_; rotate_left; (focus ((try dsimp only at hSq); go_simp; try with_reducible rfl)); simp only [Act.put, List.setIfInBounds_toArray, List.set_cons_zero, List.set_cons_succ]))
  (refine wpSeqE_do rfl (by rfl) (fun KK hK => ?_); go_simp)
  refine hK.out _ _ (fun _ => HB.out _ (A.out.on (bl1 _ _)).bl) ?_
  (clear hK KK; try simp only [Act.put, List.setIfInBounds_toArray, List.set_cons_zero, List.set_cons_succ])
  (repeat (refine wpSeqE_take (v := ?_) rfl (by rfl) (fun wq hSq => ?_) ?_; rotate_left; (focus ((try dsimp only at hSq); go_simp; try with_reducible rfl)); simp only [Act.put, List.setIfInBounds_toArray, List.set_cons_zero, List.set_cons_succ]))
  (refine wpSeqE_do rfl (by rfl) (fun KK hK => ?_); go_simp)
  refine (g_store ((A.out.take 1).parts rfl) rfl (Nat.le_of_ble_eq_true rfl) (Nat.le_of_ble_eq_true rfl) (Nat.le_of_ble_eq_true rfl) _ _).mono ?_; rintro e u ⟨g, n, c, rfl, h⟩; replace A := Lib.hid ((A.out.drop 1).over h.out); clear h
  refine hK.out _ _ (fun _ => HB.out _ A.out.bl) ?_
  (clear hK KK; try simp only [Act.put, List.setIfInBounds_toArray, List.set_cons_zero, List.set_cons_succ])
  (repeat (refine wpSeqE_take (v := ?_) rfl (by rfl) (fun wq hSq => ?_) ?_; rotate_left; (focus ((try dsimp only at hSq); go_simp; try with_reducible rfl)); simp only [Act.put, List.setIfInBounds_toArray, List.set_cons_zero, List.set_cons_succ]))
  (refine wpSeqE_do rfl (by rfl) (fun KK hK => ?_); go_simp)
  refine (g_mark _ _).mono ?_; rintro e u ⟨g, n, c, rfl, h⟩; replace A := Lib.hid (A.out.more h.out); clear h
  refine hK.out _ _ (fun _ => HB.out _ A.out.bl) ?_
  (clear hK KK; try simp only [Act.put, List.setIfInBounds_toArray, List.set_cons_zero, List.set_cons_succ])
  (repeat (refine wpSeqE_take (v := ?_) rfl (by rfl) (fun wq hSq => ?_) ?_; rotate_left; (focus ((try dsimp only at hSq); go_simp; try with_reducible rfl)); simp only [Act.put, List.setIfInBounds_toArray, List.set_cons_zero, List.set_cons_succ]))
  (refine wpSeqE_do rfl (by rfl) (fun KK hK => ?_); go_simp)
  refine (g_ahead hB hR _).mono ?_; rintro e u ⟨g, n, c, rfl, h⟩; replace A := Lib.hid (A.out.more h.out); clear h
  refine hK.out _ _ (fun _ => HB.out _ A.out.bl) ?_
  (clear hK KK; try simp only [Act.put, List.setIfInBounds_toArray, List.set_cons_zero, List.set_cons_succ])
  (repeat (refine wpSeqE_take (v := ?_) rfl (by rfl) (fun wq hSq => ?_) ?_; rotate_left; (focus ((try dsimp only at hSq); go_simp; try with_reducible rfl)); simp only [Act.put, List.setIfInBounds_toArray, List.set_cons_zero, List.set_cons_succ]))
  (refine wpSeqE_do rfl (by rfl) (fun KK hK => ?_); go_simp)
  refine (g_behind hB hR _).mono ?_; rintro e u ⟨g, n, c, rfl, h⟩; replace A := Lib.hid (A.out.more h.out); clear h
  refine hK.out _ _ (fun _ => HB.out _ A.out.bl) ?_
  (clear hK KK; try simp only [Act.put, List.setIfInBounds_toArray, List.set_cons_zero, List.set_cons_succ])
  (repeat (refine wpSeqE_take (v := ?_) rfl (by rfl) (fun wq hSq => ?_) ?_; rotate_left; (focus ((try dsimp only at hSq); go_simp; try with_reducible rfl)); simp only [Act.put, List.setIfInBounds_toArray, List.set_cons_zero, List.set_cons_succ]))
  (refine wpSeqE_do rfl (by rfl) (fun KK hK => ?_); go_simp)
  refine (g_two _ _).mono ?_; rintro e u ⟨g, n, c, rfl, h⟩; replace A := Lib.hid (A.out.more h.out); clear h
  refine hK.out _ _ (fun _ => HB.out _ A.out.bl) ?_
  (clear hK KK; try simp only [Act.put, List.setIfInBounds_toArray, List.set_cons_zero, List.set_cons_succ])
  (repeat (refine wpSeqE_take (v := ?_) rfl (by rfl) (fun wq hSq => ?_) ?_; rotate_left; (focus ((try dsimp only at hSq); go_simp; try with_reducible rfl)); simp only [Act.put, List.setIfInBounds_toArray, List.set_cons_zero, List.set_cons_succ]))
  (refine wpSeqE_do rfl (by rfl) (fun KK hK => ?_); go_simp)
  refine (g_get _ _).mono ?_; rintro e u ⟨g, n, c, rfl, h⟩; replace A := Lib.hid (A.out.more h.out); clear h
  refine hK.out _ _ (fun _ => HB.out _ A.out.bl) ?_
  (clear hK KK; try simp only [Act.put, List.setIfInBounds_toArray, List.set_cons_zero, List.set_cons_succ])
  (repeat (refine wpSeqE_take (v := ?_) rfl (by rfl) (fun wq hSq => ?_) ?_; rotate_left; (focus ((try dsimp only at hSq); go_simp; try with_reducible rfl)); simp only [Act.put, List.setIfInBounds_toArray, List.set_cons_zero, List.set_cons_succ]))
  (refine wpSeqE_do rfl (by rfl) (fun KK hK => ?_); go_simp)
  refine (g_two _ _).mono ?_; rintro e u ⟨g, n, c, rfl, h⟩; replace A := Lib.hid (A.out.more h.out); clear h
  refine hK.out _ _ (fun _ => HB.out _ A.out.bl) ?_
  (clear hK KK; try simp only [Act.put, List.setIfInBounds_toArray, List.set_cons_zero, List.set_cons_succ])
  (repeat (refine wpSeqE_take (v := ?_) rfl (by rfl) (fun wq hSq => ?_) ?_; rotate_left; (focus ((try dsimp only at hSq); go_simp; try with_reducible rfl)); simp only [Act.put, List.setIfInBounds_toArray, List.set_cons_zero, List.set_cons_succ]))
  (refine wpSeqE_do rfl (by rfl) (fun KK hK => ?_); go_simp)
  refine hK.out _ _ (fun _ => HB.out _ (A.out.on (bl1 _ _)).bl) ?_
  (clear hK KK; try simp only [Act.put, List.setIfInBounds_toArray, List.set_cons_zero, List.set_cons_succ])
  (repeat (refine wpSeqE_take (v := ?_) rfl (by rfl) (fun wq hSq => ?_) ?_; rotate_left; (focus ((try dsimp only at hSq); go_simp; try with_reducible rfl)); simp only [Act.put, List.setIfInBounds_toArray, List.set_cons_zero, List.set_cons_succ]))
  (refine wpSeqE_do rfl (by rfl) (fun KK hK => ?_); go_simp)
  refine (g_relink hB hR ((A.out.take 5).parts rfl) rfl (Nat.le_of_ble_eq_true rfl) (Nat.le_of_ble_eq_true rfl) (Nat.le_of_ble_eq_true rfl)).mono ?_; rintro e u ⟨g, n, c, rfl, h⟩; replace A := Lib.hid ((A.out.drop 5).over h.out); clear h
  refine hK.out _ _ (fun _ => HB.out _ A.out.bl) ?_
  (clear hK KK; try simp only [Act.put, List.setIfInBounds_toArray, List.set_cons_zero, List.set_cons_succ])
  (repeat (refine wpSeqE_take (v := ?_) rfl (by rfl) (fun wq hSq => ?_) ?_; rotate_left; (focus ((try dsimp only at hSq); go_simp; try with_reducible rfl)); simp only [Act.put, List.setIfInBounds_toArray, List.set_cons_zero, List.set_cons_succ]))
  (refine wpSeqE_do rfl (by rfl) (fun KK hK => ?_); go_simp)
  refine (g_spare hB hR _).mono ?_; rintro e u ⟨rfl, h⟩; replace A := Lib.hid (A.out.on h); clear h
  refine hK.out _ _ (fun _ => HB.out _ A.out.bl) ?_
  (clear hK KK; try simp only [Act.put, List.setIfInBounds_toArray, List.set_cons_zero, List.set_cons_succ])
  (repeat (refine wpSeqE_take (v := ?_) rfl (by rfl) (fun wq hSq => ?_) ?_; rotate_left; (focus ((try dsimp only at hSq); go_simp; try with_reducible rfl)); simp only [Act.put, List.setIfInBounds_toArray, List.set_cons_zero, List.set_cons_succ]))
  (refine wpSeqE_do rfl (by rfl) (fun KK hK => ?_); go_simp)
  refine (g_folded hB hR _ _).mono ?_; rintro e u ⟨g, n, c, rfl, h⟩; replace A := Lib.hid (A.out.more h.out); clear h
  refine hK.out _ _ (fun _ => HB.out _ A.out.bl) ?_
  (clear hK KK; try simp only [Act.put, List.setIfInBounds_toArray, List.set_cons_zero, List.set_cons_succ])
  (repeat (refine wpSeqE_take (v := ?_) rfl (by rfl) (fun wq hSq => ?_) ?_; rotate_left; (focus ((try dsimp only at hSq); go_simp; try with_reducible rfl)); simp only [Act.put, List.setIfInBounds_toArray, List.set_cons_zero, List.set_cons_succ]))
  (refine wpSeqE_do rfl (by rfl) (fun KK hK => ?_); go_simp)
  refine hK.out _ _ (fun _ => HB.out _ (A.out.on (bl1 _ _)).bl) ?_
  (clear hK KK; try simp only [Act.put, List.setIfInBounds_toArray, List.set_cons_zero, List.set_cons_succ])
  (repeat (refine wpSeqE_take (v := ?_) rfl (by rfl) (fun wq hSq => ?_) ?_; rotate_left; (focus ((try dsimp only at hSq); go_simp; try with_reducible rfl)); simp only [Act.put, List.setIfInBounds_toArray, List.set_cons_zero, List.set_cons_succ]))
  (refine wpSeqE_do rfl (by rfl) (fun KK hK => ?_); go_simp)
  refine (g_store ((A.out.take 1).parts rfl) rfl (Nat.le_of_ble_eq_true rfl) (Nat.le_of_ble_eq_true rfl) (Nat.le_of_ble_eq_true rfl) _ _).mono ?_; rintro e u ⟨g, n, c, rfl, h⟩; replace A := Lib.hid ((A.out.drop 1).over h.out); clear h
  refine hK.out _ _ (fun _ => HB.out _ A.out.bl) ?_
  (clear hK KK; try simp only [Act.put, List.setIfInBounds_toArray, List.set_cons_zero, List.set_cons_succ])
  (repeat (refine wpSeqE_take (v := ?_) rfl (by rfl) (fun wq hSq => ?_) ?_; rotate_left; (focus ((try dsimp only at hSq); go_simp; try with_reducible rfl)); simp only [Act.put, List.setIfInBounds_toArray, List.set_cons_zero, List.set_cons_succ]))
  (refine wpSeqE_do rfl (by rfl) (fun KK hK => ?_); go_simp)
  refine (g_get _ _).mono ?_; rintro e u ⟨g, n, c, rfl, h⟩; replace A := Lib.hid (A.out.more h.out); clear h
  refine hK.out _ _ (fun _ => HB.out _ A.out.bl) ?_
  (clear hK KK; try simp only [Act.put, List.setIfInBounds_toArray, List.set_cons_zero, List.set_cons_succ])
  (repeat (refine wpSeqE_take (v := ?_) rfl (by rfl) (fun wq hSq => ?_) ?_; rotate_left; (focus ((try dsimp only at hSq); go_simp; try with_reducible rfl)); simp only [Act.put, List.setIfInBounds_toArray, List.set_cons_zero, List.set_cons_succ]))
  (refine wpSeqE_do rfl (by rfl) (fun KK hK => ?_); go_simp)
  refine (g_spare hB hR _).mono ?_; rintro e u ⟨rfl, h⟩; replace A := Lib.hid (A.out.on h); clear h
  refine hK.out _ _ (fun _ => HB.out _ A.out.bl) ?_
  (clear hK KK; try simp only [Act.put, List.setIfInBounds_toArray, List.set_cons_zero, List.set_cons_succ])
  (repeat (refine wpSeqE_take (v := ?_) rfl (by rfl) (fun wq hSq => ?_) ?_; rotate_left; (focus ((try dsimp only at hSq); go_simp; try with_reducible rfl)); simp only [Act.put, List.setIfInBounds_toArray, List.set_cons_zero, List.set_cons_succ]))
  (refine wpSeqE_do rfl (by rfl) (fun KK hK => ?_); go_simp)
  refine (g_push _ _).mono ?_; rintro e u ⟨g, n, c, rfl, h⟩; replace A := Lib.hid (A.out.more h.out); clear h
  refine hK.out _ _ (fun _ => HB.out _ A.out.bl) ?_
  (clear hK KK; try simp only [Act.put, List.setIfInBounds_toArray, List.set_cons_zero, List.set_cons_succ])
  (repeat (refine wpSeqE_take (v := ?_) rfl (by rfl) (fun wq hSq => ?_) ?_; rotate_left; (focus ((try dsimp only at hSq); go_simp; try with_reducible rfl)); simp only [Act.put, List.setIfInBounds_toArray, List.set_cons_zero, List.set_cons_succ]))
  (refine wpSeqE_do rfl (by rfl) (fun KK hK => ?_); go_simp)
  refine (g_write _).mono ?_; rintro e u ⟨g, n, c, rfl, h⟩; replace A := Lib.hid (A.out.more h.out); clear h
  refine hK.out _ _ (fun _ => HB.out _ A.out.bl) ?_
  (clear hK KK; try simp only [Act.put, List.setIfInBounds_toArray, List.set_cons_zero, List.set_cons_succ])
  (repeat (refine wpSeqE_take (v := ?_) rfl (by rfl) (fun wq hSq => ?_) ?_; rotate_left; (focus ((try dsimp only at hSq); go_simp; try with_reducible rfl)); simp only [Act.put, List.setIfInBounds_toArray, List.set_cons_zero, List.set_cons_succ]))
  (refine wpSeqE_do rfl (by rfl) (fun KK hK => ?_); go_simp)
  refine (g_grow hB hR _ _).mono ?_; rintro e u ⟨g, n, c, rfl, h⟩; replace A := Lib.hid (A.out.more h.out); clear h
  refine hK.out _ _ (fun _ => HB.out _ A.out.bl) ?_
  (clear hK KK; try simp only [Act.put, List.setIfInBounds_toArray, List.set_cons_zero, List.set_cons_succ])
  (repeat (refine wpSeqE_take (v := ?_) rfl (by rfl) (fun wq hSq => ?_) ?_; rotate_left; (focus ((try dsimp only at hSq); go_simp; try with_reducible rfl)); simp only [Act.put, List.setIfInBounds_toArray, List.set_cons_zero, List.set_cons_succ]))
  (refine wpSeqE_do rfl (by rfl) (fun KK hK => ?_); go_simp)
  refine (g_tell _ _).mono ?_; rintro e u ⟨g, n, c, rfl, h⟩; replace A := Lib.hid (A.out.more h.out); clear h
  refine hK.out _ _ (fun _ => HB.out _ A.out.bl) ?_
  (clear hK KK; try simp only [Act.put, List.setIfInBounds_toArray, List.set_cons_zero, List.set_cons_succ])
  (repeat (refine wpSeqE_take (v := ?_) rfl (by rfl) (fun wq hSq => ?_) ?_; rotate_left; (focus ((try dsimp only at hSq); go_simp; try with_reducible rfl)); simp only [Act.put, List.setIfInBounds_toArray, List.set_cons_zero, List.set_cons_succ]))
  (refine wpSeqE_do rfl (by rfl) (fun KK hK => ?_); go_simp)
  refine hK.out _ _ (fun _ => HB.out _ (A.out.on (bl1 _ _)).bl) ?_
  (clear hK KK; try simp only [Act.put, List.setIfInBounds_toArray, List.set_cons_zero, List.set_cons_succ])
  (repeat (refine wpSeqE_take (v := ?_) rfl (by rfl) (fun wq hSq => ?_) ?_; rotate_left; (focus ((try dsimp only at hSq); go_simp; try with_reducible rfl)); simp only [Act.put, List.setIfInBounds_toArray, List.set_cons_zero, List.set_cons_succ]))
  (refine wpSeqE_do rfl (by rfl) (fun KK hK => ?_); go_simp)
  refine (g_program 2 (A.out.parts rfl) rfl (Nat.le_of_ble_eq_true rfl) (Nat.le_of_ble_eq_true rfl) (Nat.le_of_ble_eq_true rfl) (del_wf B R) (HT.out.on ((pgW_bl w B R).trans (((A.out.on (bl1 _ _)).bl).mono (by rw [pgW_size]; omega)))) (del_ans B R)).mono ?_; rintro e u ⟨p, n, c, rfl, hZ⟩; have HBL := Lib.hid (A.out.bl.trans (((bl1 _ _).trans (hZ.out.2.2.mono (by simp))).mono A.out.bl.size)); obtain ⟨⟨x0, x1⟩, y0, y1, y2, y3, y4⟩ := pg_cells w B R _ HBL.out
  refine hK.out _ _ (fun _ => ⟨x0, x1⟩) ?_
  (clear hK KK; try simp only [Act.put, List.setIfInBounds_toArray, List.set_cons_zero, List.set_cons_succ])
  (repeat (refine wpSeqE_take (v := ?_) rfl (by rfl) (fun wq hSq => ?_) ?_; rotate_left; (focus ((try dsimp only at hSq); go_simp; try with_reducible rfl)); simp only [Act.put, List.setIfInBounds_toArray, List.set_cons_zero, List.set_cons_succ]))
  (refine wpSeqE_do rfl (by rfl) (fun KK hK => ?_); go_simp)
  refine hK.out _ _ (fun hn => absurd rfl hn) ?_
  (clear hK KK; try simp only [Act.put])
  refine wpSeqE_nil ?_
  go_wp2_with fail
  obtain ⟨f1, f2, f3⟩ := hZ.out
  change RowW 108 3 u p c n (codC ((bsOf 2 (delO B R).flatten).filled.map fixI)) at f2
  change n = (bsOf 2 (delO B R).flatten).code.length at f1
  rw [del_code] at f2
  obtain ⟨z1, z2, z3⟩ := pg_end (t := 2) HBL.out f2
  exact pg_back rfl (w.heap.size + 1) 2 p n c rfl z1 rfl ⟨p, n, c, rfl, f1.trans (bs_len (del_code B R)), z2, z3⟩
set_option maxHeartbeats 2000000 in
set_option maxRecDepth 100000 in
theorem g_pleast (hB : 0 ≤ B ∧ B ≤ 256) (hR : 0 ≤ R ∧ R ≤ 16) (hT : Shaped5 w) : Calls Tryz.prog 23 #[.agg #[.int .i64 B, .int .i64 R]] w fun e w' => PgC w 1 (leastC B R) e w' := by
  have HB : Hid (∀ u, Below (pgW w B R).heap.size (pgW w B R) u → u.cell? ⟨w.heap.size, 0, none⟩ = some (.int .i64 B) ∧ u.cell? ⟨w.heap.size, 1, none⟩ = some (.int .i64 R)) := fun u k => (pg_cells w B R u k).1
  have A : Hid (Acc (pgW w B R) ((pgW w B R).drew) []) := acc_nil ((Same.drew _).below _)
  have HT : Hid (Shaped5 w) := hT
  clear hT
  go_enter Tryz.func23, Tryz.ntmps23
  go_wp2_with fail
  refine wp_region_seqE (fun u => u.cell? ⟨w.heap.size, 0, none⟩ = some (.int .i64 B) ∧ u.cell? ⟨w.heap.size, 1, none⟩ = some (.int .i64 R)) ((0, true) :: (2, true) :: (1, false) :: (3, false) :: (4, false) :: (5, false) :: (6, false) :: (7, false) :: (8, false) :: (9, false) :: (10, false) :: (11, false) :: []) follows (by kernel_rfl) (fun _ _ _ _ _ h => h) (HB.out _ ((Same.drew _).below _)) ?_
  (repeat (refine wpSeqE_take (v := ?_) rfl (by rfl) (fun wq hSq => ?_) ?_; rotate_left; (focus ((try dsimp only at hSq); go_simp; try with_reducible rfl)); simp only [Act.put, List.setIfInBounds_toArray, List.set_cons_zero, List.set_cons_succ]))
  (refine wpSeqE_do rfl (by rfl) (fun KK hK => ?_); go_simp)
  refine (g_begin hB hR _).mono ?_; rintro e u ⟨g, n, c, rfl, h⟩; replace A := Lib.hid (A.out.more h.out); clear h
  refine hK.out _ _ (fun _ => HB.out _ A.out.bl) ?_
  (clear hK KK; try simp only [Act.put, List.setIfInBounds_toArray, List.set_cons_zero, List.set_cons_succ])
  (repeat (refine wpSeqE_take (v := ?_) rfl (by rfl) (fun wq hSq => ?_) ?_; rotate_left; (focus ((try dsimp only at hSq); go_simp; try with_reducible rfl)); simp only [Act.put, List.setIfInBounds_toArray, List.set_cons_zero, List.set_cons_succ]))
  (refine wpSeqE_do rfl (by rfl) (fun KK hK => ?_); go_simp)
  refine (g_get _ _).mono ?_; rintro e u ⟨g, n, c, rfl, h⟩; replace A := Lib.hid (A.out.more h.out); clear h
  refine hK.out _ _ (fun _ => HB.out _ A.out.bl) ?_
  (clear hK KK; try simp only [Act.put, List.setIfInBounds_toArray, List.set_cons_zero, List.set_cons_succ])
  (repeat (refine wpSeqE_take (v := ?_) rfl (by rfl) (fun wq hSq => ?_) ?_; rotate_left; (focus ((try dsimp only at hSq); go_simp; try with_reducible rfl)); simp only [Act.put, List.setIfInBounds_toArray, List.set_cons_zero, List.set_cons_succ]))
  (refine wpSeqE_do rfl (by rfl) (fun KK hK => ?_); go_simp)
  refine (g_set _ _).mono ?_; rintro e u ⟨g, n, c, rfl, h⟩; replace A := Lib.hid (A.out.more h.out); clear h
  refine hK.out _ _ (fun _ => HB.out _ A.out.bl) ?_
  (clear hK KK; try simp only [Act.put, List.setIfInBounds_toArray, List.set_cons_zero, List.set_cons_succ])
  (repeat (refine wpSeqE_take (v := ?_) rfl (by rfl) (fun wq hSq => ?_) ?_; rotate_left; (focus ((try dsimp only at hSq); go_simp; try with_reducible rfl)); simp only [Act.put, List.setIfInBounds_toArray, List.set_cons_zero, List.set_cons_succ]))
  (refine wpSeqE_do rfl (by rfl) (fun KK hK => ?_); go_simp)
  refine hK.out _ _ (fun _ => HB.out _ (A.out.on (bl1 _ _)).bl) ?_
  (clear hK KK; try simp only [Act.put, List.setIfInBounds_toArray, List.set_cons_zero, List.set_cons_succ])
  (repeat (refine wpSeqE_take (v := ?_) rfl (by rfl) (fun wq hSq => ?_) ?_; rotate_left; (focus ((try dsimp only at hSq); go_simp; try with_reducible rfl)); simp only [Act.put, List.setIfInBounds_toArray, List.set_cons_zero, List.set_cons_succ]))
  (refine wpSeqE_do rfl (by rfl) (fun KK hK => ?_); go_simp)
  refine (g_walk hB hR ((A.out.take 2).parts rfl) rfl (Nat.le_of_ble_eq_true rfl) (Nat.le_of_ble_eq_true rfl) (Nat.le_of_ble_eq_true rfl) _ _).mono ?_; rintro e u ⟨g, n, c, rfl, h⟩; replace A := Lib.hid ((A.out.drop 2).over h.out); clear h
  refine hK.out _ _ (fun _ => HB.out _ A.out.bl) ?_
  (clear hK KK; try simp only [Act.put, List.setIfInBounds_toArray, List.set_cons_zero, List.set_cons_succ])
  (repeat (refine wpSeqE_take (v := ?_) rfl (by rfl) (fun wq hSq => ?_) ?_; rotate_left; (focus ((try dsimp only at hSq); go_simp; try with_reducible rfl)); simp only [Act.put, List.setIfInBounds_toArray, List.set_cons_zero, List.set_cons_succ]))
  (refine wpSeqE_do rfl (by rfl) (fun KK hK => ?_); go_simp)
  refine (g_mark _ _).mono ?_; rintro e u ⟨g, n, c, rfl, h⟩; replace A := Lib.hid (A.out.more h.out); clear h
  refine hK.out _ _ (fun _ => HB.out _ A.out.bl) ?_
  (clear hK KK; try simp only [Act.put, List.setIfInBounds_toArray, List.set_cons_zero, List.set_cons_succ])
  (repeat (refine wpSeqE_take (v := ?_) rfl (by rfl) (fun wq hSq => ?_) ?_; rotate_left; (focus ((try dsimp only at hSq); go_simp; try with_reducible rfl)); simp only [Act.put, List.setIfInBounds_toArray, List.set_cons_zero, List.set_cons_succ]))
  (refine wpSeqE_do rfl (by rfl) (fun KK hK => ?_); go_simp)
  refine (g_emitKept _).mono ?_; rintro e u ⟨g, n, c, rfl, h⟩; replace A := Lib.hid (A.out.more h.out); clear h
  refine hK.out _ _ (fun _ => HB.out _ A.out.bl) ?_
  (clear hK KK; try simp only [Act.put, List.setIfInBounds_toArray, List.set_cons_zero, List.set_cons_succ])
  (repeat (refine wpSeqE_take (v := ?_) rfl (by rfl) (fun wq hSq => ?_) ?_; rotate_left; (focus ((try dsimp only at hSq); go_simp; try with_reducible rfl)); simp only [Act.put, List.setIfInBounds_toArray, List.set_cons_zero, List.set_cons_succ]))
  (refine wpSeqE_do rfl (by rfl) (fun KK hK => ?_); go_simp)
  refine hK.out _ _ (fun _ => HB.out _ (A.out.on (bl1 _ _)).bl) ?_
  (clear hK KK; try simp only [Act.put, List.setIfInBounds_toArray, List.set_cons_zero, List.set_cons_succ])
  (repeat (refine wpSeqE_take (v := ?_) rfl (by rfl) (fun wq hSq => ?_) ?_; rotate_left; (focus ((try dsimp only at hSq); go_simp; try with_reducible rfl)); simp only [Act.put, List.setIfInBounds_toArray, List.set_cons_zero, List.set_cons_succ]))
  (refine wpSeqE_do rfl (by rfl) (fun KK hK => ?_); go_simp)
  refine (g_program 1 (A.out.parts rfl) rfl (Nat.le_of_ble_eq_true rfl) (Nat.le_of_ble_eq_true rfl) (Nat.le_of_ble_eq_true rfl) (least_wf B R) (HT.out.on ((pgW_bl w B R).trans (((A.out.on (bl1 _ _)).bl).mono (by rw [pgW_size]; omega)))) (least_ans B R)).mono ?_; rintro e u ⟨p, n, c, rfl, hZ⟩; have HBL := Lib.hid (A.out.bl.trans (((bl1 _ _).trans (hZ.out.2.2.mono (by simp))).mono A.out.bl.size)); obtain ⟨⟨x0, x1⟩, y0, y1, y2, y3, y4⟩ := pg_cells w B R _ HBL.out
  refine hK.out _ _ (fun _ => ⟨x0, x1⟩) ?_
  (clear hK KK; try simp only [Act.put, List.setIfInBounds_toArray, List.set_cons_zero, List.set_cons_succ])
  (repeat (refine wpSeqE_take (v := ?_) rfl (by rfl) (fun wq hSq => ?_) ?_; rotate_left; (focus ((try dsimp only at hSq); go_simp; try with_reducible rfl)); simp only [Act.put, List.setIfInBounds_toArray, List.set_cons_zero, List.set_cons_succ]))
  (refine wpSeqE_do rfl (by rfl) (fun KK hK => ?_); go_simp)
  refine hK.out _ _ (fun hn => absurd rfl hn) ?_
  (clear hK KK; try simp only [Act.put])
  refine wpSeqE_nil ?_
  go_wp2_with fail
  obtain ⟨f1, f2, f3⟩ := hZ.out
  change RowW 108 3 u p c n (codC ((bsOf 1 (leastO B R).flatten).filled.map fixI)) at f2
  change n = (bsOf 1 (leastO B R).flatten).code.length at f1
  rw [least_code] at f2
  obtain ⟨z1, z2, z3⟩ := pg_end (t := 1) HBL.out f2
  exact pg_back rfl (w.heap.size + 1) 1 p n c rfl z1 rfl ⟨p, n, c, rfl, f1.trans (bs_len (least_code B R)), z2, z3⟩
set_option maxHeartbeats 2000000 in
set_option maxRecDepth 100000 in
theorem g_pafter (hB : 0 ≤ B ∧ B ≤ 256) (hR : 0 ≤ R ∧ R ≤ 16) (hT : Shaped5 w) : Calls Tryz.prog 24 #[.agg #[.int .i64 B, .int .i64 R]] w fun e w' => PgC w 1 (afterC B R) e w' := by
  have HB : Hid (∀ u, Below (pgW w B R).heap.size (pgW w B R) u → u.cell? ⟨w.heap.size, 0, none⟩ = some (.int .i64 B) ∧ u.cell? ⟨w.heap.size, 1, none⟩ = some (.int .i64 R)) := fun u k => (pg_cells w B R u k).1
  have A : Hid (Acc (pgW w B R) ((pgW w B R).drew) []) := acc_nil ((Same.drew _).below _)
  have HT : Hid (Shaped5 w) := hT
  clear hT
  go_enter Tryz.func24, Tryz.ntmps24
  go_wp2_with fail
  refine wp_region_seqE (fun u => u.cell? ⟨w.heap.size, 0, none⟩ = some (.int .i64 B) ∧ u.cell? ⟨w.heap.size, 1, none⟩ = some (.int .i64 R)) ((0, true) :: (2, true) :: (12, true) :: (1, false) :: (3, false) :: (4, false) :: (5, false) :: (6, false) :: (7, false) :: (8, false) :: (9, false) :: (10, false) :: (11, false) :: (13, false) :: (14, false) :: (15, false) :: (16, false) :: (17, false) :: (18, false) :: (19, false) :: (20, false) :: []) follows (by kernel_rfl) (fun _ _ _ _ _ h => h) (HB.out _ ((Same.drew _).below _)) ?_
  (repeat (refine wpSeqE_take (v := ?_) rfl (by rfl) (fun wq hSq => ?_) ?_; rotate_left; (focus ((try dsimp only at hSq); go_simp; try with_reducible rfl)); simp only [Act.put, List.setIfInBounds_toArray, List.set_cons_zero, List.set_cons_succ]))
  (refine wpSeqE_do rfl (by rfl) (fun KK hK => ?_); go_simp)
  refine (g_begin hB hR _).mono ?_; rintro e u ⟨g, n, c, rfl, h⟩; replace A := Lib.hid (A.out.more h.out); clear h
  refine hK.out _ _ (fun _ => HB.out _ A.out.bl) ?_
  (clear hK KK; try simp only [Act.put, List.setIfInBounds_toArray, List.set_cons_zero, List.set_cons_succ])
  (repeat (refine wpSeqE_take (v := ?_) rfl (by rfl) (fun wq hSq => ?_) ?_; rotate_left; (focus ((try dsimp only at hSq); go_simp; try with_reducible rfl)); simp only [Act.put, List.setIfInBounds_toArray, List.set_cons_zero, List.set_cons_succ]))
  (refine wpSeqE_do rfl (by rfl) (fun KK hK => ?_); go_simp)
  refine (g_arg _ _).mono ?_; rintro e u ⟨g, n, c, rfl, h⟩; replace A := Lib.hid (A.out.more h.out); clear h
  refine hK.out _ _ (fun _ => HB.out _ A.out.bl) ?_
  (clear hK KK; try simp only [Act.put, List.setIfInBounds_toArray, List.set_cons_zero, List.set_cons_succ])
  (repeat (refine wpSeqE_take (v := ?_) rfl (by rfl) (fun wq hSq => ?_) ?_; rotate_left; (focus ((try dsimp only at hSq); go_simp; try with_reducible rfl)); simp only [Act.put, List.setIfInBounds_toArray, List.set_cons_zero, List.set_cons_succ]))
  (refine wpSeqE_do rfl (by rfl) (fun KK hK => ?_); go_simp)
  refine (g_load _ _ _).mono ?_; rintro e u ⟨g, n, c, rfl, h⟩; replace A := Lib.hid (A.out.more h.out); clear h
  refine hK.out _ _ (fun _ => HB.out _ A.out.bl) ?_
  (clear hK KK; try simp only [Act.put, List.setIfInBounds_toArray, List.set_cons_zero, List.set_cons_succ])
  (repeat (refine wpSeqE_take (v := ?_) rfl (by rfl) (fun wq hSq => ?_) ?_; rotate_left; (focus ((try dsimp only at hSq); go_simp; try with_reducible rfl)); simp only [Act.put, List.setIfInBounds_toArray, List.set_cons_zero, List.set_cons_succ]))
  (refine wpSeqE_do rfl (by rfl) (fun KK hK => ?_); go_simp)
  refine (g_two _ _).mono ?_; rintro e u ⟨g, n, c, rfl, h⟩; replace A := Lib.hid (A.out.more h.out); clear h
  refine hK.out _ _ (fun _ => HB.out _ A.out.bl) ?_
  (clear hK KK; try simp only [Act.put, List.setIfInBounds_toArray, List.set_cons_zero, List.set_cons_succ])
  (repeat (refine wpSeqE_take (v := ?_) rfl (by rfl) (fun wq hSq => ?_) ?_; rotate_left; (focus ((try dsimp only at hSq); go_simp; try with_reducible rfl)); simp only [Act.put, List.setIfInBounds_toArray, List.set_cons_zero, List.set_cons_succ]))
  (refine wpSeqE_do rfl (by rfl) (fun KK hK => ?_); go_simp)
  refine (g_do _ _ _).mono ?_; rintro e u ⟨g, n, c, rfl, h⟩; replace A := Lib.hid (A.out.more h.out); clear h
  refine hK.out _ _ (fun _ => HB.out _ A.out.bl) ?_
  (clear hK KK; try simp only [Act.put, List.setIfInBounds_toArray, List.set_cons_zero, List.set_cons_succ])
  (repeat (refine wpSeqE_take (v := ?_) rfl (by rfl) (fun wq hSq => ?_) ?_; rotate_left; (focus ((try dsimp only at hSq); go_simp; try with_reducible rfl)); simp only [Act.put, List.setIfInBounds_toArray, List.set_cons_zero, List.set_cons_succ]))
  (refine wpSeqE_do rfl (by rfl) (fun KK hK => ?_); go_simp)
  refine (g_to _ _ _).mono ?_; rintro e u ⟨g, n, c, rfl, h⟩; replace A := Lib.hid (A.out.more h.out); clear h
  refine hK.out _ _ (fun _ => HB.out _ A.out.bl) ?_
  (clear hK KK; try simp only [Act.put, List.setIfInBounds_toArray, List.set_cons_zero, List.set_cons_succ])
  (repeat (refine wpSeqE_take (v := ?_) rfl (by rfl) (fun wq hSq => ?_) ?_; rotate_left; (focus ((try dsimp only at hSq); go_simp; try with_reducible rfl)); simp only [Act.put, List.setIfInBounds_toArray, List.set_cons_zero, List.set_cons_succ]))
  (refine wpSeqE_do rfl (by rfl) (fun KK hK => ?_); go_simp)
  refine (g_get _ _).mono ?_; rintro e u ⟨g, n, c, rfl, h⟩; replace A := Lib.hid (A.out.more h.out); clear h
  refine hK.out _ _ (fun _ => HB.out _ A.out.bl) ?_
  (clear hK KK; try simp only [Act.put, List.setIfInBounds_toArray, List.set_cons_zero, List.set_cons_succ])
  (repeat (refine wpSeqE_take (v := ?_) rfl (by rfl) (fun wq hSq => ?_) ?_; rotate_left; (focus ((try dsimp only at hSq); go_simp; try with_reducible rfl)); simp only [Act.put, List.setIfInBounds_toArray, List.set_cons_zero, List.set_cons_succ]))
  (refine wpSeqE_do rfl (by rfl) (fun KK hK => ?_); go_simp)
  refine (g_set _ _).mono ?_; rintro e u ⟨g, n, c, rfl, h⟩; replace A := Lib.hid (A.out.more h.out); clear h
  refine hK.out _ _ (fun _ => HB.out _ A.out.bl) ?_
  (clear hK KK; try simp only [Act.put, List.setIfInBounds_toArray, List.set_cons_zero, List.set_cons_succ])
  (repeat (refine wpSeqE_take (v := ?_) rfl (by rfl) (fun wq hSq => ?_) ?_; rotate_left; (focus ((try dsimp only at hSq); go_simp; try with_reducible rfl)); simp only [Act.put, List.setIfInBounds_toArray, List.set_cons_zero, List.set_cons_succ]))
  (refine wpSeqE_do rfl (by rfl) (fun KK hK => ?_); go_simp)
  refine (g_mark _ _).mono ?_; rintro e u ⟨g, n, c, rfl, h⟩; replace A := Lib.hid (A.out.more h.out); clear h
  refine hK.out _ _ (fun _ => HB.out _ A.out.bl) ?_
  (clear hK KK; try simp only [Act.put, List.setIfInBounds_toArray, List.set_cons_zero, List.set_cons_succ])
  (repeat (refine wpSeqE_take (v := ?_) rfl (by rfl) (fun wq hSq => ?_) ?_; rotate_left; (focus ((try dsimp only at hSq); go_simp; try with_reducible rfl)); simp only [Act.put, List.setIfInBounds_toArray, List.set_cons_zero, List.set_cons_succ]))
  (refine wpSeqE_do rfl (by rfl) (fun KK hK => ?_); go_simp)
  refine (g_one _ _).mono ?_; rintro e u ⟨g, n, c, rfl, h⟩; replace A := Lib.hid (A.out.more h.out); clear h
  refine hK.out _ _ (fun _ => HB.out _ A.out.bl) ?_
  (clear hK KK; try simp only [Act.put, List.setIfInBounds_toArray, List.set_cons_zero, List.set_cons_succ])
  (repeat (refine wpSeqE_take (v := ?_) rfl (by rfl) (fun wq hSq => ?_) ?_; rotate_left; (focus ((try dsimp only at hSq); go_simp; try with_reducible rfl)); simp only [Act.put, List.setIfInBounds_toArray, List.set_cons_zero, List.set_cons_succ]))
  (refine wpSeqE_do rfl (by rfl) (fun KK hK => ?_); go_simp)
  refine (g_turn hB hR _).mono ?_; rintro e u ⟨g, n, c, rfl, h⟩; replace A := Lib.hid (A.out.more h.out); clear h
  refine hK.out _ _ (fun _ => HB.out _ A.out.bl) ?_
  (clear hK KK; try simp only [Act.put, List.setIfInBounds_toArray, List.set_cons_zero, List.set_cons_succ])
  (repeat (refine wpSeqE_take (v := ?_) rfl (by rfl) (fun wq hSq => ?_) ?_; rotate_left; (focus ((try dsimp only at hSq); go_simp; try with_reducible rfl)); simp only [Act.put, List.setIfInBounds_toArray, List.set_cons_zero, List.set_cons_succ]))
  (refine wpSeqE_do rfl (by rfl) (fun KK hK => ?_); go_simp)
  refine hK.out _ _ (fun _ => HB.out _ (A.out.on (bl1 _ _)).bl) ?_
  (clear hK KK; try simp only [Act.put, List.setIfInBounds_toArray, List.set_cons_zero, List.set_cons_succ])
  (repeat (refine wpSeqE_take (v := ?_) rfl (by rfl) (fun wq hSq => ?_) ?_; rotate_left; (focus ((try dsimp only at hSq); go_simp; try with_reducible rfl)); simp only [Act.put, List.setIfInBounds_toArray, List.set_cons_zero, List.set_cons_succ]))
  (refine wpSeqE_do rfl (by rfl) (fun KK hK => ?_); go_simp)
  refine (g_walk hB hR ((A.out.take 10).parts rfl) rfl (Nat.le_of_ble_eq_true rfl) (Nat.le_of_ble_eq_true rfl) (Nat.le_of_ble_eq_true rfl) _ _).mono ?_; rintro e u ⟨g, n, c, rfl, h⟩; replace A := Lib.hid ((A.out.drop 10).over h.out); clear h
  refine hK.out _ _ (fun _ => HB.out _ A.out.bl) ?_
  (clear hK KK; try simp only [Act.put, List.setIfInBounds_toArray, List.set_cons_zero, List.set_cons_succ])
  (repeat (refine wpSeqE_take (v := ?_) rfl (by rfl) (fun wq hSq => ?_) ?_; rotate_left; (focus ((try dsimp only at hSq); go_simp; try with_reducible rfl)); simp only [Act.put, List.setIfInBounds_toArray, List.set_cons_zero, List.set_cons_succ]))
  (refine wpSeqE_do rfl (by rfl) (fun KK hK => ?_); go_simp)
  refine (g_mark _ _).mono ?_; rintro e u ⟨g, n, c, rfl, h⟩; replace A := Lib.hid (A.out.more h.out); clear h
  refine hK.out _ _ (fun _ => HB.out _ A.out.bl) ?_
  (clear hK KK; try simp only [Act.put, List.setIfInBounds_toArray, List.set_cons_zero, List.set_cons_succ])
  (repeat (refine wpSeqE_take (v := ?_) rfl (by rfl) (fun wq hSq => ?_) ?_; rotate_left; (focus ((try dsimp only at hSq); go_simp; try with_reducible rfl)); simp only [Act.put, List.setIfInBounds_toArray, List.set_cons_zero, List.set_cons_succ]))
  (refine wpSeqE_do rfl (by rfl) (fun KK hK => ?_); go_simp)
  refine (g_emitKept _).mono ?_; rintro e u ⟨g, n, c, rfl, h⟩; replace A := Lib.hid (A.out.more h.out); clear h
  refine hK.out _ _ (fun _ => HB.out _ A.out.bl) ?_
  (clear hK KK; try simp only [Act.put, List.setIfInBounds_toArray, List.set_cons_zero, List.set_cons_succ])
  (repeat (refine wpSeqE_take (v := ?_) rfl (by rfl) (fun wq hSq => ?_) ?_; rotate_left; (focus ((try dsimp only at hSq); go_simp; try with_reducible rfl)); simp only [Act.put, List.setIfInBounds_toArray, List.set_cons_zero, List.set_cons_succ]))
  (refine wpSeqE_do rfl (by rfl) (fun KK hK => ?_); go_simp)
  refine hK.out _ _ (fun _ => HB.out _ (A.out.on (bl1 _ _)).bl) ?_
  (clear hK KK; try simp only [Act.put, List.setIfInBounds_toArray, List.set_cons_zero, List.set_cons_succ])
  (repeat (refine wpSeqE_take (v := ?_) rfl (by rfl) (fun wq hSq => ?_) ?_; rotate_left; (focus ((try dsimp only at hSq); go_simp; try with_reducible rfl)); simp only [Act.put, List.setIfInBounds_toArray, List.set_cons_zero, List.set_cons_succ]))
  (refine wpSeqE_do rfl (by rfl) (fun KK hK => ?_); go_simp)
  refine (g_program 1 (A.out.parts rfl) rfl (Nat.le_of_ble_eq_true rfl) (Nat.le_of_ble_eq_true rfl) (Nat.le_of_ble_eq_true rfl) (after_wf B R) (HT.out.on ((pgW_bl w B R).trans (((A.out.on (bl1 _ _)).bl).mono (by rw [pgW_size]; omega)))) (after_ans B R)).mono ?_; rintro e u ⟨p, n, c, rfl, hZ⟩; have HBL := Lib.hid (A.out.bl.trans (((bl1 _ _).trans (hZ.out.2.2.mono (by simp))).mono A.out.bl.size)); obtain ⟨⟨x0, x1⟩, y0, y1, y2, y3, y4⟩ := pg_cells w B R _ HBL.out
  refine hK.out _ _ (fun _ => ⟨x0, x1⟩) ?_
  (clear hK KK; try simp only [Act.put, List.setIfInBounds_toArray, List.set_cons_zero, List.set_cons_succ])
  (repeat (refine wpSeqE_take (v := ?_) rfl (by rfl) (fun wq hSq => ?_) ?_; rotate_left; (focus ((try dsimp only at hSq); go_simp; try with_reducible rfl)); simp only [Act.put, List.setIfInBounds_toArray, List.set_cons_zero, List.set_cons_succ]))
  (refine wpSeqE_do rfl (by rfl) (fun KK hK => ?_); go_simp)
  refine hK.out _ _ (fun hn => absurd rfl hn) ?_
  (clear hK KK; try simp only [Act.put])
  refine wpSeqE_nil ?_
  go_wp2_with fail
  obtain ⟨f1, f2, f3⟩ := hZ.out
  change RowW 108 3 u p c n (codC ((bsOf 1 (afterO B R).flatten).filled.map fixI)) at f2
  change n = (bsOf 1 (afterO B R).flatten).code.length at f1
  rw [after_code] at f2
  obtain ⟨z1, z2, z3⟩ := pg_end (t := 1) HBL.out f2
  exact pg_back rfl (w.heap.size + 1) 1 p n c rfl z1 rfl ⟨p, n, c, rfl, f1.trans (bs_len (after_code B R)), z2, z3⟩
set_option maxHeartbeats 2000000 in
set_option maxRecDepth 100000 in
theorem g_plen (hB : 0 ≤ B ∧ B ≤ 256) (hR : 0 ≤ R ∧ R ≤ 16) (hT : Shaped5 w) : Calls Tryz.prog 25 #[.agg #[.int .i64 B, .int .i64 R]] w fun e w' => PgC w 1 (lenC B R) e w' := by
  have HB : Hid (∀ u, Below (pgW w B R).heap.size (pgW w B R) u → u.cell? ⟨w.heap.size, 0, none⟩ = some (.int .i64 B) ∧ u.cell? ⟨w.heap.size, 1, none⟩ = some (.int .i64 R)) := fun u k => (pg_cells w B R u k).1
  have A : Hid (Acc (pgW w B R) ((pgW w B R).drew) []) := acc_nil ((Same.drew _).below _)
  have HT : Hid (Shaped5 w) := hT
  clear hT
  go_enter Tryz.func25, Tryz.ntmps25
  go_wp2_with fail
  refine wp_region_seqE (fun u => u.cell? ⟨w.heap.size, 0, none⟩ = some (.int .i64 B) ∧ u.cell? ⟨w.heap.size, 1, none⟩ = some (.int .i64 R)) ((0, true) :: (1, true) :: (2, false) :: (3, false) :: (4, false) :: (5, false) :: (6, false) :: (7, false) :: (8, false) :: []) follows (by kernel_rfl) (fun _ _ _ _ _ h => h) (HB.out _ ((Same.drew _).below _)) ?_
  (repeat (refine wpSeqE_take (v := ?_) rfl (by rfl) (fun wq hSq => ?_) ?_; rotate_left; (focus ((try dsimp only at hSq); go_simp; try with_reducible rfl)); simp only [Act.put, List.setIfInBounds_toArray, List.set_cons_zero, List.set_cons_succ]))
  (refine wpSeqE_do rfl (by rfl) (fun KK hK => ?_); go_simp)
  refine (g_count hB hR _).mono ?_; rintro e u ⟨rfl, h⟩; replace A := Lib.hid (A.out.on h); clear h
  refine hK.out _ _ (fun _ => HB.out _ A.out.bl) ?_
  (clear hK KK; try simp only [Act.put, List.setIfInBounds_toArray, List.set_cons_zero, List.set_cons_succ])
  (repeat (refine wpSeqE_take (v := ?_) rfl (by rfl) (fun wq hSq => ?_) ?_; rotate_left; (focus ((try dsimp only at hSq); go_simp; try with_reducible rfl)); simp only [Act.put, List.setIfInBounds_toArray, List.set_cons_zero, List.set_cons_succ]))
  (refine wpSeqE_do rfl (by rfl) (fun KK hK => ?_); go_simp)
  refine (g_folded hB hR _ _).mono ?_; rintro e u ⟨g, n, c, rfl, h⟩; replace A := Lib.hid (A.out.more h.out); clear h
  refine hK.out _ _ (fun _ => HB.out _ A.out.bl) ?_
  (clear hK KK; try simp only [Act.put, List.setIfInBounds_toArray, List.set_cons_zero, List.set_cons_succ])
  (repeat (refine wpSeqE_take (v := ?_) rfl (by rfl) (fun wq hSq => ?_) ?_; rotate_left; (focus ((try dsimp only at hSq); go_simp; try with_reducible rfl)); simp only [Act.put, List.setIfInBounds_toArray, List.set_cons_zero, List.set_cons_succ]))
  (refine wpSeqE_do rfl (by rfl) (fun KK hK => ?_); go_simp)
  refine (g_emit _).mono ?_; rintro e u ⟨g, n, c, rfl, h⟩; replace A := Lib.hid (A.out.more h.out); clear h
  refine hK.out _ _ (fun _ => HB.out _ A.out.bl) ?_
  (clear hK KK; try simp only [Act.put, List.setIfInBounds_toArray, List.set_cons_zero, List.set_cons_succ])
  (repeat (refine wpSeqE_take (v := ?_) rfl (by rfl) (fun wq hSq => ?_) ?_; rotate_left; (focus ((try dsimp only at hSq); go_simp; try with_reducible rfl)); simp only [Act.put, List.setIfInBounds_toArray, List.set_cons_zero, List.set_cons_succ]))
  (refine wpSeqE_do rfl (by rfl) (fun KK hK => ?_); go_simp)
  refine (g_halt _).mono ?_; rintro e u ⟨g, n, c, rfl, h⟩; replace A := Lib.hid (A.out.more h.out); clear h
  refine hK.out _ _ (fun _ => HB.out _ A.out.bl) ?_
  (clear hK KK; try simp only [Act.put, List.setIfInBounds_toArray, List.set_cons_zero, List.set_cons_succ])
  (repeat (refine wpSeqE_take (v := ?_) rfl (by rfl) (fun wq hSq => ?_) ?_; rotate_left; (focus ((try dsimp only at hSq); go_simp; try with_reducible rfl)); simp only [Act.put, List.setIfInBounds_toArray, List.set_cons_zero, List.set_cons_succ]))
  (refine wpSeqE_do rfl (by rfl) (fun KK hK => ?_); go_simp)
  refine hK.out _ _ (fun _ => HB.out _ (A.out.on (bl1 _ _)).bl) ?_
  (clear hK KK; try simp only [Act.put, List.setIfInBounds_toArray, List.set_cons_zero, List.set_cons_succ])
  (repeat (refine wpSeqE_take (v := ?_) rfl (by rfl) (fun wq hSq => ?_) ?_; rotate_left; (focus ((try dsimp only at hSq); go_simp; try with_reducible rfl)); simp only [Act.put, List.setIfInBounds_toArray, List.set_cons_zero, List.set_cons_succ]))
  (refine wpSeqE_do rfl (by rfl) (fun KK hK => ?_); go_simp)
  refine (g_program 1 (A.out.parts rfl) rfl (Nat.le_of_ble_eq_true rfl) (Nat.le_of_ble_eq_true rfl) (Nat.le_of_ble_eq_true rfl) (len_wf B R) (HT.out.on ((pgW_bl w B R).trans (((A.out.on (bl1 _ _)).bl).mono (by rw [pgW_size]; omega)))) (len_ans B R)).mono ?_; rintro e u ⟨p, n, c, rfl, hZ⟩; have HBL := Lib.hid (A.out.bl.trans (((bl1 _ _).trans (hZ.out.2.2.mono (by simp))).mono A.out.bl.size)); obtain ⟨⟨x0, x1⟩, y0, y1, y2, y3, y4⟩ := pg_cells w B R _ HBL.out
  refine hK.out _ _ (fun _ => ⟨x0, x1⟩) ?_
  (clear hK KK; try simp only [Act.put, List.setIfInBounds_toArray, List.set_cons_zero, List.set_cons_succ])
  (repeat (refine wpSeqE_take (v := ?_) rfl (by rfl) (fun wq hSq => ?_) ?_; rotate_left; (focus ((try dsimp only at hSq); go_simp; try with_reducible rfl)); simp only [Act.put, List.setIfInBounds_toArray, List.set_cons_zero, List.set_cons_succ]))
  (refine wpSeqE_do rfl (by rfl) (fun KK hK => ?_); go_simp)
  refine hK.out _ _ (fun hn => absurd rfl hn) ?_
  (clear hK KK; try simp only [Act.put])
  refine wpSeqE_nil ?_
  go_wp2_with fail
  obtain ⟨f1, f2, f3⟩ := hZ.out
  change RowW 108 3 u p c n (codC ((bsOf 1 (lenO B R).flatten).filled.map fixI)) at f2
  change n = (bsOf 1 (lenO B R).flatten).code.length at f1
  rw [len_code] at f2
  obtain ⟨z1, z2, z3⟩ := pg_end (t := 1) HBL.out f2
  exact pg_back rfl (w.heap.size + 1) 1 p n c rfl z1 rfl ⟨p, n, c, rfl, f1.trans (bs_len (len_code B R)), z2, z3⟩
set_option maxHeartbeats 2000000 in
set_option maxRecDepth 100000 in
theorem g_pall (hB : 0 ≤ B ∧ B ≤ 256) (hR : 0 ≤ R ∧ R ≤ 16) (hT : Shaped5 w) : Calls Tryz.prog 26 #[.agg #[.int .i64 B, .int .i64 R]] w fun e w' => PgC w 1 (allC B R) e w' := by
  have HB : Hid (∀ u, Below (pgW w B R).heap.size (pgW w B R) u → u.cell? ⟨w.heap.size, 0, none⟩ = some (.int .i64 B) ∧ u.cell? ⟨w.heap.size, 1, none⟩ = some (.int .i64 R)) := fun u k => (pg_cells w B R u k).1
  have A : Hid (Acc (pgW w B R) ((pgW w B R).drew) []) := acc_nil ((Same.drew _).below _)
  have HT : Hid (Shaped5 w) := hT
  clear hT
  go_enter Tryz.func26, Tryz.ntmps26
  go_wp2_with fail
  refine wp_region_seqE (fun u => u.cell? ⟨w.heap.size, 0, none⟩ = some (.int .i64 B) ∧ u.cell? ⟨w.heap.size, 1, none⟩ = some (.int .i64 R)) ((1, true) :: (3, true) :: (16, true) :: (0, false) :: (2, false) :: (4, false) :: (5, false) :: (6, false) :: (7, false) :: (8, false) :: (9, false) :: (10, false) :: (11, false) :: (12, false) :: (13, false) :: (14, false) :: (15, false) :: (17, false) :: (18, false) :: (19, false) :: (20, false) :: (21, false) :: (22, false) :: (23, false) :: (24, false) :: (25, false) :: []) follows (by kernel_rfl) (fun _ _ _ _ _ h => h) (HB.out _ ((Same.drew _).below _)) ?_
  (repeat (refine wpSeqE_take (v := ?_) rfl (by rfl) (fun wq hSq => ?_) ?_; rotate_left; (focus ((try dsimp only at hSq); go_simp; try with_reducible rfl)); simp only [Act.put, List.setIfInBounds_toArray, List.set_cons_zero, List.set_cons_succ]))
  (refine wpSeqE_do rfl (by rfl) (fun KK hK => ?_); go_simp)
  refine (g_push _ _).mono ?_; rintro e u ⟨g, n, c, rfl, h⟩; replace A := Lib.hid (A.out.more h.out); clear h
  refine hK.out _ _ (fun _ => HB.out _ A.out.bl) ?_
  (clear hK KK; try simp only [Act.put, List.setIfInBounds_toArray, List.set_cons_zero, List.set_cons_succ])
  (repeat (refine wpSeqE_take (v := ?_) rfl (by rfl) (fun wq hSq => ?_) ?_; rotate_left; (focus ((try dsimp only at hSq); go_simp; try with_reducible rfl)); simp only [Act.put, List.setIfInBounds_toArray, List.set_cons_zero, List.set_cons_succ]))
  (refine wpSeqE_do rfl (by rfl) (fun KK hK => ?_); go_simp)
  refine (g_begin hB hR _).mono ?_; rintro e u ⟨g, n, c, rfl, h⟩; replace A := Lib.hid (A.out.more h.out); clear h
  refine hK.out _ _ (fun _ => HB.out _ A.out.bl) ?_
  (clear hK KK; try simp only [Act.put, List.setIfInBounds_toArray, List.set_cons_zero, List.set_cons_succ])
  (repeat (refine wpSeqE_take (v := ?_) rfl (by rfl) (fun wq hSq => ?_) ?_; rotate_left; (focus ((try dsimp only at hSq); go_simp; try with_reducible rfl)); simp only [Act.put, List.setIfInBounds_toArray, List.set_cons_zero, List.set_cons_succ]))
  (refine wpSeqE_do rfl (by rfl) (fun KK hK => ?_); go_simp)
  refine (g_get _ _).mono ?_; rintro e u ⟨g, n, c, rfl, h⟩; replace A := Lib.hid (A.out.more h.out); clear h
  refine hK.out _ _ (fun _ => HB.out _ A.out.bl) ?_
  (clear hK KK; try simp only [Act.put, List.setIfInBounds_toArray, List.set_cons_zero, List.set_cons_succ])
  (repeat (refine wpSeqE_take (v := ?_) rfl (by rfl) (fun wq hSq => ?_) ?_; rotate_left; (focus ((try dsimp only at hSq); go_simp; try with_reducible rfl)); simp only [Act.put, List.setIfInBounds_toArray, List.set_cons_zero, List.set_cons_succ]))
  (refine wpSeqE_do rfl (by rfl) (fun KK hK => ?_); go_simp)
  refine (g_push _ _).mono ?_; rintro e u ⟨g, n, c, rfl, h⟩; replace A := Lib.hid (A.out.more h.out); clear h
  refine hK.out _ _ (fun _ => HB.out _ A.out.bl) ?_
  (clear hK KK; try simp only [Act.put, List.setIfInBounds_toArray, List.set_cons_zero, List.set_cons_succ])
  (repeat (refine wpSeqE_take (v := ?_) rfl (by rfl) (fun wq hSq => ?_) ?_; rotate_left; (focus ((try dsimp only at hSq); go_simp; try with_reducible rfl)); simp only [Act.put, List.setIfInBounds_toArray, List.set_cons_zero, List.set_cons_succ]))
  (refine wpSeqE_do rfl (by rfl) (fun KK hK => ?_); go_simp)
  refine (g_set _ _).mono ?_; rintro e u ⟨g, n, c, rfl, h⟩; replace A := Lib.hid (A.out.more h.out); clear h
  refine hK.out _ _ (fun _ => HB.out _ A.out.bl) ?_
  (clear hK KK; try simp only [Act.put, List.setIfInBounds_toArray, List.set_cons_zero, List.set_cons_succ])
  (repeat (refine wpSeqE_take (v := ?_) rfl (by rfl) (fun wq hSq => ?_) ?_; rotate_left; (focus ((try dsimp only at hSq); go_simp; try with_reducible rfl)); simp only [Act.put, List.setIfInBounds_toArray, List.set_cons_zero, List.set_cons_succ]))
  (refine wpSeqE_do rfl (by rfl) (fun KK hK => ?_); go_simp)
  refine hK.out _ _ (fun _ => HB.out _ (A.out.on (bl1 _ _)).bl) ?_
  (clear hK KK; try simp only [Act.put, List.setIfInBounds_toArray, List.set_cons_zero, List.set_cons_succ])
  (repeat (refine wpSeqE_take (v := ?_) rfl (by rfl) (fun wq hSq => ?_) ?_; rotate_left; (focus ((try dsimp only at hSq); go_simp; try with_reducible rfl)); simp only [Act.put, List.setIfInBounds_toArray, List.set_cons_zero, List.set_cons_succ]))
  (refine wpSeqE_do rfl (by rfl) (fun KK hK => ?_); go_simp)
  refine (g_walk hB hR ((A.out.take 3).parts rfl) rfl (Nat.le_of_ble_eq_true rfl) (Nat.le_of_ble_eq_true rfl) (Nat.le_of_ble_eq_true rfl) _ _).mono ?_; rintro e u ⟨g, n, c, rfl, h⟩; replace A := Lib.hid ((A.out.drop 3).over h.out); clear h
  refine hK.out _ _ (fun _ => HB.out _ A.out.bl) ?_
  (clear hK KK; try simp only [Act.put, List.setIfInBounds_toArray, List.set_cons_zero, List.set_cons_succ])
  (repeat (refine wpSeqE_take (v := ?_) rfl (by rfl) (fun wq hSq => ?_) ?_; rotate_left; (focus ((try dsimp only at hSq); go_simp; try with_reducible rfl)); simp only [Act.put, List.setIfInBounds_toArray, List.set_cons_zero, List.set_cons_succ]))
  (refine wpSeqE_do rfl (by rfl) (fun KK hK => ?_); go_simp)
  refine (g_mark _ _).mono ?_; rintro e u ⟨g, n, c, rfl, h⟩; replace A := Lib.hid (A.out.more h.out); clear h
  refine hK.out _ _ (fun _ => HB.out _ A.out.bl) ?_
  (clear hK KK; try simp only [Act.put, List.setIfInBounds_toArray, List.set_cons_zero, List.set_cons_succ])
  (repeat (refine wpSeqE_take (v := ?_) rfl (by rfl) (fun wq hSq => ?_) ?_; rotate_left; (focus ((try dsimp only at hSq); go_simp; try with_reducible rfl)); simp only [Act.put, List.setIfInBounds_toArray, List.set_cons_zero, List.set_cons_succ]))
  (refine wpSeqE_do rfl (by rfl) (fun KK hK => ?_); go_simp)
  refine (g_do _ _ _).mono ?_; rintro e u ⟨g, n, c, rfl, h⟩; replace A := Lib.hid (A.out.more h.out); clear h
  refine hK.out _ _ (fun _ => HB.out _ A.out.bl) ?_
  (clear hK KK; try simp only [Act.put, List.setIfInBounds_toArray, List.set_cons_zero, List.set_cons_succ])
  (repeat (refine wpSeqE_take (v := ?_) rfl (by rfl) (fun wq hSq => ?_) ?_; rotate_left; (focus ((try dsimp only at hSq); go_simp; try with_reducible rfl)); simp only [Act.put, List.setIfInBounds_toArray, List.set_cons_zero, List.set_cons_succ]))
  (refine wpSeqE_do rfl (by rfl) (fun KK hK => ?_); go_simp)
  refine (g_to _ _ _).mono ?_; rintro e u ⟨g, n, c, rfl, h⟩; replace A := Lib.hid (A.out.more h.out); clear h
  refine hK.out _ _ (fun _ => HB.out _ A.out.bl) ?_
  (clear hK KK; try simp only [Act.put, List.setIfInBounds_toArray, List.set_cons_zero, List.set_cons_succ])
  (repeat (refine wpSeqE_take (v := ?_) rfl (by rfl) (fun wq hSq => ?_) ?_; rotate_left; (focus ((try dsimp only at hSq); go_simp; try with_reducible rfl)); simp only [Act.put, List.setIfInBounds_toArray, List.set_cons_zero, List.set_cons_succ]))
  (refine wpSeqE_do rfl (by rfl) (fun KK hK => ?_); go_simp)
  refine (g_set _ _).mono ?_; rintro e u ⟨g, n, c, rfl, h⟩; replace A := Lib.hid (A.out.more h.out); clear h
  refine hK.out _ _ (fun _ => HB.out _ A.out.bl) ?_
  (clear hK KK; try simp only [Act.put, List.setIfInBounds_toArray, List.set_cons_zero, List.set_cons_succ])
  (repeat (refine wpSeqE_take (v := ?_) rfl (by rfl) (fun wq hSq => ?_) ?_; rotate_left; (focus ((try dsimp only at hSq); go_simp; try with_reducible rfl)); simp only [Act.put, List.setIfInBounds_toArray, List.set_cons_zero, List.set_cons_succ]))
  (refine wpSeqE_do rfl (by rfl) (fun KK hK => ?_); go_simp)
  refine (g_emitPair _ _).mono ?_; rintro e u ⟨g, n, c, rfl, h⟩; replace A := Lib.hid (A.out.more h.out); clear h
  refine hK.out _ _ (fun _ => HB.out _ A.out.bl) ?_
  (clear hK KK; try simp only [Act.put, List.setIfInBounds_toArray, List.set_cons_zero, List.set_cons_succ])
  (repeat (refine wpSeqE_take (v := ?_) rfl (by rfl) (fun wq hSq => ?_) ?_; rotate_left; (focus ((try dsimp only at hSq); go_simp; try with_reducible rfl)); simp only [Act.put, List.setIfInBounds_toArray, List.set_cons_zero, List.set_cons_succ]))
  (refine wpSeqE_do rfl (by rfl) (fun KK hK => ?_); go_simp)
  refine (g_cell _ _ _).mono ?_; rintro e u ⟨g, n, c, rfl, h⟩; replace A := Lib.hid (A.out.more h.out); clear h
  refine hK.out _ _ (fun _ => HB.out _ A.out.bl) ?_
  (clear hK KK; try simp only [Act.put, List.setIfInBounds_toArray, List.set_cons_zero, List.set_cons_succ])
  (repeat (refine wpSeqE_take (v := ?_) rfl (by rfl) (fun wq hSq => ?_) ?_; rotate_left; (focus ((try dsimp only at hSq); go_simp; try with_reducible rfl)); simp only [Act.put, List.setIfInBounds_toArray, List.set_cons_zero, List.set_cons_succ]))
  (refine wpSeqE_do rfl (by rfl) (fun KK hK => ?_); go_simp)
  refine (g_set _ _).mono ?_; rintro e u ⟨g, n, c, rfl, h⟩; replace A := Lib.hid (A.out.more h.out); clear h
  refine hK.out _ _ (fun _ => HB.out _ A.out.bl) ?_
  (clear hK KK; try simp only [Act.put, List.setIfInBounds_toArray, List.set_cons_zero, List.set_cons_succ])
  (repeat (refine wpSeqE_take (v := ?_) rfl (by rfl) (fun wq hSq => ?_) ?_; rotate_left; (focus ((try dsimp only at hSq); go_simp; try with_reducible rfl)); simp only [Act.put, List.setIfInBounds_toArray, List.set_cons_zero, List.set_cons_succ]))
  (refine wpSeqE_do rfl (by rfl) (fun KK hK => ?_); go_simp)
  refine (g_wide hB hR _).mono ?_; rintro e u ⟨rfl, h⟩; replace A := Lib.hid (A.out.on h); clear h
  refine hK.out _ _ (fun _ => HB.out _ A.out.bl) ?_
  (clear hK KK; try simp only [Act.put, List.setIfInBounds_toArray, List.set_cons_zero, List.set_cons_succ])
  (repeat (refine wpSeqE_take (v := ?_) rfl (by rfl) (fun wq hSq => ?_) ?_; rotate_left; (focus ((try dsimp only at hSq); go_simp; try with_reducible rfl)); simp only [Act.put, List.setIfInBounds_toArray, List.set_cons_zero, List.set_cons_succ]))
  (refine wpSeqE_do rfl (by rfl) (fun KK hK => ?_); go_simp)
  refine (g_push _ _).mono ?_; rintro e u ⟨g, n, c, rfl, h⟩; replace A := Lib.hid (A.out.more h.out); clear h
  refine hK.out _ _ (fun _ => HB.out _ A.out.bl) ?_
  (clear hK KK; try simp only [Act.put, List.setIfInBounds_toArray, List.set_cons_zero, List.set_cons_succ])
  (repeat (refine wpSeqE_take (v := ?_) rfl (by rfl) (fun wq hSq => ?_) ?_; rotate_left; (focus ((try dsimp only at hSq); go_simp; try with_reducible rfl)); simp only [Act.put, List.setIfInBounds_toArray, List.set_cons_zero, List.set_cons_succ]))
  (refine wpSeqE_do rfl (by rfl) (fun KK hK => ?_); go_simp)
  refine (g_set _ _).mono ?_; rintro e u ⟨g, n, c, rfl, h⟩; replace A := Lib.hid (A.out.more h.out); clear h
  refine hK.out _ _ (fun _ => HB.out _ A.out.bl) ?_
  (clear hK KK; try simp only [Act.put, List.setIfInBounds_toArray, List.set_cons_zero, List.set_cons_succ])
  (repeat (refine wpSeqE_take (v := ?_) rfl (by rfl) (fun wq hSq => ?_) ?_; rotate_left; (focus ((try dsimp only at hSq); go_simp; try with_reducible rfl)); simp only [Act.put, List.setIfInBounds_toArray, List.set_cons_zero, List.set_cons_succ]))
  (refine wpSeqE_do rfl (by rfl) (fun KK hK => ?_); go_simp)
  refine (g_to _ _ _).mono ?_; rintro e u ⟨g, n, c, rfl, h⟩; replace A := Lib.hid (A.out.more h.out); clear h
  refine hK.out _ _ (fun _ => HB.out _ A.out.bl) ?_
  (clear hK KK; try simp only [Act.put, List.setIfInBounds_toArray, List.set_cons_zero, List.set_cons_succ])
  (repeat (refine wpSeqE_take (v := ?_) rfl (by rfl) (fun wq hSq => ?_) ?_; rotate_left; (focus ((try dsimp only at hSq); go_simp; try with_reducible rfl)); simp only [Act.put, List.setIfInBounds_toArray, List.set_cons_zero, List.set_cons_succ]))
  (refine wpSeqE_do rfl (by rfl) (fun KK hK => ?_); go_simp)
  refine (g_mark _ _).mono ?_; rintro e u ⟨g, n, c, rfl, h⟩; replace A := Lib.hid (A.out.more h.out); clear h
  refine hK.out _ _ (fun _ => HB.out _ A.out.bl) ?_
  (clear hK KK; try simp only [Act.put, List.setIfInBounds_toArray, List.set_cons_zero, List.set_cons_succ])
  (repeat (refine wpSeqE_take (v := ?_) rfl (by rfl) (fun wq hSq => ?_) ?_; rotate_left; (focus ((try dsimp only at hSq); go_simp; try with_reducible rfl)); simp only [Act.put, List.setIfInBounds_toArray, List.set_cons_zero, List.set_cons_succ]))
  (refine wpSeqE_do rfl (by rfl) (fun KK hK => ?_); go_simp)
  refine (g_halt _).mono ?_; rintro e u ⟨g, n, c, rfl, h⟩; replace A := Lib.hid (A.out.more h.out); clear h
  refine hK.out _ _ (fun _ => HB.out _ A.out.bl) ?_
  (clear hK KK; try simp only [Act.put, List.setIfInBounds_toArray, List.set_cons_zero, List.set_cons_succ])
  (repeat (refine wpSeqE_take (v := ?_) rfl (by rfl) (fun wq hSq => ?_) ?_; rotate_left; (focus ((try dsimp only at hSq); go_simp; try with_reducible rfl)); simp only [Act.put, List.setIfInBounds_toArray, List.set_cons_zero, List.set_cons_succ]))
  (refine wpSeqE_do rfl (by rfl) (fun KK hK => ?_); go_simp)
  refine hK.out _ _ (fun _ => HB.out _ (A.out.on (bl1 _ _)).bl) ?_
  (clear hK KK; try simp only [Act.put, List.setIfInBounds_toArray, List.set_cons_zero, List.set_cons_succ])
  (repeat (refine wpSeqE_take (v := ?_) rfl (by rfl) (fun wq hSq => ?_) ?_; rotate_left; (focus ((try dsimp only at hSq); go_simp; try with_reducible rfl)); simp only [Act.put, List.setIfInBounds_toArray, List.set_cons_zero, List.set_cons_succ]))
  (refine wpSeqE_do rfl (by rfl) (fun KK hK => ?_); go_simp)
  refine (g_program 1 (A.out.parts rfl) rfl (Nat.le_of_ble_eq_true rfl) (Nat.le_of_ble_eq_true rfl) (Nat.le_of_ble_eq_true rfl) (all_wf B R) (HT.out.on ((pgW_bl w B R).trans (((A.out.on (bl1 _ _)).bl).mono (by rw [pgW_size]; omega)))) (all_ans B R)).mono ?_; rintro e u ⟨p, n, c, rfl, hZ⟩; have HBL := Lib.hid (A.out.bl.trans (((bl1 _ _).trans (hZ.out.2.2.mono (by simp))).mono A.out.bl.size)); obtain ⟨⟨x0, x1⟩, y0, y1, y2, y3, y4⟩ := pg_cells w B R _ HBL.out
  refine hK.out _ _ (fun _ => ⟨x0, x1⟩) ?_
  (clear hK KK; try simp only [Act.put, List.setIfInBounds_toArray, List.set_cons_zero, List.set_cons_succ])
  (repeat (refine wpSeqE_take (v := ?_) rfl (by rfl) (fun wq hSq => ?_) ?_; rotate_left; (focus ((try dsimp only at hSq); go_simp; try with_reducible rfl)); simp only [Act.put, List.setIfInBounds_toArray, List.set_cons_zero, List.set_cons_succ]))
  (refine wpSeqE_do rfl (by rfl) (fun KK hK => ?_); go_simp)
  refine hK.out _ _ (fun hn => absurd rfl hn) ?_
  (clear hK KK; try simp only [Act.put])
  refine wpSeqE_nil ?_
  go_wp2_with fail
  obtain ⟨f1, f2, f3⟩ := hZ.out
  change RowW 108 3 u p c n (codC ((bsOf 1 (allO B R).flatten).filled.map fixI)) at f2
  change n = (bsOf 1 (allO B R).flatten).code.length at f1
  rw [all_code] at f2
  obtain ⟨z1, z2, z3⟩ := pg_end (t := 1) HBL.out f2
  exact pg_back rfl (w.heap.size + 1) 1 p n c rfl z1 rfl ⟨p, n, c, rfl, f1.trans (bs_len (all_code B R)), z2, z3⟩
end
end Go.Proofs.YtdodhpfdldkbdabGreatDoor.Tr
namespace Go.Proofs.YtdodhpfdldkbdabGreatDoor.Tr
open Go.ChangeShapes Go.WideShapes Go.ChangeAt Go.RowKit Num Go.Maps As
open Go.ChangeMaps Go.MapKept
attribute [local go_sem] run_store_float frombits_run bits_run
def roomV (c : Int) : Int := if c < 7 then 0 else if 52 ≤ c then 16 else (c - 4) / 3
theorem roomV_in (c : Int) : 0 ≤ roomV c ∧ roomV c ≤ 16 := by
  unfold roomV
  split
  · omega
  · split <;> omega
set_option maxRecDepth 100000 in
theorem room_any (c : Int) (hc : c ≤ 9223372036854775807) (w : World) : Calls Tryz.prog 19 #[.int .i64 c] w fun e w' => e = .returned (.int .i64 (roomV c)) ∧ w' = w := by
  unfold roomV
  by_cases h : c < 7
  · rw [if_pos h]
    go_enter Tryz.func19, Tryz.ntmps19
    go_wp2
    go_ret
    exact ⟨rfl, rfl⟩
  · rw [if_neg h]
    have h1 : wrap64 (c - 4) = c - 4 := by unfold wrap64; omega
    have h2 : wrap64 ((c - 4).tdiv 3) = (c - 4) / 3 := by rw [Int.tdiv_eq_ediv_of_nonneg (by omega)]; unfold wrap64; omega
    go_enter Tryz.func19, Tryz.ntmps19
    go_wp2
    all_goals go_ret
    all_goals refine ⟨?_, rfl⟩
    all_goals first | rfl | (exfalso; omega)
def treeO : Obj := .cells #[.int .i64 0, .slice none 0 0, .int .i64 0, .slice none 0 0, .int .i64 0, .slice none 0 0, .int .i64 0, .slice none 0 0, .int .i64 0, .slice none 0 0, .int .i64 0, .slice none 0 0, .int .i64 0, .slice none 0 0] 31
def mkW (w : World) (B R : Int) : World := (w.alloc treeO).alloc (plotO B R)
theorem mkW_size (w : World) (B R : Int) : (mkW w B R).heap.size = w.heap.size + 2 := by simp [mkW]
theorem mkW_bl (w : World) (B R : Int) : Below w.heap.size w (mkW w B R) := (bl1 w _).trans ((bl1 _ _).mono (by simp))
theorem mk_cells (w : World) (B R : Int) (u : World) (k : Below (mkW w B R).heap.size (mkW w B R) u) : (u.cell? ⟨w.heap.size + 1, 0, none⟩ = some (.int .i64 B) ∧ u.cell? ⟨w.heap.size + 1, 1, none⟩ = some (.int .i64 R)) ∧ u.heap[w.heap.size]? = some treeO := by
  have h1 : (mkW w B R).heap[w.heap.size + 1]? = some (plotO B R) := by
    have := heap_alloc_new (w.alloc treeO) (plotO B R)
    simpa [mkW] using this
  have h0 : (mkW w B R).heap[w.heap.size]? = some treeO := (Below.heap_alloc _ _ _ (by simp)).trans (heap_alloc_new w _)
  have hs := mkW_size w B R
  have a := cells2_of ((k.block _ (by omega)).trans h1)
  exact ⟨⟨a.1, a.2.1⟩, (k.block _ (by omega)).trans h0⟩
structure PAcc (W u : World) (L : List (Option Addr × Nat × Nat × List Ins)) : Prop where
  bl : Below W.heap.size W u
  it : ∀ q ∈ L, q.2.1 = q.2.2.2.length ∧ RowW 108 3 u q.1 q.2.2.1 q.2.1 (codC q.2.2.2)
theorem PAcc.more {W u u' : World} {L : List (Option Addr × Nat × Nat × List Ins)} {cs : List Ins} (h : PAcc W u L) (q : Option Addr × Nat × Nat) (k : q.2.1 = cs.length ∧ RowW 108 3 u' q.1 q.2.2 q.2.1 (codC cs) ∧ Below u.heap.size u u') : PAcc W u' ((q.1, q.2.1, q.2.2, cs) :: L) :=
  ⟨h.bl.trans (k.2.2.mono h.bl.size), fun x hx => by
    rcases List.mem_cons.1 hx with rfl | hx
    · exact ⟨k.1, k.2.1⟩
    · exact ⟨(h.it x hx).1, (h.it x hx).2.keep (kept_below k.2.2 (h.it x hx).2.blw)⟩⟩
section
variable {w : World}
set_option maxHeartbeats 4000000 in
theorem set14 (w u : World) (x0 x1 x2 x3 x4 x5 x6 x7 x8 x9 x10 x11 x12 x13 : Value) (hb : u.heap[w.heap.size]? = some treeO) :
    ((((((((((((((u.setCell ⟨w.heap.size, 0, none⟩ x0).setCell ⟨w.heap.size, 1, none⟩ x1).setCell ⟨w.heap.size, 2, none⟩ x2).setCell ⟨w.heap.size, 3, none⟩ x3).setCell ⟨w.heap.size, 4, none⟩ x4).setCell ⟨w.heap.size, 5, none⟩ x5).setCell ⟨w.heap.size, 6, none⟩ x6).setCell ⟨w.heap.size, 7, none⟩ x7).setCell ⟨w.heap.size, 8, none⟩ x8).setCell ⟨w.heap.size, 9, none⟩ x9).setCell ⟨w.heap.size, 10, none⟩ x10).setCell ⟨w.heap.size, 11, none⟩ x11).setCell ⟨w.heap.size, 12, none⟩ x12).setCell ⟨w.heap.size, 13, none⟩ x13).heap[w.heap.size]? = some (.cells #[x0, x1, x2, x3, x4, x5, x6, x7, x8, x9, x10, x11, x12, x13] 31 (0, 0)) ∧ Turn [w.heap.size] [w.heap.size] u ((((((((((((((u.setCell ⟨w.heap.size, 0, none⟩ x0).setCell ⟨w.heap.size, 1, none⟩ x1).setCell ⟨w.heap.size, 2, none⟩ x2).setCell ⟨w.heap.size, 3, none⟩ x3).setCell ⟨w.heap.size, 4, none⟩ x4).setCell ⟨w.heap.size, 5, none⟩ x5).setCell ⟨w.heap.size, 6, none⟩ x6).setCell ⟨w.heap.size, 7, none⟩ x7).setCell ⟨w.heap.size, 8, none⟩ x8).setCell ⟨w.heap.size, 9, none⟩ x9).setCell ⟨w.heap.size, 10, none⟩ x10).setCell ⟨w.heap.size, 11, none⟩ x11).setCell ⟨w.heap.size, 12, none⟩ x12).setCell ⟨w.heap.size, 13, none⟩ x13) := by
  unfold treeO at hb
  exact ⟨(heap_setCell_same _ _ 13 _ _ _ (heap_setCell_same _ _ 12 _ _ _ (heap_setCell_same _ _ 11 _ _ _ (heap_setCell_same _ _ 10 _ _ _ (heap_setCell_same _ _ 9 _ _ _ (heap_setCell_same _ _ 8 _ _ _ (heap_setCell_same _ _ 7 _ _ _ (heap_setCell_same _ _ 6 _ _ _ (heap_setCell_same _ _ 5 _ _ _ (heap_setCell_same _ _ 4 _ _ _ (heap_setCell_same _ _ 3 _ _ _ (heap_setCell_same _ _ 2 _ _ _ (heap_setCell_same _ _ 1 _ _ _ (heap_setCell_same _ _ 0 _ _ _ hb)))))))))))))).trans (by simp), ((((((((((((((As.turn_set w.heap.size 0 x0 u).trans (As.turn_set w.heap.size 1 x1 _)).trans (As.turn_set w.heap.size 2 x2 _)).trans (As.turn_set w.heap.size 3 x3 _)).trans (As.turn_set w.heap.size 4 x4 _)).trans (As.turn_set w.heap.size 5 x5 _)).trans (As.turn_set w.heap.size 6 x6 _)).trans (As.turn_set w.heap.size 7 x7 _)).trans (As.turn_set w.heap.size 8 x8 _)).trans (As.turn_set w.heap.size 9 x9 _)).trans (As.turn_set w.heap.size 10 x10 _)).trans (As.turn_set w.heap.size 11 x11 _)).trans (As.turn_set w.heap.size 12 x12 _)).trans (As.turn_set w.heap.size 13 x13 _))⟩
theorem tree_back {fn : Func} {p r : Tmp} (h : fn.results = #[.cell p 31, .tmp r]) {Q : Ending → World → Prop} {a : Act} {w : World} (g : Nat) (e : Int) {arr : Array Value} (hp : a.tmps.getD p undef = .pointer (some ⟨g, 0, none⟩)) (hu : a.tmps.getD r undef = .int .i64 e)
    (hg : w.heap[g]? = some (.cells arr 31 (0, 0))) (ha : arr.size = 14) (hd : a.defers = []) (hR : Q (.returned (.tuple #[.agg arr, .int .i64 e])) w) : bodyPost Tryz.prog fn Q .ret a w := by
  refine bodyPost_ret (v := .tuple #[.agg arr, .int .i64 e]) ?_ hd hR
  rw [results_cell_tmp h, hp, hu]
  have hl := run_loadVar_row (P := Tryz.prog) w g 31 31 arr (0, 0) _ hg Tryz.underlying31 rfl (by rw [ha]; kernel_rfl)
  simp [asAddr, hl, Result.andThen]
structure Ptr where
  p : Option Addr
  n : Nat
  c : Nat
def treeV (q : Nat → Ptr) : Value := .agg #[.int .i64 1, .slice (q 0).p (q 0).n (q 0).c, .int .i64 2, .slice (q 1).p (q 1).n (q 1).c, .int .i64 2, .slice (q 2).p (q 2).n (q 2).c, .int .i64 1, .slice (q 3).p (q 3).n (q 3).c, .int .i64 1, .slice (q 4).p (q 4).n (q 4).c, .int .i64 1, .slice (q 5).p (q 5).n (q 5).c, .int .i64 1, .slice (q 6).p (q 6).n (q 6).c]
def codeOf (B R : Int) (k : Nat) : List Ins := [getC B R, putCd B R, delC B R, leastC B R, afterC B R, lenC B R, allC B R].getD k []
structure TrAt (w : World) (B R : Int) (q : Nat → Ptr) : Prop where
  row : ∀ k, k < 7 → (q k).n = (codeOf B R k).length ∧ RowW 108 3 w (q k).p (q k).c (q k).n (codC (codeOf B R k))
theorem TrAt.on {w w' : World} {B R : Int} {q : Nat → Ptr} (h : TrAt w B R q) (k : Below w.heap.size w w') : TrAt w' B R q := ⟨fun i hi => ⟨(h.row i hi).1, (h.row i hi).2.keep (kept_below k (h.row i hi).2.blw)⟩⟩
def tree0 : Value := .agg #[.int .i64 0, .slice none 0 0, .int .i64 0, .slice none 0 0, .int .i64 0, .slice none 0 0, .int .i64 0, .slice none 0 0, .int .i64 0, .slice none 0 0, .int .i64 0, .slice none 0 0, .int .i64 0, .slice none 0 0]
theorem make_yes (hT : Shaped5 w) {b c : Int} (hc : c ≤ 9223372036854775807) (h7 : 7 ≤ c) (h0 : 0 ≤ b) (hf : b + c ≤ 256) : Calls Tryz.prog 9 #[.int .i64 b, .int .i64 c] w fun e w' => ∃ q, e = .returned (.tuple #[treeV q, .int .i64 0]) ∧ Hid (TrAt w' b (roomV c) q ∧ Below w.heap.size w w') := by
  have HT := Lib.hid hT
  have HR := Lib.hid (room_any c hc)
  have hr0 := roomV_in c
  have hr1 : roomV c ≠ 0 := by unfold roomV; rw [if_neg (by omega)]; split <;> omega
  obtain ⟨r, hr⟩ : ∃ r, roomV c = r := ⟨_, rfl⟩
  rw [hr] at HR hr0 hr1
  have hB : 0 ≤ b ∧ b ≤ 256 := by omega
  have hR : 0 ≤ r ∧ r ≤ 16 := hr0
  have e0 : (r == 0) = false := by simpa using hr1
  have e1 : ¬ b < 0 := by omega
  have e2 : wrap64 (256 - c) = 256 - c := by unfold wrap64; omega
  have e3 : ¬ 256 - c < b := by omega
  have A : Hid (PAcc (mkW w b r) (mkW w b r).drew []) := ⟨(Same.drew _).below _, fun q hq => by cases hq⟩
  rw [hr]
  clear hT hr hr0 hr1 h7 h0 hf hc
  go_enter Tryz.func9, Tryz.ntmps9
  go_wp2_with (go_at_call 19; refine (HR.out _).mono ?_; rintro e u ⟨rfl, hu⟩; subst u)
  refine wp_region_seq (fun u => u.cell? ⟨w.heap.size + 1, 0, none⟩ = some (.int .i64 b) ∧ u.cell? ⟨w.heap.size + 1, 1, none⟩ = some (.int .i64 r)) ((0, true) :: (2, true) :: (4, true) :: (6, true) :: (8, true) :: (10, true) :: (12, true) :: (1, false) :: (3, false) :: (5, false) :: (7, false) :: (9, false) :: (11, false) :: (13, false) :: (14, true) :: (15, false) :: (16, true) :: []) follows (by kernel_rfl) (fun _ _ _ _ _ h => h) (mk_cells w b r _ ((Same.drew _).below _)).1 ?_
  (repeat ((first | (refine wpSeq_take (v := ?_) rfl (by rfl) (fun wq hSq => ?_) ?_; rotate_left; (focus ((try dsimp only at hSq); go_simp; try with_reducible rfl))) | refine wpSeq_skip rfl (by rfl) ?_); simp only [Act.put, List.setIfInBounds_toArray, List.set_cons_zero, List.set_cons_succ]))
  (refine wpSeq_do rfl (by rfl) (fun KK hK => ?_); go_simp)
  refine (g_pget (B := b) (R := r) hB hR (HT.out.on ((mkW_bl w b r).trans (A.out.bl.mono (by rw [mkW_size]; omega))))).mono ?_; rintro e u0 ⟨p0, n0, c0, rfl, h⟩; replace A := Lib.hid (A.out.more ⟨p0, n0, c0⟩ h.out); clear h
  refine hK.out _ _ (mk_cells w b r _ A.out.bl).1 ?_
  (clear hK KK; try simp only [Act.put, List.setIfInBounds_toArray, List.set_cons_zero, List.set_cons_succ])
  (repeat ((first | (refine wpSeq_take (v := ?_) rfl (by rfl) (fun wq hSq => ?_) ?_; rotate_left; (focus ((try dsimp only at hSq); go_simp; try with_reducible rfl))) | refine wpSeq_skip rfl (by rfl) ?_); simp only [Act.put, List.setIfInBounds_toArray, List.set_cons_zero, List.set_cons_succ]))
  (refine wpSeq_do rfl (by rfl) (fun KK hK => ?_); go_simp)
  refine (g_pput (B := b) (R := r) hB hR (HT.out.on ((mkW_bl w b r).trans (A.out.bl.mono (by rw [mkW_size]; omega))))).mono ?_; rintro e u1 ⟨p1, n1, c1, rfl, h⟩; replace A := Lib.hid (A.out.more ⟨p1, n1, c1⟩ h.out); clear h
  refine hK.out _ _ (mk_cells w b r _ A.out.bl).1 ?_
  (clear hK KK; try simp only [Act.put, List.setIfInBounds_toArray, List.set_cons_zero, List.set_cons_succ])
  (repeat ((first | (refine wpSeq_take (v := ?_) rfl (by rfl) (fun wq hSq => ?_) ?_; rotate_left; (focus ((try dsimp only at hSq); go_simp; try with_reducible rfl))) | refine wpSeq_skip rfl (by rfl) ?_); simp only [Act.put, List.setIfInBounds_toArray, List.set_cons_zero, List.set_cons_succ]))
  (refine wpSeq_do rfl (by rfl) (fun KK hK => ?_); go_simp)
  refine (g_pdel (B := b) (R := r) hB hR (HT.out.on ((mkW_bl w b r).trans (A.out.bl.mono (by rw [mkW_size]; omega))))).mono ?_; rintro e u2 ⟨p2, n2, c2, rfl, h⟩; replace A := Lib.hid (A.out.more ⟨p2, n2, c2⟩ h.out); clear h
  refine hK.out _ _ (mk_cells w b r _ A.out.bl).1 ?_
  (clear hK KK; try simp only [Act.put, List.setIfInBounds_toArray, List.set_cons_zero, List.set_cons_succ])
  (repeat ((first | (refine wpSeq_take (v := ?_) rfl (by rfl) (fun wq hSq => ?_) ?_; rotate_left; (focus ((try dsimp only at hSq); go_simp; try with_reducible rfl))) | refine wpSeq_skip rfl (by rfl) ?_); simp only [Act.put, List.setIfInBounds_toArray, List.set_cons_zero, List.set_cons_succ]))
  (refine wpSeq_do rfl (by rfl) (fun KK hK => ?_); go_simp)
  refine (g_pleast (B := b) (R := r) hB hR (HT.out.on ((mkW_bl w b r).trans (A.out.bl.mono (by rw [mkW_size]; omega))))).mono ?_; rintro e u3 ⟨p3, n3, c3, rfl, h⟩; replace A := Lib.hid (A.out.more ⟨p3, n3, c3⟩ h.out); clear h
  refine hK.out _ _ (mk_cells w b r _ A.out.bl).1 ?_
  (clear hK KK; try simp only [Act.put, List.setIfInBounds_toArray, List.set_cons_zero, List.set_cons_succ])
  (repeat ((first | (refine wpSeq_take (v := ?_) rfl (by rfl) (fun wq hSq => ?_) ?_; rotate_left; (focus ((try dsimp only at hSq); go_simp; try with_reducible rfl))) | refine wpSeq_skip rfl (by rfl) ?_); simp only [Act.put, List.setIfInBounds_toArray, List.set_cons_zero, List.set_cons_succ]))
  (refine wpSeq_do rfl (by rfl) (fun KK hK => ?_); go_simp)
  refine (g_pafter (B := b) (R := r) hB hR (HT.out.on ((mkW_bl w b r).trans (A.out.bl.mono (by rw [mkW_size]; omega))))).mono ?_; rintro e u4 ⟨p4, n4, c4, rfl, h⟩; replace A := Lib.hid (A.out.more ⟨p4, n4, c4⟩ h.out); clear h
  refine hK.out _ _ (mk_cells w b r _ A.out.bl).1 ?_
  (clear hK KK; try simp only [Act.put, List.setIfInBounds_toArray, List.set_cons_zero, List.set_cons_succ])
  (repeat ((first | (refine wpSeq_take (v := ?_) rfl (by rfl) (fun wq hSq => ?_) ?_; rotate_left; (focus ((try dsimp only at hSq); go_simp; try with_reducible rfl))) | refine wpSeq_skip rfl (by rfl) ?_); simp only [Act.put, List.setIfInBounds_toArray, List.set_cons_zero, List.set_cons_succ]))
  (refine wpSeq_do rfl (by rfl) (fun KK hK => ?_); go_simp)
  refine (g_plen (B := b) (R := r) hB hR (HT.out.on ((mkW_bl w b r).trans (A.out.bl.mono (by rw [mkW_size]; omega))))).mono ?_; rintro e u5 ⟨p5, n5, c5, rfl, h⟩; replace A := Lib.hid (A.out.more ⟨p5, n5, c5⟩ h.out); clear h
  refine hK.out _ _ (mk_cells w b r _ A.out.bl).1 ?_
  (clear hK KK; try simp only [Act.put, List.setIfInBounds_toArray, List.set_cons_zero, List.set_cons_succ])
  (repeat ((first | (refine wpSeq_take (v := ?_) rfl (by rfl) (fun wq hSq => ?_) ?_; rotate_left; (focus ((try dsimp only at hSq); go_simp; try with_reducible rfl))) | refine wpSeq_skip rfl (by rfl) ?_); simp only [Act.put, List.setIfInBounds_toArray, List.set_cons_zero, List.set_cons_succ]))
  (refine wpSeq_do rfl (by rfl) (fun KK hK => ?_); go_simp)
  refine (g_pall (B := b) (R := r) hB hR (HT.out.on ((mkW_bl w b r).trans (A.out.bl.mono (by rw [mkW_size]; omega))))).mono ?_; rintro e u6 ⟨p6, n6, c6, rfl, h⟩; replace A := Lib.hid (A.out.more ⟨p6, n6, c6⟩ h.out); clear h
  refine hK.out _ _ (mk_cells w b r _ A.out.bl).1 ?_
  (clear hK KK; try simp only [Act.put, List.setIfInBounds_toArray, List.set_cons_zero, List.set_cons_succ])
  (repeat ((first | (refine wpSeq_take (v := ?_) rfl (by rfl) (fun wq hSq => ?_) ?_; rotate_left; (focus ((try dsimp only at hSq); go_simp; try with_reducible rfl))) | refine wpSeq_skip rfl (by rfl) ?_); simp only [Act.put, List.setIfInBounds_toArray, List.set_cons_zero, List.set_cons_succ]))
  have HX := mk_cells w b r _ A.out.bl
  obtain ⟨⟨x0, x1⟩, xs⟩ := HX
  have hlt := lt_of_block xs
  have a0 := (cell_of_row _ _ 0 _ _ _ xs).trans rfl
  have f0 := frozen_of_row _ _ 0 _ _ xs
  have a1 := (cell_of_row _ _ 1 _ _ _ xs).trans rfl
  have f1 := frozen_of_row _ _ 1 _ _ xs
  have a2 := (cell_of_row _ _ 2 _ _ _ xs).trans rfl
  have f2 := frozen_of_row _ _ 2 _ _ xs
  have a3 := (cell_of_row _ _ 3 _ _ _ xs).trans rfl
  have f3 := frozen_of_row _ _ 3 _ _ xs
  have a4 := (cell_of_row _ _ 4 _ _ _ xs).trans rfl
  have f4 := frozen_of_row _ _ 4 _ _ xs
  have a5 := (cell_of_row _ _ 5 _ _ _ xs).trans rfl
  have f5 := frozen_of_row _ _ 5 _ _ xs
  have a6 := (cell_of_row _ _ 6 _ _ _ xs).trans rfl
  have f6 := frozen_of_row _ _ 6 _ _ xs
  have a7 := (cell_of_row _ _ 7 _ _ _ xs).trans rfl
  have f7 := frozen_of_row _ _ 7 _ _ xs
  have a8 := (cell_of_row _ _ 8 _ _ _ xs).trans rfl
  have f8 := frozen_of_row _ _ 8 _ _ xs
  have a9 := (cell_of_row _ _ 9 _ _ _ xs).trans rfl
  have f9 := frozen_of_row _ _ 9 _ _ xs
  have a10 := (cell_of_row _ _ 10 _ _ _ xs).trans rfl
  have f10 := frozen_of_row _ _ 10 _ _ xs
  have a11 := (cell_of_row _ _ 11 _ _ _ xs).trans rfl
  have f11 := frozen_of_row _ _ 11 _ _ xs
  have a12 := (cell_of_row _ _ 12 _ _ _ xs).trans rfl
  have f12 := frozen_of_row _ _ 12 _ _ xs
  have a13 := (cell_of_row _ _ 13 _ _ _ xs).trans rfl
  have f13 := frozen_of_row _ _ 13 _ _ xs
  have HS := Lib.hid (set14 w u6 (.int .i64 1) (.slice p0 n0 c0) (.int .i64 2) (.slice p1 n1 c1) (.int .i64 2) (.slice p2 n2 c2) (.int .i64 1) (.slice p3 n3 c3) (.int .i64 1) (.slice p4 n4 c4) (.int .i64 1) (.slice p5 n5 c5) (.int .i64 1) (.slice p6 n6 c6) xs)
  have HX := Lib.hid (mk_cells w b r u6 A.out.bl)
  have hl2 : w.heap.size + 1 < u6.heap.size := by
    have := A.out.bl.size
    rw [mkW_size] at this
    omega
  clear x0 x1 xs
  (refine wpSeq_do rfl (by rfl) (fun KK hK => ?_); go_simp)
  refine hK.out _ _ ⟨(World.cell?_of_block (a := ⟨w.heap.size + 1, 0, none⟩) (HS.out.2.block _ hl2 (by simp))).trans HX.out.1.1, (World.cell?_of_block (a := ⟨w.heap.size + 1, 1, none⟩) (HS.out.2.block _ hl2 (by simp))).trans HX.out.1.2⟩ ?_
  (clear hK KK; try simp only [Act.put, List.setIfInBounds_toArray, List.set_cons_zero, List.set_cons_succ])
  (repeat ((first | (refine wpSeq_take (v := ?_) rfl (by rfl) (fun wq hSq => ?_) ?_; rotate_left; (focus ((try dsimp only at hSq); go_simp; try with_reducible rfl))) | refine wpSeq_skip rfl (by rfl) ?_); simp only [Act.put, List.setIfInBounds_toArray, List.set_cons_zero, List.set_cons_succ]))
  refine wpSeq_nil ?_
  go_wp2_with fail
  have hbw : Below w.heap.size w u6 := (mkW_bl w b r).trans (A.out.bl.mono (by rw [mkW_size]; omega))
  have hrow : ∀ q ∈ ([(p6, n6, c6, allC b r), (p5, n5, c5, lenC b r), (p4, n4, c4, afterC b r), (p3, n3, c3, leastC b r), (p2, n2, c2, delC b r), (p1, n1, c1, putCd b r), (p0, n0, c0, getC b r)] : List (Option Addr × Nat × Nat × List Ins)), q.2.1 = q.2.2.2.length ∧ RowW 108 3 _ q.1 q.2.2.1 q.2.1 (codC q.2.2.2) := fun q hq => ⟨(A.out.it q hq).1, (A.out.it q hq).2.keep (HS.out.2.kept (fun x hx z => by
    obtain ⟨arr, e⟩ := (A.out.it q hq).2.blk hx
    rw [show x = w.heap.size by simpa using z] at e
    exact ne_ty e HX.out.2 (by decide) rfl) (A.out.it q hq).2.blw)⟩
  refine tree_back rfl w.heap.size 0 rfl rfl HS.out.1 rfl rfl ⟨fun k => [⟨p0, n0, c0⟩, ⟨p1, n1, c1⟩, ⟨p2, n2, c2⟩, ⟨p3, n3, c3⟩, ⟨p4, n4, c4⟩, ⟨p5, n5, c5⟩, ⟨p6, n6, c6⟩].getD k ⟨none, 0, 0⟩, rfl, ⟨fun k hk => ?_⟩, hbw.trans (HS.out.2.below (fun x hx => by simp at hx; omega) hbw.size)⟩
  match k, hk with
  | 0, _ => exact hrow (p0, n0, c0, getC b r) (by simp)
  | 1, _ => exact hrow (p1, n1, c1, putCd b r) (by simp)
  | 2, _ => exact hrow (p2, n2, c2, delC b r) (by simp)
  | 3, _ => exact hrow (p3, n3, c3, leastC b r) (by simp)
  | 4, _ => exact hrow (p4, n4, c4, afterC b r) (by simp)
  | 5, _ => exact hrow (p5, n5, c5, lenC b r) (by simp)
  | 6, _ => exact hrow (p6, n6, c6, allC b r) (by simp)
set_option maxHeartbeats 1000000 in
theorem make_no {b c : Int} (hc : c ≤ 9223372036854775807) (hc0 : -9223372036854775808 ≤ c) (hf : ¬ (7 ≤ c ∧ 0 ≤ b ∧ b + c ≤ 256)) : Calls Tryz.prog 9 #[.int .i64 b, .int .i64 c] w fun e w' => e = .returned (.tuple #[tree0, .int .i64 200]) ∧ Below w.heap.size w w' := by
  have HR := Lib.hid (room_any c hc)
  by_cases h7 : c < 7
  · have hr : roomV c = 0 := by unfold roomV; rw [if_pos h7]
    rw [hr] at HR
    have HS := Lib.hid (heap_alloc_new w treeO)
    clear hf hc0
    go_enter Tryz.func9, Tryz.ntmps9
    go_wp2_with (go_at_call 19; refine (HR.out _).mono ?_; rintro e u ⟨rfl, hu⟩; subst u)
    exact tree_back rfl w.heap.size 200 rfl rfl HS.out rfl rfl ⟨rfl, bl1 _ _⟩
  · have hr := roomV_in c
    have hr1 : roomV c ≠ 0 := by unfold roomV; rw [if_neg h7]; split <;> omega
    obtain ⟨r, hr2⟩ : ∃ r, roomV c = r := ⟨_, rfl⟩
    rw [hr2] at HR hr hr1
    have e0 : (r == 0) = false := by simpa using hr1
    have e2 : wrap64 (256 - c) = 256 - c := by unfold wrap64; omega
    have HS := Lib.hid (heap_alloc_new w treeO)
    by_cases hb : b < 0
    · clear hf hc0 hr hr1 hr2 h7
      go_enter Tryz.func9, Tryz.ntmps9
      go_wp2_with (go_at_call 19; refine (HR.out _).mono ?_; rintro e u ⟨rfl, hu⟩; subst u)
      exact tree_back rfl w.heap.size 200 rfl rfl HS.out rfl rfl ⟨rfl, bl1 _ _⟩
    · have e3 : 256 - c < b := by omega
      clear hf hc0 hr hr1 hr2 h7
      go_enter Tryz.func9, Tryz.ntmps9
      go_wp2_with (go_at_call 19; refine (HR.out _).mono ?_; rintro e u ⟨rfl, hu⟩; subst u)
      exact tree_back rfl w.heap.size 200 rfl rfl HS.out rfl rfl ⟨rfl, bl1 _ _⟩
end
end Go.Proofs.YtdodhpfdldkbdabGreatDoor.Tr
namespace Go.Proofs.YtdodhpfdldkbdabGreatDoor.Tr
open Go.ChangeShapes Go.WideShapes Go.ChangeAt Go.RowKit Num Go.Maps As
open Go.ChangeMaps Go.MapKept
theorem cell_sm {w u : World} (h : Same w u) (p : Addr) : u.cell? p = w.cell? p := by unfold World.cell?; rw [h.heap]
section
variable {w : World}
attribute [local go_sem] bits_run
set_option maxRecDepth 100000 in
set_option maxHeartbeats 2000000 in
theorem exact_any {pa pb : Option Addr} {ca cb n : Nat} {l : List Nat} (hn : l.length = n) (hm : n ≤ 9223372036854775807) (ha : FlAt w pa l) (hb : FlAt w pb l) : Calls Tryz.prog 8 #[.slice pa n ca, .slice pb n cb] w fun e w' => e = .returned (.bool true) ∧ Same w w' := by
  have HA := Lib.hid ha
  have HB := Lib.hid hb
  have HN := Lib.hid hn
  have hmi : (n : Int) ≤ 9223372036854775807 := by omega
  clear ha hb hn
  go_enter Tryz.func8, Tryz.ntmps8
  go_wp2_with fail
  go_loopw [4, 5] (fun v4 v13 u => ∃ k : Nat, v13 = .int .i64 (k : Int) ∧ v4 = .bool false ∧ k ≤ n ∧ Hid (Same w u)) (fun _ v13 _ => n - (intOf v13).toNat)
  case atStart => exact ⟨0, rfl, rfl, Nat.zero_le _, Same.refl w⟩
  case round =>
    obtain ⟨k, rfl, rfl, hk, HR⟩ := hrel
    by_cases hlt : k < n
    · have hlt' : (k : Int) < (n : Int) := by omega
      obtain ⟨g1, o1, e1, l1, c1⟩ := HA.out k (by rw [HN.out]; exact hlt)
      obtain ⟨g2, o2, e2, l2, c2⟩ := HB.out k (by rw [HN.out]; exact hlt)
      obtain ⟨x, hx⟩ : ∃ x, l.getD k 0 = x := ⟨_, rfl⟩
      rw [hx] at c1 c2
      clear hx
      replace c1 := (cell_sm HR.out _).trans c1
      replace c2 := (cell_sm HR.out _).trans c2
      rw [← HR.out.heap] at l1 l2
      subst e1 e2
      clear HA HB HN
      go_upto_region 6 with fail
      refine wp_region_seq (fun u => u.cell? ⟨g1, o1 + k, none⟩ = some (.float .f64 x) ∧ u.cell? ⟨g2, o2 + k, none⟩ = some (.float .f64 x) )  ((0, true) :: (1, true) :: (2, true) :: (3, true) :: (5, true) :: (6, true) :: (7, true) :: (8, true) :: (4, false) :: (9, false) :: (10, true) :: [])  follows (by kernel_rfl) (fun _ _ _ _ _ h => h)  ⟨c1, c2⟩ ?_
      (repeat ((first | (refine wpSeq_take (v := ?_) rfl (by rfl) (fun wq hSq => ?_) ?_; rotate_left; (focus ((try dsimp only at hSq); go_simp; try with_reducible rfl))) | refine wpSeq_skip rfl (by rfl) ?_); simp only [Act.put, List.setIfInBounds_toArray, List.set_cons_zero, List.set_cons_succ]))
      (refine wpSeq_do rfl (by rfl) (fun KK hK => ?_); go_simp)
      refine hK.out _ _ ⟨c1, c2⟩ ?_
      (clear hK KK; try simp only [Act.put, List.setIfInBounds_toArray, List.set_cons_zero, List.set_cons_succ])
      (repeat ((first | (refine wpSeq_take (v := ?_) rfl (by rfl) (fun wq hSq => ?_) ?_; rotate_left; (focus ((try dsimp only at hSq); go_simp; try with_reducible rfl))) | refine wpSeq_skip rfl (by rfl) ?_); simp only [Act.put, List.setIfInBounds_toArray, List.set_cons_zero, List.set_cons_succ]))
      (refine wpSeq_do rfl (by rfl) (fun KK hK => ?_); go_simp)
      refine hK.out _ _ ⟨c1, c2⟩ ?_
      (clear hK KK; try simp only [Act.put, List.setIfInBounds_toArray, List.set_cons_zero, List.set_cons_succ])
      (repeat ((first | (refine wpSeq_take (v := ?_) rfl (by rfl) (fun wq hSq => ?_) ?_; rotate_left; (focus ((try dsimp only at hSq); go_simp; try with_reducible rfl))) | refine wpSeq_skip rfl (by rfl) ?_); simp only [Act.put, List.setIfInBounds_toArray, List.set_cons_zero, List.set_cons_succ]))
      refine wpSeq_nil ?_
      go_wp2_with fail
      exact ⟨⟨k + 1, by first | rfl | (congr 1), rfl, by omega, HR.out.trans (Same.drew _)⟩, by simp [intOf]; omega⟩
    · have hlt' : ¬ (k : Int) < (n : Int) := by omega
      go_wp2_with fail
      go_ret
      exact ⟨rfl, HR.out⟩
end
abbrev five : Nat := 4617315517961601024
abbrev fifty : Nat := 4632233691727265792
abbrev one1 : Nat := 4607182418800017408
def z24 : List Nat := List.replicate 24 0
theorem z24_ok : okS z24 := fun x hx => by
  have : x = 0 := (List.mem_replicate.1 hx).2
  exact this ▸ okN_zero
theorem lies5 : Lies 24 1 8 2 5 20 24 := ⟨by decide, by decide, by decide, by decide, by decide, by decide⟩
theorem has5 : Has 2 5 z24 [] := has_new (s := z24) lies5 fun i h1 h2 => by
  unfold z24
  rw [List.getD_eq_getElem?_getD, List.getElem?_replicate]
  split <;> rfl
theorem l2 : ∀ x ∈ [five, fifty], x < 18446744073709551616 := by decide
theorem l1 : ∀ x ∈ [five], x < 18446744073709551616 := by decide
structure Aft5 (s : List Nat) : Prop where
  len : s.length = 24
  ok : okS s
  has : Has 2 5 s [(five, fifty)]
theorem put5 : Ran z24 (runR 24 1 1024 8 2 (putCd 2 5) [five, fifty] z24) 2 20 1 0 [one1] ∧ Aft5 (aftS z24 (runR 24 1 1024 8 2 (putCd 2 5) [five, fifty] z24)) := by
  rcases put_ran (a := 24) (b := 1) (e := 8) (l := [five, fifty]) lies5 z24_ok has5 (by decide) l2 with ⟨_, h, _⟩ | ⟨_, h1, h2, h3⟩
  · exact absurd h (by decide)
  · rw [show X ((if isK [] (argF [five, fifty] 0) then 0 else 1 : Nat) : Int) = one1 from X_one] at h1
    exact ⟨h1, h3.1, aftS_ok z24_ok h1.rest, h2⟩
theorem get5 {s : List Nat} (h : Aft5 s) : Ran s (runR 24 1 1024 8 1 (getC 2 5) [five] s) 2 20 1 0 [fifty] ∧ aftS s (runR 24 1 1024 8 1 (getC 2 5) [five] s) = s := by
  have q := get_ran (a := 24) (b := 1) (e := 8) (l := [five]) (s := s) (h.len.symm ▸ lies5) h.ok h.has (by decide) l1
  rwa [show getS [(five, fifty)] (argF [five] 0) = [fifty] by decide +kernel] at q
theorem len5 {s : List Nat} (h : Aft5 s) : Ran s (runR 24 1 1024 8 1 (lenC 2 5) [] s) 2 20 1 0 [one1] ∧ aftS s (runR 24 1 1024 8 1 (lenC 2 5) [] s) = s := by
  have q := len_ran (a := 24) (b := 1) (e := 8) (l := []) (s := s) (h.len.symm ▸ lies5) h.ok h.has (by decide) (fun x hx => by cases hx)
  rwa [show X (([(five, fifty)] : Prs).length : Nat) = one1 from X_one] at q
theorem runs5 {u : World} {n k bs : Nat} {c co : Nat} {t : Int} {cs : List Ins} {po qo : Option Addr} {F s l : List Nat} {o : Nat} {B cells : Nat} (hT : Shaped5 u) (hn : n = cs.length) (hR : RowW 108 3 u qo c n (codC cs)) (hx : ∀ i ∈ cs, i.x < 18446744073709551616) (hm : cs.length ≤ 1000) (hk : l.length = k) (hL : FlAt u po l) (hl : ∀ x ∈ l, x < 18446744073709551616) (hS : Sx.Cel 72 u bs F s) (hs : okS s) (hr : Ran s (runR 24 1 1024 8 t cs l s) B cells 1 0 [o]) (hg : goodB 24 1 1024 8 s.length l.length = true) : Calls Tryz.prog 12 #[cfgV 24 1 1024 8, .agg #[.int .i64 t, .slice qo n c], .slice po k co, .pointer (some ⟨bs, 0, none⟩)] u fun r w' => ∃ (p3 : Option Addr) (c3 : Nat) (p4 : Option Addr) (n4 c4 : Nat) (p5 : Option Addr) (n5 c5 : Nat) (us : Int), r = .returned (.tuple #[.agg #[.int .i64 1, .int .i64 0, .int .i64 0, .slice p3 1 c3, .slice p4 n4 c4, .slice p5 n5 c5, .int .i64 us], .int .i64 0]) ∧ Hid ((RowAt 57 w' p3 c3 (fls [o]) ∧ Abv u.heap.size (fpR p3)) ∧ Sx.Cel 72 w' bs F (aftS s (runR 24 1 1024 8 t cs l s)) ∧ Turn F F u w') := by
  refine (run_any (a := 24) (b := 1) (c := 1024) (e := 8) (t := t) (cap := c) (co := co) hT hn.symm hk (hR.code hn.symm) hx hL hl (by omega) hS hs).mono fun r w' ⟨R, q1, q2, q3, q4⟩ => ?_
  have ho := q2.out
  have hao := q2.ao
  unfold resV resC at q1
  have e0 : runE 24 1 1024 8 s.length k = 0 := by unfold runE; rw [← hk, hg]; rfl
  rw [hr.how, hr.cod, hr.err, hr.out, e0] at q1
  rw [hr.out] at ho
  exact ⟨_, _, _, _, _, _, _, _, _, q1, ⟨ho, hao⟩, q3, q4⟩
end Go.Proofs.YtdodhpfdldkbdabGreatDoor.Tr
namespace Go.Proofs.YtdodhpfdldkbdabGreatDoor.Tr
open Go.ChangeShapes Go.WideShapes Go.ChangeAt Go.RowKit Num Go.Maps As
open Go.ChangeMaps Go.MapKept
attribute [local go_sem] run_store_float
theorem put_run {u : World} {q : Nat → Ptr} {bs co : Nat} {po : Option Addr} {F : List Nat} (hT : Shaped5 u) (hq : TrAt u 2 5 q) (hL : FlAt u po [five, fifty]) (hS : Sx.Cel 72 u bs F z24) : Calls Tryz.prog 12 #[cfgV 24 1 1024 8, .agg #[.int .i64 2, .slice (q 1).p (q 1).n (q 1).c], .slice po 2 co, .pointer (some ⟨bs, 0, none⟩)] u fun r w' => ∃ (s : List Nat) (p3 : Option Addr) (c3 : Nat) (p4 : Option Addr) (n4 c4 : Nat) (p5 : Option Addr) (n5 c5 : Nat) (us : Int), r = .returned (.tuple #[.agg #[.int .i64 1, .int .i64 0, .int .i64 0, .slice p3 1 c3, .slice p4 n4 c4, .slice p5 n5 c5, .int .i64 us], .int .i64 0]) ∧ Hid (((RowAt 57 w' p3 c3 (fls [one1]) ∧ Abv u.heap.size (fpR p3)) ∧ Sx.Cel 72 w' bs F s ∧ Turn F F u w') ∧ Aft5 s) := by
  have hr := hq.row 1 (by decide)
  refine (runs5 (t := 2) (cs := putCd 2 5) (l := [five, fifty]) (s := z24) hT hr.1 hr.2 (by decide +kernel) (by decide +kernel) rfl hL l2 hS z24_ok put5.1 (lies5.good (s := z24) (l := [five, fifty]) (by decide))).mono fun r w' ⟨p3, c3, p4, n4, c4, p5, n5, c5, us, q1, q2⟩ => ?_
  exact ⟨_, p3, c3, p4, n4, c4, p5, n5, c5, us, q1, q2.out, put5.2⟩
theorem get_run {u : World} {q : Nat → Ptr} {bs co : Nat} {po : Option Addr} {F s : List Nat} (hT : Shaped5 u) (hq : TrAt u 2 5 q) (hL : FlAt u po [five]) (hS : Sx.Cel 72 u bs F s) (hs : Aft5 s) : Calls Tryz.prog 12 #[cfgV 24 1 1024 8, .agg #[.int .i64 1, .slice (q 0).p (q 0).n (q 0).c], .slice po 1 co, .pointer (some ⟨bs, 0, none⟩)] u fun r w' => ∃ (p3 : Option Addr) (c3 : Nat) (p4 : Option Addr) (n4 c4 : Nat) (p5 : Option Addr) (n5 c5 : Nat) (us : Int), r = .returned (.tuple #[.agg #[.int .i64 1, .int .i64 0, .int .i64 0, .slice p3 1 c3, .slice p4 n4 c4, .slice p5 n5 c5, .int .i64 us], .int .i64 0]) ∧ Hid ((RowAt 57 w' p3 c3 (fls [fifty]) ∧ Abv u.heap.size (fpR p3)) ∧ Sx.Cel 72 w' bs F s ∧ Turn F F u w') := by
  have hr := hq.row 0 (by decide)
  have hl := lies5
  rw [← hs.len] at hl
  refine (runs5 (t := 1) (cs := getC 2 5) (l := [five]) (s := s) hT hr.1 hr.2 (by decide +kernel) (by decide +kernel) rfl hL l1 hS hs.ok (get5 hs).1 (hl.good (by decide))).mono fun r w' ⟨p3, c3, p4, n4, c4, p5, n5, c5, us, q1, q2⟩ => ?_
  have q3 := q2.out
  rw [(get5 hs).2] at q3
  exact ⟨p3, c3, p4, n4, c4, p5, n5, c5, us, q1, q3⟩
theorem len_run {u : World} {q : Nat → Ptr} {bs : Nat} {F s : List Nat} (hT : Shaped5 u) (hq : TrAt u 2 5 q) (hS : Sx.Cel 72 u bs F s) (hs : Aft5 s) : Calls Tryz.prog 12 #[cfgV 24 1 1024 8, .agg #[.int .i64 1, .slice (q 5).p (q 5).n (q 5).c], .slice none 0 0, .pointer (some ⟨bs, 0, none⟩)] u fun r w' => ∃ (p3 : Option Addr) (c3 : Nat) (p4 : Option Addr) (n4 c4 : Nat) (p5 : Option Addr) (n5 c5 : Nat) (us : Int), r = .returned (.tuple #[.agg #[.int .i64 1, .int .i64 0, .int .i64 0, .slice p3 1 c3, .slice p4 n4 c4, .slice p5 n5 c5, .int .i64 us], .int .i64 0]) ∧ Hid ((RowAt 57 w' p3 c3 (fls [one1]) ∧ Abv u.heap.size (fpR p3)) ∧ Sx.Cel 72 w' bs F s ∧ Turn F F u w') := by
  have hr := hq.row 5 (by decide)
  have hl := lies5
  rw [← hs.len] at hl
  refine (runs5 (t := 1) (cs := lenC 2 5) (l := []) (co := 0) (s := s) hT hr.1 hr.2 (by decide +kernel) (by decide +kernel) rfl (fun k hk => absurd hk (Nat.not_lt_zero k)) (fun x hx => by cases hx) hS hs.ok (len5 hs).1 (hl.good (by decide))).mono fun r w' ⟨p3, c3, p4, n4, c4, p5, n5, c5, us, q1, q2⟩ => ?_
  have q3 := q2.out
  rw [(len5 hs).2] at q3
  exact ⟨p3, c3, p4, n4, c4, p5, n5, c5, us, q1, q3⟩
theorem config_any (a b c : Int) (w : World) : Calls Tryz.prog 11 #[.int .i64 a, .int .i64 b, .int .i64 c] w fun e w' => e = .returned (cfgV a 1 b c) ∧ Below w.heap.size w w' := by
  go_enter Tryz.func11, Tryz.ntmps11
  go_wp2
  exact bodyPost_ret (results_cell_row rfl _ _ w.heap.size _ _ _ _ rfl (heap_alloc_new w (cfgO a 1 b c)) Tryz.underlying34 rfl (by kernel_rfl)) rfl ⟨rfl, below_alloc w _⟩
theorem cells14 {w : World} {x : Nat} {v0 v1 v2 v3 v4 v5 v6 v7 v8 v9 v10 v11 v12 v13 : Value} {T : TypeId} (h : w.heap[x]? = some (.cells #[v0, v1, v2, v3, v4, v5, v6, v7, v8, v9, v10, v11, v12, v13] T (0, 0))) : w.cell? ⟨x, 0, none⟩ = some v0 ∧ w.cell? ⟨x, 1, none⟩ = some v1 ∧ w.cell? ⟨x, 2, none⟩ = some v2 ∧ w.cell? ⟨x, 3, none⟩ = some v3 ∧ w.cell? ⟨x, 10, none⟩ = some v10 ∧ w.cell? ⟨x, 11, none⟩ = some v11 ∧ x < w.heap.size :=
  ⟨(cell_of_row w x 0 _ _ _ h).trans rfl, (cell_of_row w x 1 _ _ _ h).trans rfl, (cell_of_row w x 2 _ _ _ h).trans rfl, (cell_of_row w x 3 _ _ _ h).trans rfl, (cell_of_row w x 10 _ _ _ h).trans rfl, (cell_of_row w x 11 _ _ _ h).trans rfl, lt_of_block h⟩
theorem fl_one1 (w : World) (x : Nat) : FlAt (w.alloc (.cells #[.float .f64 x] 57)) (some ⟨w.heap.size, 0, none⟩) [x] := fun k hk => by
  have h0 : k = 0 := by simp at hk; exact hk
  subst h0
  exact ⟨_, 0, rfl, by simp, (cell_of_row _ _ _ _ _ _ (heap_alloc_new w _)).trans rfl⟩
theorem fl_two2 (w : World) (x y : Nat) : FlAt (w.alloc (.cells #[.float .f64 x, .float .f64 y] 57)) (some ⟨w.heap.size, 0, none⟩) [x, y] := fun k hk => by
  refine ⟨_, 0, rfl, by simp, ?_⟩
  rw [cell_of_row _ _ _ _ _ _ (heap_alloc_new w _)]
  match k, hk with
  | 0, _ => rfl
  | 1, _ => rfl
  | q + 2, h => exact absurd h (by simp)
theorem fl_two3 (u : World) (o : Obj) (x y : Nat) : FlAt ((u.alloc o).alloc (.cells #[.float .f64 x, .float .f64 y] 57)) (some ⟨u.heap.size + 1, 0, none⟩) [x, y] := by
  have h := fl_two2 (u.alloc o) x y
  rwa [World.size_alloc] at h
theorem fl_one3 (u : World) (o : Obj) (x : Nat) : FlAt ((u.alloc o).alloc (.cells #[.float .f64 x] 57)) (some ⟨u.heap.size + 1, 0, none⟩) [x] := by
  have h := fl_one1 (u.alloc o) x
  rwa [World.size_alloc] at h
theorem two_al (u : World) (o o2 : Obj) : Below u.heap.size u ((u.alloc o).alloc o2) := (below_alloc u _).trans ((below_alloc _ _).mono (by simp))
abbrev tO (q : Nat → Ptr) : Obj := .cells #[.int .i64 1, .slice (q 0).p (q 0).n (q 0).c, .int .i64 2, .slice (q 1).p (q 1).n (q 1).c, .int .i64 2, .slice (q 2).p (q 2).n (q 2).c, .int .i64 1, .slice (q 3).p (q 3).n (q 3).c, .int .i64 1, .slice (q 4).p (q 4).n (q 4).c, .int .i64 1, .slice (q 5).p (q 5).n (q 5).c, .int .i64 1, .slice (q 6).p (q 6).n (q 6).c] 31
theorem keepsT {F F' : List Nat} {u v : World} {g : Nat} {o : Obj} (t : Turn F F' u v) (h : u.heap[g]? = some o) (hn : g ∉ F) : v.heap[g]? = some o := (t.block g (lt_of_block h) hn).trans h
structure Lv (W u1 : World) (q : Nat → Ptr) (b : Nat) (F s : List Nat) (u : World) : Prop where
  b0 : Below W.heap.size W u1
  tq : TrAt u1 2 5 q
  bl : Below u1.heap.size u1 u
  tr : u.heap[u1.heap.size]? = some (tO q)
  cel : Sx.Cel 72 u b F s
  abv : Abv (u1.heap.size + 1) F
section
variable {W u1 u u' : World} {q : Nat → Ptr} {b : Nat} {F s s' : List Nat}
theorem Lv.on (h : Lv W u1 q b F s u) (k : Below u.heap.size u u') : Lv W u1 q b F s u' := ⟨h.b0, h.tq, h.bl.trans (k.mono h.bl.size), (k.block _ (lt_of_block h.tr)).trans h.tr, h.cel.on k, h.abv⟩
theorem Lv.turn (h : Lv W u1 q b F s u) (k : Turn F F u u') (hc : Sx.Cel 72 u' b F s') : Lv W u1 q b F s' u' := ⟨h.b0, h.tq, h.bl.trans (k.below (h.abv.mono (by omega)) h.bl.size), keepsT k h.tr fun hx => by have := h.abv _ hx; omega, hc, h.abv⟩
theorem Lv.bw (h : Lv W u1 q b F s u) : Below W.heap.size W u := h.b0.trans (h.bl.mono h.b0.size)
theorem Lv.rows (h : Lv W u1 q b F s u) : TrAt u 2 5 q := h.tq.on h.bl
theorem Lv.nf (h : Lv W u1 q b F s u) {g : Nat} (hg : u.heap.size ≤ g) : g ∉ F := fun hx => by have := h.cel.blw _ hx; omega
theorem row_keep {a : World} {p : Option Addr} {c : Nat} {l : List Value} {n : Nat} (h : RowAt 57 u p c l) (hA : Abv n (fpR p)) (hF : ∀ x ∈ F, x < n) (k : Below u.heap.size u a) (t : Turn F F a u') : RowAt 57 u' p c l := (h.on k).turn t (abv_blw hA hF)
end
set_option maxHeartbeats 8000000 in
set_option maxRecDepth 100000 in
theorem live_any {W : World} (hT : Shaped5 W) : Calls Tryz.prog 4 #[] W fun e w' => e = .returned (.bool true) ∧ Below W.heap.size W w' := by
  have HSH : Hid (∀ u, Below W.heap.size W u → Shaped5 u) := fun u hb => hT.on hb
  have HM : Hid (Calls Tryz.prog 9 #[.int .i64 2, .int .i64 20] W fun e w' => ∃ q, e = .returned (.tuple #[.agg #[.int .i64 1, .slice (q 0).p (q 0).n (q 0).c, .int .i64 2, .slice (q 1).p (q 1).n (q 1).c, .int .i64 2, .slice (q 2).p (q 2).n (q 2).c, .int .i64 1, .slice (q 3).p (q 3).n (q 3).c, .int .i64 1, .slice (q 4).p (q 4).n (q 4).c, .int .i64 1, .slice (q 5).p (q 5).n (q 5).c, .int .i64 1, .slice (q 6).p (q 6).n (q 6).c], .int .i64 0]) ∧ Hid (TrAt w' 2 5 q ∧ Below W.heap.size W w')) := by
    have h := make_yes hT (b := 2) (c := 20) (by decide) (by decide) (by decide) (by decide)
    rw [show roomV 20 = 5 by decide] at h
    exact h
  have HN : Hid (∀ w : World, Calls Tryz.prog 10 #[.int .i64 24] w fun e w' => ∃ b F, e = .returned (.tuple #[.pointer (some ⟨b, 0, none⟩), .int .i64 0]) ∧ Sx.Cel 72 w' b F z24 ∧ Abv w.heap.size F ∧ Below w.heap.size w w') := fun w => Sx.new_some (n := 24) (by decide) w
  have HC : Hid (∀ w : World, Calls Tryz.prog 11 #[.int .i64 24, .int .i64 1024, .int .i64 8] w fun e w' => e = .returned (cfgV 24 1 1024 8) ∧ Below w.heap.size w w') := fun w => config_any 24 1024 8 w
  clear hT
  go_enter Tryz.func4, Tryz.ntmps4
  go_upto_region 6 with (first
    | (go_at_call 9; refine HM.out.mono ?_; rintro e u1 ⟨q, rfl, K1⟩; clear HM)
    | (go_at_call 10; refine (HN.out _).mono ?_; rintro e u2 ⟨b, F, rfl, q1, q2, q3⟩; have Q2 := Lib.hid (And.intro q1 (And.intro q2 q3)); clear q1 q2 q3)
    | (go_at_call 11; refine (HC.out _).mono ?_; rintro e u3 ⟨rfl, q1⟩; have Q3 := Lib.hid q1; clear q1))
  have L3 : Hid (Lv W u1 q b F z24 u3) := (Lv.on ⟨K1.out.2, K1.out.1, (below_alloc u1 _).trans (Q2.out.2.2.mono (by simp)), (Q2.out.2.2.block _ (by simp)).trans (heap_alloc_new u1 _), Q2.out.1, Q2.out.2.1.mono (by simp)⟩ Q3.out)
  have HR1 : Hid (∀ u co po, Lv W u1 q b F z24 u → FlAt u po [five, fifty] → Calls Tryz.prog 12 #[cfgV 24 1 1024 8, .agg #[.int .i64 2, .slice (q 1).p (q 1).n (q 1).c], .slice po 2 co, .pointer (some ⟨b, 0, none⟩)] u fun r w' => ∃ (s : List Nat) (p3 : Option Addr) (c3 : Nat) (p4 : Option Addr) (n4 c4 : Nat) (p5 : Option Addr) (n5 c5 : Nat) (us : Int), r = .returned (.tuple #[.agg #[.int .i64 1, .int .i64 0, .int .i64 0, .slice p3 1 c3, .slice p4 n4 c4, .slice p5 n5 c5, .int .i64 us], .int .i64 0]) ∧ Hid (((RowAt 57 w' p3 c3 (fls [one1]) ∧ Abv u.heap.size (fpR p3)) ∧ Sx.Cel 72 w' b F s ∧ Turn F F u w') ∧ Aft5 s)) := fun u co po h1 h2 => put_run (HSH.out _ h1.bw) h1.rows h2 h1.cel
  have HR2 : Hid (∀ u s co po, Lv W u1 q b F s u → Aft5 s → FlAt u po [five] → Calls Tryz.prog 12 #[cfgV 24 1 1024 8, .agg #[.int .i64 1, .slice (q 0).p (q 0).n (q 0).c], .slice po 1 co, .pointer (some ⟨b, 0, none⟩)] u fun r w' => ∃ (p3 : Option Addr) (c3 : Nat) (p4 : Option Addr) (n4 c4 : Nat) (p5 : Option Addr) (n5 c5 : Nat) (us : Int), r = .returned (.tuple #[.agg #[.int .i64 1, .int .i64 0, .int .i64 0, .slice p3 1 c3, .slice p4 n4 c4, .slice p5 n5 c5, .int .i64 us], .int .i64 0]) ∧ Hid ((RowAt 57 w' p3 c3 (fls [fifty]) ∧ Abv u.heap.size (fpR p3)) ∧ Sx.Cel 72 w' b F s ∧ Turn F F u w')) := fun u s co po h1 h3 h2 => get_run (HSH.out _ h1.bw) h1.rows h2 h1.cel h3
  have HR3 : Hid (∀ u s, Lv W u1 q b F s u → Aft5 s → Calls Tryz.prog 12 #[cfgV 24 1 1024 8, .agg #[.int .i64 1, .slice (q 5).p (q 5).n (q 5).c], .slice none 0 0, .pointer (some ⟨b, 0, none⟩)] u fun r w' => ∃ (p3 : Option Addr) (c3 : Nat) (p4 : Option Addr) (n4 c4 : Nat) (p5 : Option Addr) (n5 c5 : Nat) (us : Int), r = .returned (.tuple #[.agg #[.int .i64 1, .int .i64 0, .int .i64 0, .slice p3 1 c3, .slice p4 n4 c4, .slice p5 n5 c5, .int .i64 us], .int .i64 0]) ∧ Hid ((RowAt 57 w' p3 c3 (fls [one1]) ∧ Abv u.heap.size (fpR p3)) ∧ Sx.Cel 72 w' b F s ∧ Turn F F u w')) := fun u s h1 h3 => len_run (HSH.out _ h1.bw) h1.rows h1.cel h3
  clear HSH K1 Q2 Q3 HN HC
  obtain ⟨t0, t1, t2, t3, t4, t5, t6⟩ := cells14 L3.out.tr
  go_upto_region 7 with (go_at_call 12; refine (HR1.out _ 2 (some ⟨u3.heap.size + 1, 0, none⟩) (L3.out.on (two_al u3 _ _)) (fl_two3 u3 _ five fifty)).mono ?_; rintro e u4 ⟨s, p3, c3, p4, n4, c4, p5, n5, c5, us, rfl, R1⟩; clear HR1)
  have L4 : Hid (Lv W u1 q b F s u4 ∧ Aft5 s) := ⟨(L3.out.on (two_al u3 _ _)).turn R1.out.1.2.2 R1.out.1.2.1, R1.out.2⟩
  have hN : Hid (∀ g, u3.heap.size ≤ g → g ∉ F) := fun g hg => L3.out.nf hg
  have hB : Hid (∀ x ∈ F, x < u3.heap.size) := fun x hx => L3.out.cel.blw x hx
  have X4 : Hid (u4.heap[u3.heap.size]? = some (cfgO 24 1 1024 8)) := keepsT R1.out.1.2.2 ((heap_alloc_old _ _ (by simp)).trans (heap_alloc_new u3 _)) (hN.out _ (Nat.le_refl _))
  have S4 := Lib.hid (show u3.heap.size + 2 ≤ u4.heap.size by have := R1.out.1.2.2.size; simp at this; omega)
  have W4 : Hid (RowAt 57 u4 p3 c3 (fls [one1]) ∧ Abv (u3.heap.size + 2) (fpR p3)) := ⟨R1.out.1.1.1, R1.out.1.1.2.mono (by simp)⟩
  clear R1 L3 t0 t1 t2 t3 t4 t5 t6
  obtain ⟨t0, t1, t2, t3, t4, t5, t6⟩ := cells14 L4.out.1.tr
  obtain ⟨x0, x1, x2, x3, x4⟩ := Md.cells4 X4.out
  go_upto_region 8 with (go_at_call 12; refine (HR2.out _ _ 1 (some ⟨u4.heap.size + 1, 0, none⟩) (L4.out.1.on (two_al u4 _ _)) L4.out.2 (fl_one3 u4 _ five)).mono ?_; rintro e u5 ⟨p6, c6, p7, n7, c7, p8, n8, c8, vs, rfl, R2⟩; clear HR2)
  have L5 : Hid (Lv W u1 q b F s u5) := (L4.out.1.on (two_al u4 _ _)).turn R2.out.2.2 R2.out.2.1
  have X5 : Hid (u5.heap[u3.heap.size]? = some (cfgO 24 1 1024 8)) := keepsT R2.out.2.2 (((two_al u4 _ _).block _ x4).trans X4.out) (hN.out _ (Nat.le_refl _))
  have Y5 := Lib.hid (keepsT R2.out.2.2 ((heap_alloc_old _ _ (by simp)).trans (heap_alloc_new u4 _)) (hN.out u4.heap.size (by have := S4.out; omega)))
  have S5 := Lib.hid (show u4.heap.size + 2 ≤ u5.heap.size by have := R2.out.2.2.size; simp at this; omega)
  have W5 : Hid (RowAt 57 u5 p3 c3 (fls [one1])) := row_keep W4.out.1 W4.out.2 (fun x hx => by have := hB.out x hx; omega) (two_al u4 _ _) R2.out.2.2
  have V5 : Hid (RowAt 57 u5 p6 c6 (fls [fifty]) ∧ Abv (u4.heap.size + 2) (fpR p6)) := ⟨R2.out.1.1, R2.out.1.2.mono (by simp)⟩
  clear R2 t0 t1 t2 t3 t4 t5 t6 x0 x1 x2 x3 x4
  obtain ⟨t0, t1, t2, t3, t4, t5, t6⟩ := cells14 L5.out.tr
  obtain ⟨x0, x1, x2, x3, x4⟩ := Md.cells4 X5.out
  go_upto_region 9 with (go_at_call 12; refine (HR3.out _ _ (L5.out.on (below_alloc u5 _)) L4.out.2).mono ?_; rintro e u6 ⟨p9, c9, pa, na, ca, pb, nb, cb, ws, rfl, R3⟩; clear HR3)
  have L6 : Hid (Lv W u1 q b F s u6) := (L5.out.on (below_alloc u5 _)).turn R3.out.2.2 R3.out.2.1
  have Y6 := Lib.hid (keepsT R3.out.2.2 ((heap_alloc_old _ _ (lt_of_block Y5.out)).trans Y5.out) (hN.out u4.heap.size (by have := S4.out; omega)))
  have Z6 := Lib.hid (keepsT R3.out.2.2 (heap_alloc_new u5 _) (hN.out u5.heap.size (by have := S4.out; have := S5.out; omega)))
  have W6 : Hid (RowAt 57 u6 p3 c3 (fls [one1])) := row_keep W5.out W4.out.2 (fun x hx => by have := hB.out x hx; omega) (below_alloc u5 _) R3.out.2.2
  have V6 : Hid (RowAt 57 u6 p6 c6 (fls [fifty])) := row_keep V5.out.1 V5.out.2 (fun x hx => by have := hB.out x hx; have := S4.out; omega) (below_alloc u5 _) R3.out.2.2
  have U6 : Hid (RowAt 57 u6 p9 c9 (fls [one1])) := R3.out.1.1
  clear R3 t0 t1 t2 t3 t4 t5 t6 x0 x1 x2 x3 x4 L4 L5 hN hB X4 X5 W4 W5 V5 S4 S5
  obtain ⟨⟨y0, y1, y2, y3, y4, y5, y6, y7⟩, _⟩ := cells7_of Y6.out
  obtain ⟨⟨z0, z1, z2, z3, z4, z5, z6, z7⟩, _⟩ := cells7_of Z6.out
  clear Y5
  go_wp2_with (first
    | (go_at_call 8; refine (exact_any (l := [one1]) (n := 1) rfl (by decide) (row_fl ((U6.out.on B8.out).on (below_alloc u8 _))) (fl_one1 u8 one1)).mono ?_; rintro e u9 ⟨rfl, qs⟩; have B9 := Lib.hid (B8.out.trans (((below_alloc u8 (.cells #[.float .f64 one1] 57)).trans (qs.below _)).mono B8.out.size)); clear qs U6)
    | (go_at_call 8; refine (exact_any (l := [fifty]) (n := 1) rfl (by decide) (row_fl ((V6.out.on B7.out).on (below_alloc u7 _))) (fl_one1 u7 fifty)).mono ?_; rintro e u8 ⟨rfl, qs⟩; have k8 := (below_alloc u7 (.cells #[.float .f64 fifty] 57)).trans (qs.below _); have B8 := Lib.hid (B7.out.trans (k8.mono B7.out.size)); have T8 := Lib.hid ((k8.block _ (lt_of_block T7.out)).trans T7.out); obtain ⟨⟨x0, x1, x2, x3, x4, x5, x6, x7⟩, _⟩ := cells7_of T8.out; clear qs k8 V6)
    | (go_at_call 8; refine (exact_any (l := [one1]) (n := 1) rfl (by decide) (row_fl (W6.out.on (two_al u6 _ _))) (fl_one3 u6 _ one1)).mono ?_; rintro e u7 ⟨rfl, qs⟩; have B7 := Lib.hid ((two_al u6 _ _).trans (qs.below u6.heap.size)); have T7 := Lib.hid ((congrArg (fun h => h[u6.heap.size]?) qs.heap).trans ((heap_alloc_old _ _ (by simp)).trans (heap_alloc_new u6 _))); have Z7 := Lib.hid ((B7.out.block _ z7).trans Z6.out); clear y0 y1 y2 y3 y4 y5 y6 y7 z0 z1 z2 z3 z4 z5 z6 z7; obtain ⟨⟨z0, z1, z2, z3, z4, z5, z6, z7⟩, _⟩ := cells7_of Z7.out; clear qs W6))
  go_ret
  exact ⟨rfl, L6.out.bw.trans (B9.out.mono L6.out.bw.size)⟩
end Go.Proofs.YtdodhpfdldkbdabGreatDoor.Tr
namespace Go.Proofs.YtdodhpfdldkbdabGreatDoor.Tr
open Num As
def fullS (k : Int) (L : Prs) (R K : Nat) : Bool := decide (k = 2) && (!isK L K && decide (R ≤ L.length))
def outS (k : Int) (L : Prs) (R K : Nat) : List Nat :=
  if k = 1 then getS L K else if k = 2 then (if fullS 2 L R K then [] else [X ((if isK L K then 0 else 1 : Nat) : Int)]) else if k = 3 then [X ((if isK L K then 1 else 0 : Nat) : Int)] else if k = 4 then fstS L 0 else if k = 5 then aftS2 L K else if k = 6 then [X (L.length : Nat)] else allS L
def nxtS (k : Int) (L : Prs) (R K V : Nat) : Prs := if k = 2 then (if fullS 2 L R K then L else putS L K V) else if k = 3 then delS L K else L
def howS (k : Int) (L : Prs) (R K : Nat) : Int := if fullS k L R K then 2 else 1
def codS (k : Int) (L : Prs) (R K : Nat) : Int := if fullS k L R K then 1 else 0
def tagS (k : Int) : Int := if k = 2 ∨ k = 3 then 2 else 1
theorem kinds {k : Int} (h1 : 1 ≤ k) (h7 : k ≤ 7) : k = 1 ∨ k = 2 ∨ k = 3 ∨ k = 4 ∨ k = 5 ∨ k = 6 ∨ k = 7 := by omega
section
variable {a b e : Int} {B R cells : Nat} {s l : List Nat} {L : Prs}
theorem Outside.refl (s : List Nat) (B cells : Nat) : Outside s s B cells := ⟨rfl, fun _ _ _ => rfl⟩
theorem kind_ran (h : Lies a b e B R cells s.length) (hs : okS s) (hH : Has B R s L) (hl8 : l.length ≤ 8) (hl : ∀ x ∈ l, x < 18446744073709551616) {k : Int} (h1 : 1 ≤ k) (h7 : k ≤ 7) :
    Ran s (runR a b 1024 e (tagS k) (codeOf B R (k - 1).toNat) l s) B cells (howS k L R (argF l 0)) (codS k L R (argF l 0)) (outS k L R (argF l 0)) ∧ Has B R (aftS s (runR a b 1024 e (tagS k) (codeOf B R (k - 1).toNat) l s)) (nxtS k L R (argF l 0) (argF l 1)) ∧ Outside s (aftS s (runR a b 1024 e (tagS k) (codeOf B R (k - 1).toNat) l s)) B cells := by
  rcases kinds h1 h7 with rfl | rfl | rfl | rfl | rfl | rfl | rfl
  · obtain ⟨q1, q2⟩ := get_ran h hs hH hl8 hl
    exact ⟨q1, by show Has B R (aftS s (runR a b 1024 e 1 (getC B R) l s)) L; rw [q2]; exact hH, by show Outside s (aftS s (runR a b 1024 e 1 (getC B R) l s)) B cells; rw [q2]; exact Outside.refl ..⟩
  · rcases put_ran h hs hH hl8 hl with ⟨k1, k2, q1, q2⟩ | ⟨k1, q1, q2, q3⟩
    · have hf : fullS 2 L R (argF l 0) = true := by unfold fullS; rw [k1, decide_eq_true k2]; rfl
      refine ⟨?_, ?_, ?_⟩
      · unfold howS codS outS
        rw [hf]
        exact q1
      · show Has B R (aftS s (runR a b 1024 e 2 (putCd B R) l s)) (nxtS 2 L R (argF l 0) (argF l 1))
        unfold nxtS
        rw [hf, q2]
        exact hH
      · show Outside s (aftS s (runR a b 1024 e 2 (putCd B R) l s)) B cells
        rw [q2]
        exact Outside.refl ..
    · have hf : fullS 2 L R (argF l 0) = false := by
        unfold fullS
        rcases k1 with k1 | k1
        · rw [k1]; rfl
        · rw [decide_eq_false (show ¬ R ≤ L.length by omega)]; simp
      refine ⟨?_, ?_, q3⟩
      · unfold howS codS outS
        rw [hf]
        exact q1
      · unfold nxtS
        rw [hf]
        exact q2
  · exact del_ran h hs hH hl8 hl
  · obtain ⟨q1, q2⟩ := least_ran h hs hH hl8 hl
    exact ⟨q1, by show Has B R (aftS s (runR a b 1024 e 1 (leastC B R) l s)) L; rw [q2]; exact hH, by show Outside s (aftS s (runR a b 1024 e 1 (leastC B R) l s)) B cells; rw [q2]; exact Outside.refl ..⟩
  · obtain ⟨q1, q2⟩ := after_ran h hs hH hl8 hl
    exact ⟨q1, by show Has B R (aftS s (runR a b 1024 e 1 (afterC B R) l s)) L; rw [q2]; exact hH, by show Outside s (aftS s (runR a b 1024 e 1 (afterC B R) l s)) B cells; rw [q2]; exact Outside.refl ..⟩
  · obtain ⟨q1, q2⟩ := len_ran h hs hH hl8 hl
    exact ⟨q1, by show Has B R (aftS s (runR a b 1024 e 1 (lenC B R) l s)) L; rw [q2]; exact hH, by show Outside s (aftS s (runR a b 1024 e 1 (lenC B R) l s)) B cells; rw [q2]; exact Outside.refl ..⟩
  · obtain ⟨q1, q2⟩ := all_ran h hs hH hl8 hl
    exact ⟨q1, by show Has B R (aftS s (runR a b 1024 e 1 (allC B R) l s)) L; rw [q2]; exact hH, by show Outside s (aftS s (runR a b 1024 e 1 (allC B R) l s)) B cells; rw [q2]; exact Outside.refl ..⟩
end
theorem codes_len (B R : Int) {k : Nat} : k < 7 → (codeOf B R k).length ≤ 9223372036854775807 := by
  intro hk
  match k, hk with
  | 0, _ | 1, _ | 2, _ | 3, _ | 4, _ | 5, _ | 6, _ => exact Nat.le_of_ble_eq_true rfl
theorem codes_small (B R : Int) {k : Nat} : k < 7 → ∀ i ∈ codeOf B R k, i.x < 18446744073709551616 := by
  intro hk i hi
  obtain ⟨j, hj, rfl⟩ := List.mem_iff_getElem.1 hi
  have key : ∀ {t : Int} {ops : List O} {cs : List Ins}, (bsOf t ops).filled.map fixI = cs → ∀ j (h : j < cs.length), cs[j].x < 18446744073709551616 := fun h j hj => by
    have := code_small h j hj
    unfold ci at this
    rwa [List.getD_eq_getElem?_getD, List.getElem?_eq_getElem hj] at this
  match k, hk with
  | 0, _ => exact key (get_code B R) j hj
  | 1, _ => exact key (put_code B R) j hj
  | 2, _ => exact key (del_code B R) j hj
  | 3, _ => exact key (least_code B R) j hj
  | 4, _ => exact key (after_code B R) j hj
  | 5, _ => exact key (len_code B R) j hj
  | 6, _ => exact key (all_code B R) j hj
end Go.Proofs.YtdodhpfdldkbdabGreatDoor.Tr
namespace Go.Proofs.YtdodhpfdldkbdabGreatDoor.Tr
open Num As
end Go.Proofs.YtdodhpfdldkbdabGreatDoor.Tr
namespace Go.Proofs.YtdodhpfdldkbdabGreatDoor.Tr
open Go.ChangeShapes Go.WideShapes Go.ChangeAt Go.RowKit Num Go.Maps As
open Go.ChangeMaps Go.MapKept
attribute [local go_sem] run_store_float frombits_run bits_run
abbrev treeT (t : Nat → Int) (q : Nat → Ptr) : Value := .agg #[.int .i64 (t 0), .slice (q 0).p (q 0).n (q 0).c, .int .i64 (t 1), .slice (q 1).p (q 1).n (q 1).c, .int .i64 (t 2), .slice (q 2).p (q 2).n (q 2).c, .int .i64 (t 3), .slice (q 3).p (q 3).n (q 3).c, .int .i64 (t 4), .slice (q 4).p (q 4).n (q 4).c, .int .i64 (t 5), .slice (q 5).p (q 5).n (q 5).c, .int .i64 (t 6), .slice (q 6).p (q 6).n (q 6).c]
theorem prog_back {fn : Func} {p r : Tmp} (h : fn.results = #[.cell p 29, .tmp r]) {Q : Ending → World → Prop} {a : Act} {w : World} (g : Nat) (b : Bool) {arr : Array Value} (hp : a.tmps.getD p undef = .pointer (some ⟨g, 0, none⟩)) (hu : a.tmps.getD r undef = .bool b)
    (hg : w.heap[g]? = some (.cells arr 29 (0, 0))) (ha : arr.size = 2) (hd : a.defers = []) (hR : Q (.returned (.tuple #[.agg arr, .bool b])) w) : bodyPost Tryz.prog fn Q .ret a w := by
  refine bodyPost_ret (v := .tuple #[.agg arr, .bool b]) ?_ hd hR
  rw [results_cell_tmp h, hp, hu]
  have hl := run_loadVar_row (P := Tryz.prog) w g 29 29 arr (0, 0) _ hg Tryz.underlying29 rfl (by rw [ha]; kernel_rfl)
  simp [asAddr, hl, Result.andThen]
section
variable {w : World}
theorem two_last (w : World) (o : Obj) (x y : Value) (T : TypeId) : ((w.alloc o).alloc (.cells #[x, y] T)).heap[w.heap.size + 1]? = some (.cells #[x, y] T (0, 0)) := by
  have h := heap_alloc_new (w.alloc o) (.cells #[x, y] T)
  rwa [World.size_alloc] at h
set_option maxRecDepth 100000 in
set_option maxHeartbeats 2000000 in
theorem program_yes (t : Nat → Int) (q : Nat → Ptr) {k : Int} (h1 : 1 ≤ k) (h7 : k ≤ 7) (w : World) : Calls Tryz.prog 16 #[treeT t q, .int .i64 k] w fun e w' => e = .returned (.tuple #[.agg #[.int .i64 (t (k - 1).toNat), .slice (q (k - 1).toNat).p (q (k - 1).toNat).n (q (k - 1).toNat).c], .bool true]) ∧ Below w.heap.size w w' := by
  have hb := two_al w
  have hl := two_last w
  rcases kinds h1 h7 with rfl | rfl | rfl | rfl | rfl | rfl | rfl
  all_goals
    clear h1 h7
    go_enter Tryz.func16, Tryz.ntmps16
    go_wp2
    refine prog_back rfl (w.heap.size + 1) true rfl rfl (hl ..) rfl rfl ?_
    exact ⟨rfl, hb ..⟩
set_option maxRecDepth 100000 in
set_option maxHeartbeats 2000000 in
theorem program_no (t : Nat → Int) (q : Nat → Ptr) {k : Int} (h : ¬ (1 ≤ k ∧ k ≤ 7)) (w : World) : Calls Tryz.prog 16 #[treeT t q, .int .i64 k] w fun e w' => e = .returned (.tuple #[.agg #[.int .i64 0, .slice none 0 0], .bool false]) ∧ Below w.heap.size w w' := by
  have hb := two_al w
  have hl := two_last w
  have h1 : (k == 1) = false := by simp; omega
  have h2 : (k == 2) = false := by simp; omega
  have h3 : (k == 3) = false := by simp; omega
  have h4 : (k == 4) = false := by simp; omega
  have h5 : (k == 5) = false := by simp; omega
  have h6 : (k == 6) = false := by simp; omega
  have h7 : (k == 7) = false := by simp; omega
  clear h
  go_enter Tryz.func16, Tryz.ntmps16
  go_wp2
  refine prog_back rfl (w.heap.size + 1) false rfl rfl (hl ..) rfl rfl ?_
  exact ⟨rfl, hb ..⟩
end
end Go.Proofs.YtdodhpfdldkbdabGreatDoor.Tr
namespace Go.Proofs.YtdodhpfdldkbdabGreatDoor.Tr
open Go.ChangeShapes Go.WideShapes Go.ChangeAt Go.RowKit Num Go.Maps As
open Go.ChangeMaps Go.MapKept
attribute [local go_sem] run_store_float frombits_run bits_run
theorem cel_blk {w : World} {b : Nat} {F l : List Nat} (h : Sx.Cel 72 w b F l) {k : Nat} (hk : k ∈ F) : ∃ (arr : Array Value) (T : TypeId), w.heap[k]? = some (.cells arr T (0, 0)) ∧ (T = 72 ∨ T = 57) := by
  obtain ⟨p, c, h, rfl⟩ := h
  rcases List.mem_cons.1 hk with rfl | hk
  · exact ⟨_, _, h.box, .inl rfl⟩
  · rcases h.row.own.2 with ⟨q, _⟩ | ⟨g, cap, cur, hv, hb, hg, rest⟩
    · injection q with q1
      subst q1
      simp [fpR] at hk
    · cases hv
      obtain rfl : k = g := by simpa [fpR] using hk
      exact ⟨_, _, hg, .inr rfl⟩
theorem cel_no {w : World} {b : Nat} {F l : List Nat} (h : Sx.Cel 72 w b F l) {g : Nat} {arr : Array Value} {T : TypeId} {x : Nat × Nat} (hg : w.heap[g]? = some (.cells arr T x)) (h1 : (T == 72) = false) (h2 : (T == 57) = false) : g ∉ F := fun hk => by
  obtain ⟨arr', T', h3, h4⟩ := cel_blk h hk
  rw [hg] at h3
  injection h3 with h3
  injection h3 with _ h5
  subst h5
  rcases h4 with rfl | rfl
  · simp at h1
  · simp at h2
theorem TrAt.turn {w w' : World} {B R : Int} {q : Nat → Ptr} {b : Nat} {F F' l : List Nat} (h : TrAt w B R q) (hS : Sx.Cel 72 w b F l) (t : Turn F F' w w') : TrAt w' B R q := ⟨fun i hi => by
  have hr := h.row i hi
  refine ⟨hr.1, hr.2.keep (t.kept (fun k hk => ?_) hr.2.blw)⟩
  obtain ⟨arr, e⟩ := hr.2.blk hk
  exact cel_no hS e (by decide) (by decide)⟩
structure TW (W w : World) (q : Nat → Ptr) (b : Nat) (F s : List Nat) (a : Int) (B R cells : Nat) (L : Prs) : Prop where
  sh : Shaped5 W
  bl : Below W.heap.size W w
  ab : Abv W.heap.size F
  tr : TrAt w B R q
  cel : Sx.Cel 72 w b F s
  ok : okS s
  has : Has B R s L
  lies : Lies a 1 8 B R cells s.length
section
variable {W w w' : World} {q : Nat → Ptr} {b : Nat} {F s : List Nat} {a : Int} {B R cells : Nat} {L : Prs}
theorem TW.on (h : TW W w q b F s a B R cells L) (k : Below w.heap.size w w') : TW W w' q b F s a B R cells L := ⟨h.sh, h.bl.trans (k.mono h.bl.size), h.ab, h.tr.on k, h.cel.on k, h.ok, h.has, h.lies⟩
theorem TW.keep (h : TW W w q b F s a B R cells L) (t : Turn F F w w') {g : Nat} {arr : Array Value} {T : TypeId} {x : Nat × Nat} (hg : w.heap[g]? = some (.cells arr T x)) (h1 : (T == 72) = false) (h2 : (T == 57) = false) : w'.heap[g]? = some (.cells arr T x) := (t.block g (lt_of_block hg) (cel_no h.cel hg h1 h2)).trans hg
def mR (a : Int) (B R : Nat) (k : Int) (l s : List Nat) : Mac := runR a 1 1024 8 (tagS k) (codeOf B R (k - 1).toNat) l s
theorem TW.run (h : TW W w q b F s a B R cells L) {k : Int} (h1 : 1 ≤ k) (h7 : k ≤ 7) {po : Option Addr} {n co : Nat} {l : List Nat} (hn : l.length = n) (h8 : n ≤ 8) (hl : ∀ x ∈ l, x < 18446744073709551616) (hL : FlAt w po l) :
    Calls Tryz.prog 12 #[cfgV a 1 1024 8, .agg #[.int .i64 (tagS k), .slice (q (k - 1).toNat).p (q (k - 1).toNat).n (q (k - 1).toNat).c], .slice po n co, .pointer (some ⟨b, 0, none⟩)] w fun r w' => ∃ Rr m, r = .returned (.tuple #[resV Rr m, .int .i64 0]) ∧ Hid (m = mR a B R k l s ∧ ResAt w' w.heap.size Rr m ∧ TW W w' q b F (aftS s m) a B R cells (nxtS k L R (argF l 0) (argF l 1)) ∧ Turn F F w w' ∧ Ran s m B cells (howS k L R (argF l 0)) (codS k L R (argF l 0)) (outS k L R (argF l 0)) ∧ Outside s (aftS s m) B cells) := by
  have hlt : (k - 1).toNat < 7 := by omega
  have hr := h.tr.row _ hlt
  obtain ⟨k1, k2, k3⟩ := kind_ran h.lies h.ok h.has (by omega) hl h1 h7
  refine (run_any (a := a) (b := 1) (c := 1024) (e := 8) (t := tagS k) (cap := (q (k - 1).toNat).c) (co := co) (h.sh.on h.bl) hr.1.symm hn (hr.2.code hr.1.symm) (codes_small B R hlt) hL hl (by rw [hr.1]; exact codes_len B R hlt) h.cel h.ok).mono fun r w' ⟨Rr, q1, q2, q3, q4⟩ => ?_
  have e0 : runE a 1 1024 8 s.length n = 0 := by unfold runE; rw [← hn, h.lies.good (by omega)]; rfl
  rw [e0] at q1
  have hq2 := h.bl.trans (q4.below h.ab h.bl.size)
  exact ⟨Rr, _, q1, rfl, q2, ⟨h.sh, hq2, h.ab, h.tr.turn h.cel q4, q3, aftS_ok h.ok k1.rest, k2, by rw [k3.1]; exact h.lies⟩, q4, k1, k3⟩
theorem none_run (h : TW W w q b F s a B R cells L) {po : Option Addr} {n co : Nat} {l : List Nat} (hn : l.length = n) (h8 : n ≤ 8) (hl : ∀ x ∈ l, x < 18446744073709551616) (hL : FlAt w po l) :
    Calls Tryz.prog 12 #[cfgV a 1 1024 8, .agg #[.int .i64 0, .slice none 0 0], .slice po n co, .pointer (some ⟨b, 0, none⟩)] w fun r w' => ∃ Rr m, r = .returned (.tuple #[resV Rr m, .int .i64 0]) ∧ Hid (m.out = [] ∧ ResAt w' w.heap.size Rr m ∧ TW W w' q b F s a B R cells L ∧ Turn F F w w') := by
  have hz : (runR a 1 1024 8 0 [] l s).out = [] ∧ aftS s (runR a 1 1024 8 0 [] l s) = s := by
    have hg := h.lies.good (l := l) (by omega)
    unfold runR
    rw [if_pos hg]
    have e : endM s (newM a 1024 8 0 [] l) = (failM (newM a 1024 8 0 [] l) 50).1 := by
      have e1 : goM s (newM a 1024 8 0 [] l) = (failM (newM a 1024 8 0 [] l) 50).1 := rfl
      have e2 := runN_add s 1 1024 (newM a 1024 8 0 [] l)
      have e3 : runN s 1 (newM a 1024 8 0 [] l) = goM s (newM a 1024 8 0 [] l) := rfl
      rw [e3, e1, runN_over (show ¬ (0 : Int) ≤ -1 by decide) (show (3 : Int) ≠ 0 by decide) 1024] at e2
      exact e2
    rw [e]
    exact ⟨rfl, rfl⟩
  refine (run_any (a := a) (b := 1) (c := 1024) (e := 8) (t := 0) (cs := []) (n := 0) (cap := 0) (co := co) (h.sh.on h.bl) rfl hn (fun k hk => absurd hk (Nat.not_lt_zero k)) (fun x hx => by cases hx) hL hl (by omega) h.cel h.ok).mono fun r w' ⟨Rr, q1, q2, q3, q4⟩ => ?_
  have e0 : runE a 1 1024 8 s.length n = 0 := by unfold runE; rw [← hn, h.lies.good (by omega)]; rfl
  rw [e0] at q1
  rw [hz.2] at q3
  exact ⟨Rr, _, q1, hz.1, q2, ⟨h.sh, h.bl.trans (q4.below h.ab h.bl.size), h.ab, h.tr.turn h.cel q4, q3, h.ok, h.has, h.lies⟩, q4⟩
end
end Go.Proofs.YtdodhpfdldkbdabGreatDoor.Tr
namespace Go.Proofs.YtdodhpfdldkbdabGreatDoor.Tr
open Go.ChangeShapes Go.WideShapes Go.ChangeAt Go.RowKit Num Go.Maps As
open Go.ChangeMaps Go.MapKept
attribute [local go_sem] run_store_float frombits_run bits_run
abbrev treeA (q : Nat → Ptr) : Value := .agg #[.int .i64 1, .slice (q 0).p (q 0).n (q 0).c, .int .i64 2, .slice (q 1).p (q 1).n (q 1).c, .int .i64 2, .slice (q 2).p (q 2).n (q 2).c, .int .i64 1, .slice (q 3).p (q 3).n (q 3).c, .int .i64 1, .slice (q 4).p (q 4).n (q 4).c, .int .i64 1, .slice (q 5).p (q 5).n (q 5).c, .int .i64 1, .slice (q 6).p (q 6).n (q 6).c]
def tagN (i : Nat) : Int := [1, 2, 2, 1, 1, 1, 1].getD i 0
theorem tagN_k {k : Int} (h1 : 1 ≤ k) (h7 : k ≤ 7) : tagN (k - 1).toNat = tagS k := by
  rcases kinds h1 h7 with rfl | rfl | rfl | rfl | rfl | rfl | rfl <;> rfl
theorem prog_tree (q : Nat → Ptr) {k : Int} (h1 : 1 ≤ k) (h7 : k ≤ 7) (w : World) : Calls Tryz.prog 16 #[treeA q, .int .i64 k] w fun e w' => e = .returned (.tuple #[.agg #[.int .i64 (tagS k), .slice (q (k - 1).toNat).p (q (k - 1).toNat).n (q (k - 1).toNat).c], .bool true]) ∧ Below w.heap.size w w' := by
  have h := program_yes tagN q h1 h7 w
  rw [tagN_k h1 h7] at h
  exact h
theorem prog_none (q : Nat → Ptr) {k : Int} (h : ¬ (1 ≤ k ∧ k ≤ 7)) (w : World) : Calls Tryz.prog 16 #[treeA q, .int .i64 k] w fun e w' => e = .returned (.tuple #[.agg #[.int .i64 0, .slice none 0 0], .bool false]) ∧ Below w.heap.size w w' := program_no tagN q h w
section
variable {W w : World} {q : Nat → Ptr} {b : Nat} {F s : List Nat} {a : Int} {B R cells : Nat} {L : Prs}
set_option maxRecDepth 100000 in
set_option maxHeartbeats 2000000 in
theorem runs_yes (h : TW W w q b F s a B R cells L) {k : Int} (h1 : 1 ≤ k) (h7 : k ≤ 7) {po : Option Addr} {n co : Nat} {l : List Nat} (hn : l.length = n) (h8 : n ≤ 8) (hl : ∀ x ∈ l, x < 18446744073709551616) (hL : FlAt w po l) :
    Calls Tryz.prog 6 #[cfgV a 1 1024 8, treeA q, .pointer (some ⟨b, 0, none⟩), .int .i64 k, .slice po n co] w fun r w' => ∃ p n' c', r = .returned (.slice p n' c') ∧ Hid (∃ m, m = mR a B R k l s ∧ n' = m.out.length ∧ RowAt 57 w' p c' (fls m.out) ∧ Abv w.heap.size (fpR p) ∧ TW W w' q b F (aftS s m) a B R cells (nxtS k L R (argF l 0) (argF l 1)) ∧ Turn F F w w' ∧ Ran s m B cells (howS k L R (argF l 0)) (codS k L R (argF l 0)) (outS k L R (argF l 0)) ∧ Outside s (aftS s m) B cells) := by
  have HP : Hid (∀ u, _) := fun u => prog_tree q h1 h7 u
  have HR : Hid (∀ u, Below w.heap.size w u → _) := fun u hu => (h.on hu).run (co := co) h1 h7 hn h8 hl (hL.on hu)
  generalize tagS k = t at *
  generalize q (k - 1).toNat = z at *
  clear hL hl h8 hn h1 h7
  go_enter Tryz.func6, Tryz.ntmps6
  go_wp2_with (first
    | (go_at_call 12; refine (HR.out _ (below_chain (below_chain (two_al w _ _) B1.out) (below_alloc u1 _))).mono ?_; rintro e u2 ⟨Rr, m, rfl, HZ⟩; clear HR)
    | (go_at_call 16; refine (HP.out _).mono ?_; rintro e u1 ⟨rfl, k1⟩; have B1 := Lib.hid k1; have X1 : u1.heap[w.heap.size]? = some (cfgO a 1 1024 8) := (k1.block _ (by simp; omega)).trans ((heap_alloc_old _ _ (by simp)).trans (heap_alloc_new w _)); obtain ⟨x0, x1, x2, x3, x4⟩ := Md.cells4 X1; clear k1 HP X1))
  go_ret
  obtain ⟨z1, z2, z3, z4, z5, z6⟩ := HZ.out
  have kb := below_chain (below_chain (two_al w (cfgO a 1 1024 8) _) B1.out) (below_alloc u1 (.cells #[.int .i64 t, .slice z.p z.n z.c] 29))
  exact ⟨_, _, _, rfl, m, z1, rfl, z2.out.on (below_alloc u2 _), z2.ao.mono kb.size, z3.on (below_alloc u2 _), ((Below.turn kb F).trans z4).trans (Below.turn (below_alloc u2 _) F), z5, z6⟩
set_option maxRecDepth 100000 in
set_option maxHeartbeats 2000000 in
theorem runs_no (h : TW W w q b F s a B R cells L) {k : Int} (hk : ¬ (1 ≤ k ∧ k ≤ 7)) {po : Option Addr} {n co : Nat} {l : List Nat} (hn : l.length = n) (h8 : n ≤ 8) (hl : ∀ x ∈ l, x < 18446744073709551616) (hL : FlAt w po l) :
    Calls Tryz.prog 6 #[cfgV a 1 1024 8, treeA q, .pointer (some ⟨b, 0, none⟩), .int .i64 k, .slice po n co] w fun r w' => ∃ p n' c', r = .returned (.slice p n' c') ∧ Hid (n' = 0 ∧ Abv w.heap.size (fpR p) ∧ TW W w' q b F s a B R cells L ∧ Turn F F w w') := by
  have HP : Hid (∀ u, _) := fun u => prog_none q hk u
  have HR : Hid (∀ u, Below w.heap.size w u → _) := fun u hu => none_run (h.on hu) (co := co) hn h8 hl (hL.on hu)
  clear hL hl h8 hn hk
  go_enter Tryz.func6, Tryz.ntmps6
  go_wp2_with (first
    | (go_at_call 12; refine (HR.out _ (below_chain (below_chain (two_al w _ _) B1.out) (below_alloc u1 _))).mono ?_; rintro e u2 ⟨Rr, m, rfl, HZ⟩; clear HR)
    | (go_at_call 16; refine (HP.out _).mono ?_; rintro e u1 ⟨rfl, k1⟩; have B1 := Lib.hid k1; have X1 : u1.heap[w.heap.size]? = some (cfgO a 1 1024 8) := (k1.block _ (by simp; omega)).trans ((heap_alloc_old _ _ (by simp)).trans (heap_alloc_new w _)); obtain ⟨x0, x1, x2, x3, x4⟩ := Md.cells4 X1; clear k1 HP X1))
  go_ret
  obtain ⟨z1, z2, z3, z4⟩ := HZ.out
  have kb := below_chain (below_chain (two_al w (cfgO a 1 1024 8) _) B1.out) (below_alloc u1 (.cells #[.int .i64 0, .slice none 0 0] 29))
  exact ⟨_, _, _, rfl, by rw [z1]; rfl, z2.ao.mono kb.size, z3.on (below_alloc u2 _), ((Below.turn kb F).trans z4).trans (Below.turn (below_alloc u2 _) F)⟩
end
end Go.Proofs.YtdodhpfdldkbdabGreatDoor.Tr
namespace Go.Proofs.YtdodhpfdldkbdabGreatDoor.Tr
open Go.ChangeShapes Go.WideShapes Go.ChangeAt Go.RowKit Num Go.Maps As
open Go.ChangeMaps Go.MapKept
attribute [local go_sem] run_store_float frombits_run bits_run
section
variable {w : World}
theorem rroom_any (c : Int) (hc : c ≤ 9223372036854775807) (w : World) : Calls Tryz.prog 35 #[.int .i64 c] w fun e w' => e = .returned (.int .i64 (roomV c)) ∧ w' = w := by
  unfold roomV
  by_cases h : c < 7
  · rw [if_pos h]
    go_enter Tryz.func35, Tryz.ntmps35
    go_wp2
    go_ret
    exact ⟨rfl, rfl⟩
  · rw [if_neg h]
    by_cases h5 : 52 ≤ c
    · rw [if_pos h5]
      go_enter Tryz.func35, Tryz.ntmps35
      go_wp2
      go_ret
      exact ⟨rfl, rfl⟩
    · rw [if_neg h5]
      have h1 : wrap64 (c - 4) = c - 4 := by unfold wrap64; omega
      have h2 : wrap64 ((c - 4).tdiv 3) = (c - 4) / 3 := by rw [Int.tdiv_eq_ediv_of_nonneg (by omega)]; unfold wrap64; omega
      go_enter Tryz.func35, Tryz.ntmps35
      go_wp2
      go_ret
      exact ⟨rfl, rfl⟩
theorem fits_yes {b c : Int} (h7 : 7 ≤ c) (h0 : 0 ≤ b) (hf : b + c ≤ 256) (w : World) : Calls Tryz.prog 13 #[.int .i64 b, .int .i64 c] w fun e w' => e = .returned (.bool true) ∧ w' = w := by
  have HR := Lib.hid (rroom_any c (by omega) w)
  have hr : 0 < roomV c := by unfold roomV; rw [if_neg (by omega)]; split <;> omega
  generalize roomV c = r at *
  have e2 : wrap64 (256 - c) = 256 - c := by unfold wrap64; omega
  have e1 : b ≤ 256 - c := by omega
  have e3 : c ≤ 256 := by omega
  go_enter Tryz.func13, Tryz.ntmps13
  go_wp2_with (go_at_call 35; refine HR.out.mono ?_; rintro e u ⟨rfl, hu⟩; subst u)
  go_ret
  exact ⟨rfl, rfl⟩
theorem fits_no {b c : Int} (hc : c ≤ 9223372036854775807) (hc0 : -9223372036854775808 ≤ c) (hf : ¬ (7 ≤ c ∧ 0 ≤ b ∧ b + c ≤ 256)) (w : World) : Calls Tryz.prog 13 #[.int .i64 b, .int .i64 c] w fun e w' => e = .returned (.bool false) ∧ w' = w := by
  have HR := Lib.hid (rroom_any c hc w)
  by_cases h7 : c < 7
  · have hr : roomV c = 0 := by unfold roomV; rw [if_pos h7]
    rw [hr] at HR
    clear hf
    go_enter Tryz.func13, Tryz.ntmps13
    go_wp2_with (go_at_call 35; refine HR.out.mono ?_; rintro e u ⟨rfl, hu⟩; subst u)
    go_ret
    exact ⟨rfl, rfl⟩
  · have hr : 0 < roomV c := by unfold roomV; rw [if_neg (by omega)]; split <;> omega
    generalize roomV c = r at *
    by_cases hb : 0 ≤ b
    · by_cases hc2 : c ≤ 256
      · have e2 : wrap64 (256 - c) = 256 - c := by unfold wrap64; omega
        have e1 : ¬ b ≤ 256 - c := by omega
        clear hf h7
        go_enter Tryz.func13, Tryz.ntmps13
        go_wp2_with (go_at_call 35; refine HR.out.mono ?_; rintro e u ⟨rfl, hu⟩; subst u)
        go_ret
        exact ⟨congrArg (fun x => Ending.returned (.bool x)) (decide_eq_false (Int.not_le.2 e1)), rfl⟩
      · clear hf h7
        go_enter Tryz.func13, Tryz.ntmps13
        go_wp2_with (go_at_call 35; refine HR.out.mono ?_; rintro e u ⟨rfl, hu⟩; subst u)
        go_ret
        exact ⟨rfl, rfl⟩
    · clear hf h7
      go_enter Tryz.func13, Tryz.ntmps13
      go_wp2_with (go_at_call 35; refine HR.out.mono ?_; rintro e u ⟨rfl, hu⟩; subst u)
      go_ret
      exact ⟨rfl, rfl⟩
end
def callS (R : Nat) (L : Prs) (c : Cal) : Prs := if 1 ≤ c.k ∧ c.k ≤ 7 then nxtS c.k L R (argF (c.l.take 8) 0) (argF (c.l.take 8) 1) else L
def foldC (R : Nat) (l : List Cal) : Prs := l.foldl (callS R) []
theorem foldC_take {R : Nat} {l : List Cal} {i : Nat} (h : i < l.length) : foldC R (l.take (i + 1)) = callS R (foldC R (l.take i)) (l.getD i cal0) := by
  unfold foldC
  rw [List.take_succ_eq_append_getElem h, List.foldl_append]
  simp [h]
def TW_new (d : Wd) : Prop := ∀ (W w : World) (q : Nat → Ptr) (b : Nat) (F : List Nat), Shaped5 W → Below W.heap.size W w → Abv W.heap.size F → TrAt w d.B (roomV d.C) q → Sx.Cel 72 w b F ((lB d 1).map fixB) → TW W w q b F ((lB d 1).map fixB) (totV d 1) d.B.toNat (roomV d.C).toNat d.C.toNat []
abbrev cfgZ : Obj := .cells #[.int .i64 0, .int .i64 0, .int .i64 0, .int .i64 0] 34
structure Bx (d : Wd) (q : Nat → Ptr) (n0 g5 g9 : Nat) (a : Int) (w : World) : Prop where
  b1 : w.heap[n0]? = some (wdO d)
  b2 : w.heap[n0 + 1]? = some treeO
  b4 : w.heap[n0 + 2]? = some cfgZ
  b5 : w.heap[g5]? = some (tO q)
  b9 : w.heap[g9]? = some (cfgO a 1 1024 8)
theorem Bx.on {d : Wd} {q : Nat → Ptr} {n0 g5 g9 : Nat} {a : Int} {w w' : World} (h : Bx d q n0 g5 g9 a w) (k : Below w.heap.size w w') : Bx d q n0 g5 g9 a w' :=
  ⟨(k.block _ (lt_of_block h.b1)).trans h.b1, (k.block _ (lt_of_block h.b2)).trans h.b2, (k.block _ (lt_of_block h.b4)).trans h.b4, (k.block _ (lt_of_block h.b5)).trans h.b5, (k.block _ (lt_of_block h.b9)).trans h.b9⟩
theorem Bx.turn {d : Wd} {q q' : Nat → Ptr} {n0 g5 g9 : Nat} {a : Int} {w w' : World} (h : Bx d q n0 g5 g9 a w) {W : World} {b : Nat} {F s : List Nat} {a' : Int} {B R cells : Nat} {L : Prs} (hT : TW W w q' b F s a' B R cells L) (t : Turn F F w w') : Bx d q n0 g5 g9 a w' :=
  ⟨hT.keep t h.b1 (by decide) (by decide), hT.keep t h.b2 (by decide) (by decide), hT.keep t h.b4 (by decide) (by decide), hT.keep t h.b5 (by decide) (by decide), hT.keep t h.b9 (by decide) (by decide)⟩
theorem cells5w {w : World} {x : Nat} {d : Wd} (h : w.heap[x]? = some (wdO d)) : w.cell? ⟨x, 0, none⟩ = some (.int .i64 d.B) ∧ w.cell? ⟨x, 1, none⟩ = some (.int .i64 d.C) ∧ w.cell? ⟨x, 2, none⟩ = some (.int .i64 d.M) ∧ w.cell? ⟨x, 3, none⟩ = some (.slice d.pn d.ln.length d.cn) ∧ w.cell? ⟨x, 4, none⟩ = some (.slice d.pc d.L.length d.cc) ∧ x < w.heap.size :=
  ⟨(cell_of_row w x 0 _ _ _ h).trans rfl, (cell_of_row w x 1 _ _ _ h).trans rfl, (cell_of_row w x 2 _ _ _ h).trans rfl, (cell_of_row w x 3 _ _ _ h).trans rfl, (cell_of_row w x 4 _ _ _ h).trans rfl, lt_of_block h⟩
structure Bx0 (d : Wd) (q : Nat → Ptr) (W : World) (g5 : Nat) (w : World) : Prop where
  bl : Below W.heap.size W w
  b1 : w.heap[W.heap.size]? = some (wdO d)
  b2 : w.heap[W.heap.size + 1]? = some treeO
  b4 : w.heap[W.heap.size + 2]? = some cfgZ
  b5 : w.heap[g5]? = some (tO q)
  tr : TrAt w d.B (roomV d.C) q
theorem Bx0.on {d : Wd} {q : Nat → Ptr} {W : World} {g5 : Nat} {w w' : World} (h : Bx0 d q W g5 w) (k : Below w.heap.size w w') : Bx0 d q W g5 w' :=
  ⟨h.bl.trans (k.mono h.bl.size), (k.block _ (lt_of_block h.b1)).trans h.b1, (k.block _ (lt_of_block h.b2)).trans h.b2, (k.block _ (lt_of_block h.b4)).trans h.b4, (k.block _ (lt_of_block h.b5)).trans h.b5, h.tr.on k⟩
theorem Bx0.full {d : Wd} {q : Nat → Ptr} {W : World} {g5 : Nat} {w : World} (h : Bx0 d q W g5 w) (a : Int) : Bx d q W.heap.size g5 w.heap.size a (w.alloc (cfgO a 1 1024 8)) :=
  have k := h.on (below_alloc w (cfgO a 1 1024 8))
  ⟨k.b1, k.b2, k.b4, k.b5, heap_alloc_new _ _⟩
theorem bx0_new {W u1 : World} {d : Wd} {q : Nat → Ptr} (k : Below (((W.alloc (wdO d)).alloc treeO).alloc cfgZ).heap.size (((W.alloc (wdO d)).alloc treeO).alloc cfgZ) u1) (t : TrAt u1 d.B (roomV d.C) q) : Bx0 d q W u1.heap.size (u1.alloc (tO q)) := by
  have e1 : (((W.alloc (wdO d)).alloc treeO).alloc cfgZ).heap[W.heap.size]? = some (wdO d) := (heap_alloc_old _ _ (by simp; omega)).trans ((heap_alloc_old _ _ (by simp)).trans (heap_alloc_new W _))
  have e2 : (((W.alloc (wdO d)).alloc treeO).alloc cfgZ).heap[W.heap.size + 1]? = some treeO := (heap_alloc_old _ _ (by simp)).trans (by have := heap_alloc_new (W.alloc (wdO d)) treeO; rwa [World.size_alloc] at this)
  have e3 : (((W.alloc (wdO d)).alloc treeO).alloc cfgZ).heap[W.heap.size + 2]? = some cfgZ := by have := heap_alloc_new ((W.alloc (wdO d)).alloc treeO) cfgZ; rwa [World.size_alloc, World.size_alloc] at this
  have k0 : Below W.heap.size W (((W.alloc (wdO d)).alloc treeO).alloc cfgZ) := (two_al W _ _).trans ((below_alloc _ _).mono (by simp; omega))
  have k2 := below_alloc u1 (tO q)
  have on : ∀ {g : Nat} {o : Obj}, (((W.alloc (wdO d)).alloc treeO).alloc cfgZ).heap[g]? = some o → (u1.alloc (tO q)).heap[g]? = some o := fun {g o} h => (heap_alloc_old u1 _ (Nat.lt_of_lt_of_le (lt_of_block h) k.size)).trans ((k.block _ (lt_of_block h)).trans h)
  exact ⟨(k0.trans (k.mono k0.size)).trans (k2.mono (Nat.le_trans k0.size k.size)), on e1, on e2, on e3, heap_alloc_new _ _, t.on k2⟩
abbrev Sb (g9 g12 gw : Nat) (a t : Int) (z : Ptr) (c : Cal) (u : World) : Prop := u.cell? ⟨g9, 0, none⟩ = some (.int .i64 a) ∧ u.cell? ⟨g9, 1, none⟩ = some (.int .i64 1) ∧ u.cell? ⟨g9, 2, none⟩ = some (.int .i64 1024) ∧ u.cell? ⟨g9, 3, none⟩ = some (.int .i64 8) ∧ u.cell? ⟨g12, 0, none⟩ = some (.int .i64 t) ∧ u.cell? ⟨g12, 1, none⟩ = some (.slice z.p z.n z.c) ∧ u.cell? ⟨gw, 2, none⟩ = some (.slice c.p c.l.length c.c)
abbrev opO (c : Cal) : Obj := .cells #[.int .i64 c.k, .bool c.o, .slice c.p c.l.length c.c] 38
abbrev pgO (t : Int) (z : Ptr) : Obj := .cells #[.int .i64 t, .slice z.p z.n z.c] 29
theorem sb_of {u : World} {g9 g12 gw : Nat} {a t : Int} {z : Ptr} {c : Cal} {d : Wd} {q : Nat → Ptr} {n0 g5 : Nat} (h : Bx d q n0 g5 g9 a u) (h2 : u.heap[g12]? = some (pgO t z)) (h3 : u.heap[gw]? = some (opO c)) : Sb g9 g12 gw a t z c u := by
  obtain ⟨x0, x1, x2, x3, _⟩ := Md.cells4 h.b9
  obtain ⟨y0, y1, _⟩ := cells2_of h2
  exact ⟨x0, x1, x2, x3, y0, y1, (cell_of_row _ _ 2 _ _ _ h3).trans rfl⟩
theorem bx_three {wr v1 : World} {g9 : Nat} {a t : Int} {z : Ptr} {c : Cal} {d : Wd} {q : Nat → Ptr} {n0 g5 : Nat} (h : Bx d q n0 g5 g9 a wr) (k : Below (wr.alloc (opO c)).heap.size (wr.alloc (opO c)) v1) :
    Below wr.heap.size wr (v1.alloc (pgO t z)) ∧ Bx d q n0 g5 g9 a (v1.alloc (pgO t z)) ∧ (v1.alloc (pgO t z)).heap[v1.heap.size]? = some (pgO t z) ∧ (v1.alloc (pgO t z)).heap[wr.heap.size]? = some (opO c) := by
  have kb := below_chain (below_chain (below_alloc wr (opO c)) k) (below_alloc v1 (pgO t z))
  have hw := (k.block wr.heap.size (by simp)).trans (heap_alloc_new wr (opO c))
  exact ⟨kb, h.on kb, heap_alloc_new _ _, (heap_alloc_old v1 _ (lt_of_block hw)).trans hw⟩
theorem treeInfo : (Tryz.prog.info? 31).map (·.size) = some 14 := by kernel_rfl
theorem cfgInfo : (Tryz.prog.info? 34).map (·.size) = some 4 := by kernel_rfl
abbrev tA (q : Nat → Ptr) : Array Value := #[.int .i64 1, .slice (q 0).p (q 0).n (q 0).c, .int .i64 2, .slice (q 1).p (q 1).n (q 1).c, .int .i64 2, .slice (q 2).p (q 2).n (q 2).c, .int .i64 1, .slice (q 3).p (q 3).n (q 3).c, .int .i64 1, .slice (q 4).p (q 4).n (q 4).c, .int .i64 1, .slice (q 5).p (q 5).n (q 5).c, .int .i64 1, .slice (q 6).p (q 6).n (q 6).c]
abbrev cA (a : Int) : Array Value := #[.int .i64 a, .int .i64 1, .int .i64 1024, .int .i64 8]
theorem tA_one (q : Nat → Ptr) : (tA q).all (·.oneCell') = true := by simp [Value.oneCell']
theorem cA_one (a : Int) : (cA a).all (·.oneCell') = true := by simp [Value.oneCell']
abbrev Sc (g5 g9 : Nat) (a : Int) (q : Nat → Ptr) (u : World) : Prop := (u.cell? ⟨g5, 0, none⟩ = some (.int .i64 1) ∧ u.cell? ⟨g5, 1, none⟩ = some (.slice (q 0).p (q 0).n (q 0).c) ∧ u.cell? ⟨g5, 2, none⟩ = some (.int .i64 2) ∧ u.cell? ⟨g5, 3, none⟩ = some (.slice (q 1).p (q 1).n (q 1).c) ∧ u.cell? ⟨g5, 4, none⟩ = some (.int .i64 2) ∧ u.cell? ⟨g5, 5, none⟩ = some (.slice (q 2).p (q 2).n (q 2).c) ∧ u.cell? ⟨g5, 6, none⟩ = some (.int .i64 1) ∧ u.cell? ⟨g5, 7, none⟩ = some (.slice (q 3).p (q 3).n (q 3).c) ∧ u.cell? ⟨g5, 8, none⟩ = some (.int .i64 1) ∧ u.cell? ⟨g5, 9, none⟩ = some (.slice (q 4).p (q 4).n (q 4).c) ∧ u.cell? ⟨g5, 10, none⟩ = some (.int .i64 1) ∧ u.cell? ⟨g5, 11, none⟩ = some (.slice (q 5).p (q 5).n (q 5).c) ∧ u.cell? ⟨g5, 12, none⟩ = some (.int .i64 1) ∧ u.cell? ⟨g5, 13, none⟩ = some (.slice (q 6).p (q 6).n (q 6).c)) ∧ u.cell? ⟨g9, 0, none⟩ = some (.int .i64 a) ∧ u.cell? ⟨g9, 1, none⟩ = some (.int .i64 1) ∧ u.cell? ⟨g9, 2, none⟩ = some (.int .i64 1024) ∧ u.cell? ⟨g9, 3, none⟩ = some (.int .i64 8)
theorem sc_of2 {u : World} {g9 g5 : Nat} {a : Int} {q : Nat → Ptr} (h5 : u.heap[g5]? = some (tO q)) (h9 : u.heap[g9]? = some (cfgO a 1 1024 8)) : Sc g5 g9 a q u := by
  obtain ⟨x0, x1, x2, x3, _⟩ := Md.cells4 h9
  refine ⟨⟨?_, ?_, ?_, ?_, ?_, ?_, ?_, ?_, ?_, ?_, ?_, ?_, ?_, ?_⟩, x0, x1, x2, x3⟩
  all_goals exact (cell_of_row _ _ _ _ _ _ h5).trans rfl
theorem sc_of {u : World} {g9 : Nat} {a : Int} {d : Wd} {q : Nat → Ptr} {n0 g5 : Nat} (h : Bx d q n0 g5 g9 a u) : Sc g5 g9 a q u := sc_of2 h.b5 h.b9
theorem Bx.set2 {u : World} {g9 : Nat} {a : Int} {d : Wd} {q : Nat → Ptr} {n0 g5 : Nat} (h : Bx d q n0 g5 g9 a u) :
    (u.setRow (n0 + 1) (tA q)).heap[g5]? = some (tO q) ∧ (u.setRow (n0 + 1) (tA q)).heap[g9]? = some (cfgO a 1 1024 8) ∧ (u.setRow (n0 + 1) (tA q)).heap[n0 + 2]? = some cfgZ ∧ ((u.setRow (n0 + 1) (tA q)).setRow (n0 + 2) (cA a)).heap[g5]? = some (tO q) ∧ ((u.setRow (n0 + 1) (tA q)).setRow (n0 + 2) (cA a)).heap[g9]? = some (cfgO a 1 1024 8) ∧ ((u.setRow (n0 + 1) (tA q)).setRow (n0 + 2) (cA a)).heap[n0 + 1]? = some (tO q) ∧ ((u.setRow (n0 + 1) (tA q)).setRow (n0 + 2) (cA a)).heap[n0 + 2]? = some (cfgO a 1 1024 8) := by
  have n5 : g5 ≠ n0 + 1 := fun e => by
    have h5 := h.b5
    rw [e, h.b2] at h5
    injection h5 with h5
    injection h5 with h5
    have := congrArg (fun x : Array Value => x[0]?) h5
    simp at this
  have n9 : g9 ≠ n0 + 2 := fun e => by
    have h9 := h.b9
    rw [e, h.b4] at h9
    injection h9 with h9
    injection h9 with h9
    have := congrArg (fun x : Array Value => x[1]?) h9
    simp at this
  have n5b : g5 ≠ n0 + 2 := ne_ty h.b5 h.b4 (by decide)
  have n9b : g9 ≠ n0 + 1 := ne_ty h.b9 h.b2 (by decide)
  have a5 := (setRow_other u (n0 + 1) g5 (tA q) n5).trans h.b5
  have a9 := (setRow_other u (n0 + 1) g9 (tA q) n9b).trans h.b9
  have a4 := (setRow_other u (n0 + 1) (n0 + 2) (tA q) (by omega)).trans h.b4
  have a2 := setRow_heap u (n0 + 1) _ (tA q) _ _ h.b2
  exact ⟨a5, a9, a4, (setRow_other _ _ _ _ n5b).trans a5, (setRow_other _ _ _ _ n9).trans a9, (setRow_other _ _ _ _ (by omega)).trans a2, setRow_heap _ _ _ _ _ _ a4⟩
theorem TW.set {W w : World} {q : Nat → Ptr} {b : Nat} {F s : List Nat} {a : Int} {B R cells : Nat} {L : Prs} (h : TW W w q b F s a B R cells L) {g : Nat} {old cs : Array Value} {T : TypeId} {x : Nat × Nat} (hW : W.heap.size ≤ g) (hb : w.heap[g]? = some (.cells old T x)) (h1 : (T == 72) = false) (h2 : (T == 57) = false) (h3 : (T == 108) = false) : TW W (w.setRow g cs) q b F s a B R cells L := by
  have ng := cel_no h.cel hb h1 h2
  refine ⟨h.sh, h.bl.trans ⟨rfl, rfl, rfl, by simp, fun k hk => setRow_other w g k cs (by omega)⟩, h.ab, ⟨fun i hi => ⟨(h.tr.row i hi).1, (h.tr.row i hi).2.keep ⟨by simp, fun k hk => setRow_other _ _ _ _ fun e => ?_⟩⟩⟩, h.cel.keep ⟨by simp, fun k hk => setRow_other _ _ _ _ fun e => ng (e ▸ hk)⟩, h.ok, h.has, h.lies⟩
  obtain ⟨arr, hk2⟩ := (h.tr.row i hi).2.blk hk
  exact ne_ty hb hk2 h3 e.symm
theorem results_ctc {fn : Func} {p u z : Tmp} {ty ty2 : TypeId} (h : fn.results = #[.cell p ty, .tmp u, .cell z ty2]) (tmps : Array Value) (P : Program) (w : World) :
    (results fn tmps).run P w = ((asAddr (tmps.getD p undef)).run P w).andThen fun a w₁ => ((loadVar ty a).run P w₁).andThen fun v w₂ => ((asAddr (tmps.getD z undef)).run P w₂).andThen fun b w₃ => ((loadVar ty2 b).run P w₃).andThen fun v2 w₄ => .ok (.tuple #[v, tmps.getD u undef, v2]) w₄ := by
  simp only [results, h]
  simp [Sem.run_bind, Result.andThen]
theorem after_back {fn : Func} {p r z : Tmp} (h : fn.results = #[.cell p 31, .tmp r, .cell z 34]) {Q : Ending → World → Prop} {a : Act} {w : World} (g : Nat) (v : Value) (g2 : Nat) {arr arr2 : Array Value} (hp : a.tmps.getD p undef = .pointer (some ⟨g, 0, none⟩)) (hu : a.tmps.getD r undef = v) (hz : a.tmps.getD z undef = .pointer (some ⟨g2, 0, none⟩))
    (hg : w.heap[g]? = some (.cells arr 31 (0, 0))) (ha : arr.size = 14) (hg2 : w.heap[g2]? = some (.cells arr2 34 (0, 0))) (ha2 : arr2.size = 4) (hd : a.defers = []) (hR : Q (.returned (.tuple #[.agg arr, v, .agg arr2])) w) : bodyPost Tryz.prog fn Q .ret a w := by
  refine bodyPost_ret (v := .tuple #[.agg arr, v, .agg arr2]) ?_ hd hR
  have hl := run_loadVar_row (P := Tryz.prog) w g 31 31 arr (0, 0) _ hg Tryz.underlying31 rfl (by rw [ha]; kernel_rfl)
  have hl2 := run_loadVar_row (P := Tryz.prog) w g2 34 34 arr2 (0, 0) _ hg2 Tryz.underlying34 rfl (by rw [ha2]; kernel_rfl)
  rw [results_ctc h, hp, hu, hz]
  simp [asAddr, hl, hl2, Result.andThen]
theorem make_A {w : World} (hT : Shaped5 w) {b c : Int} (hc : c ≤ 9223372036854775807) (h7 : 7 ≤ c) (h0 : 0 ≤ b) (hf : b + c ≤ 256) : Calls Tryz.prog 9 #[.int .i64 b, .int .i64 c] w fun e w' => ∃ q, e = .returned (.tuple #[treeA q, .int .i64 0]) ∧ Hid (TrAt w' b (roomV c) q ∧ Below w.heap.size w w') := make_yes hT hc h7 h0 hf
theorem sB_lt {W : World} {d : Wd} (hd : WdIn W d) (m : Int) (i : Nat) : sB d m i < 18446744073709551616 := by
  unfold sB
  split
  · rename_i h
    have hl : i % d.ln.length < d.ln.length := Nat.mod_lt _ h.2
    rw [List.getD_eq_getElem?_getD, List.getElem?_eq_getElem hl]
    exact hd.lx _ (List.getElem_mem hl)
  · decide
theorem lB_ok {W : World} {d : Wd} (hd : WdIn W d) (m : Int) : okS ((lB d m).map fixB) := okS_map fun x hx => by
  obtain ⟨i, _, rfl⟩ := List.mem_map.1 hx
  exact sB_lt hd m i
theorem roomV_eq {c : Int} (h7 : 7 ≤ c) : roomV c = min 16 ((c - 4) / 3) := by
  unfold roomV
  rw [if_neg (by omega)]
  split <;> omega
theorem tw_new {W : World} {d : Wd} (hd : WdIn W d) (h7 : 7 ≤ d.C) (h0 : 0 ≤ d.B) (hf : d.B + d.C ≤ 256) : TW_new d := by
  intro W w q b F hT hb ha ht hc
  have htv : 1 ≤ totV d 1 ∧ totV d 1 ≤ 256 ∧ d.B + d.C ≤ totV d 1 := by
    unfold totV
    have := moreV_in d.M
    split <;> omega
  have hr := roomV_eq h7
  have hlen : ((lB d 1).map fixB).length = (totV d 1).toNat := by rw [List.length_map, lB_len]
  have hl : Lies (totV d 1) 1 8 d.B.toNat (roomV d.C).toNat d.C.toNat ((lB d 1).map fixB).length := by
    refine ⟨Md.cfgB_iff.2 ?_, by rw [hlen]; omega, by decide, by omega, by omega, by omega⟩
    omega
  refine ⟨hT, hb, ha, ?_, hc, lB_ok hd 1, has_new hl fun i h1 h2 => ?_, hl⟩
  · rw [show ((d.B.toNat : Nat) : Int) = d.B by omega, show (((roomV d.C).toNat : Nat) : Int) = roomV d.C by omega]
    exact ht
  · have hi : i < (totV d 1).toNat := by omega
    have e := lB_at d 1 i hi
    have e2 : sB d 1 i = 0 := if_neg (by omega)
    rw [e2] at e
    rw [List.getD_eq_getElem?_getD, List.getElem?_map, List.getElem?_eq_getElem (by rw [lB_len]; exact hi)]
    rw [List.getD_eq_getElem?_getD, List.getElem?_eq_getElem (by rw [lB_len]; exact hi)] at e
    simp only [Option.getD_some, Option.map_some] at e ⊢
    rw [e]
    rfl
section
variable {W : World}
set_option maxRecDepth 100000 in
set_option maxHeartbeats 4000000 in
theorem after_yes (hT : Shaped5 W) {d : Wd} (hd : WdIn W d) (h7 : 7 ≤ d.C) (h0 : 0 ≤ d.B) (hf : d.B + d.C ≤ 256) : Calls Tryz.prog 5 #[wdV d] W fun e w' => ∃ q b a, e = .returned (.tuple #[treeA q, .pointer (some ⟨b, 0, none⟩), cfgV a 1 1024 8]) ∧ Hid (∃ F s, TW W w' q b F s a d.B.toNat (roomV d.C).toNat d.C.toNat (foldC (roomV d.C).toNat d.L)) := by
  have HMK : Hid (∀ u, Below W.heap.size W u → _) := fun u hu => make_A (hT.on hu) (b := d.B) (c := d.C) (by omega) h7 h0 hf
  have HFI : Hid (∀ u, _) := fun u => fits_yes (b := d.B) (c := d.C) h7 h0 hf u
  have HBE : Hid (∀ u, Below W.heap.size W u → _) := fun u hu => begins_any (m := 1) (hd.on hu) (.inl rfl) h0 (by omega) (by omega)
  have htv : 1 ≤ totV d 1 ∧ totV d 1 ≤ 256 ∧ d.B + d.C ≤ totV d 1 := by
    unfold totV
    have := moreV_in d.M
    split <;> omega
  have HNEW := Lib.hid (tw_new hd h7 h0 hf)
  unfold TW_new at HNEW
  obtain ⟨a, ha⟩ : ∃ a, totV d 1 = a := ⟨_, rfl⟩
  have HTO : Hid (∀ u, Calls Tryz.prog 15 #[wdV d, .int .i64 1] u fun e w' => e = .returned (.int .i64 a) ∧ Below u.heap.size u w') := fun u => by rw [← ha]; exact total_any d (m := 1) (.inl rfl) h0 (by omega) (by omega) u
  rw [ha] at HNEW
  have HT := Lib.hid hT
  have HCS := Lib.hid hd.cs
  have HCX := Lib.hid hd.cx
  have HCL := Lib.hid hd.cl
  obtain ⟨B, C, M, pn, ln, cn, pc, LL, cc⟩ := d
  simp only at *
  clear hd hT ha
  go_enter Tryz.func5, Tryz.ntmps5
  go_upto_region 2 with (go_at_call 9; refine (HMK.out _ ((two_al _ _ _).trans ((below_alloc _ _).mono (by simp; omega)))).mono ?_; rintro e u1 ⟨q, rfl, HQ⟩)
  have HX := Lib.hid (bx0_new (d := ⟨B, C, M, pn, ln, cn, pc, LL, cc⟩) HQ.out.2 HQ.out.1)
  obtain ⟨u2, hu2⟩ : ∃ u2, u2 = u1.alloc (tO q) := ⟨_, rfl⟩
  obtain ⟨g5, hg5⟩ : ∃ g5, u1.heap.size = g5 := ⟨_, rfl⟩
  rw [hg5] at HX ⊢
  rw [← hu2] at HX ⊢
  clear HQ hu2 hg5
  obtain ⟨y0, y1, y2, y3, y4, y5⟩ := cells5w HX.out.b1
  go_upto_region 9 with (first
    | (go_at_call 11; refine (config_any _ _ _ _).mono ?_; rintro e u5 ⟨rfl, k5⟩; have X5 := Lib.hid (X4.out.on k5); have C5 := Lib.hid (C4.out.on k5); clear k5)
    | (go_at_call 15; refine (HTO.out _).mono ?_; rintro e u4 ⟨rfl, k4⟩; have X4 := Lib.hid (X3.out.1.on k4); have C4 := Lib.hid (X3.out.2.1.on k4); clear k4 HTO)
    | (go_at_call 14; refine (HBE.out _ HX.out.bl).mono ?_; rintro e u3 ⟨b, F, rfl, HZ⟩; have X3 := Lib.hid (And.intro (HX.out.on HZ.out.2.2) (And.intro HZ.out.1 (HZ.out.2.1.mono HX.out.bl.size))); clear HBE y0 y1 y2 y3 y4 y5; obtain ⟨y0, y1, y2, y3, y4, y5⟩ := cells5w X3.out.1.b1)
    | (go_at_call 13; refine (HFI.out _).mono ?_; rintro e v2 ⟨rfl, hw⟩; subst v2; clear HFI))
  have HB := Lib.hid (X5.out.full a)
  have HS := Lib.hid (HNEW.out W (u5.alloc (cfgO a 1 1024 8)) q b F HT.out (X5.out.bl.trans ((below_alloc _ _).mono X5.out.bl.size)) X3.out.2.2 (X5.out.tr.on (below_alloc _ _)) (C5.out.on (below_alloc _ _)))
  clear HNEW C5 C4 X3 X4 y0 y1 y2 y3 y4 y5 HX HZ
  obtain ⟨u6, hu6⟩ : ∃ u6, u6 = u5.alloc (cfgO a 1 1024 8) := ⟨_, rfl⟩
  obtain ⟨g9, hg9⟩ : ∃ g9, u5.heap.size = g9 := ⟨_, rfl⟩
  rw [hg9] at HB ⊢
  rw [← hu6] at HB HS ⊢
  clear hu6 hg9 X5 HMK
  obtain ⟨y0, y1, y2, y3, y4, y5⟩ := cells5w HB.out.b1
  go_wp2_with fail
  clear y0 y1 y2 y3 y4 y5
  generalize (lB _ 1).map fixB = s0 at HS
  go_loopw [47] (fun v wr => ∃ k : Nat, v = .int .i64 k ∧ k ≤ LL.length ∧ Hid (Bx ⟨B, C, M, pn, ln, cn, pc, LL, cc⟩ q W.heap.size g5 g9 a wr ∧ ∃ s, TW W wr q b F s a B.toNat (roomV C).toNat C.toNat (foldC (roomV C).toNat (LL.take k)))) (fun v _ => LL.length - (intOf v).toNat)
  case atStart => exact ⟨0, rfl, Nat.zero_le _, HB.out, s0, HS.out⟩
  case round =>
    obtain ⟨k, rfl, hk, HR⟩ := hrel
    clear HB HS
    by_cases hlt : k < LL.length
    · obtain ⟨s, HS⟩ := HR.out.2
      have HB := Lib.hid HR.out.1
      replace HS := Lib.hid HS
      have hlt' : (k : Int) < (LL.length : Int) := by omega
      have hkb : (LL.length : Int) ≤ 9223372036854775807 := by have := HCL.out; omega
      obtain ⟨g, o, rfl, hg, x0, x1, x2, xb⟩ := (HCS.out.on HS.out.bl) k hlt
      have hcx := HCX.out (LL.getD k cal0) (by rw [List.getD_eq_getElem?_getD, List.getElem?_eq_getElem hlt]; exact List.getElem_mem hlt)
      have HFT := Lib.hid (foldC_take (R := (roomV C).toNat) hlt)
      obtain ⟨c, hc⟩ : ∃ c, LL.getD k cal0 = c := ⟨_, rfl⟩
      rw [hc] at x0 x1 x2 xb hcx HFT
      have HXB := Lib.hid xb
      have HCC := Lib.hid hcx
      clear xb hcx hc HR
      have h5 := HB.out.b5
      have h9 := HB.out.b9
      have hl5 := lt_of_block h5
      have hl9 := lt_of_block h9
      by_cases hk1 : 1 ≤ c.k ∧ c.k ≤ 7
      · have HP : Hid (∀ u, _) := fun u => prog_tree q hk1.1 hk1.2 u
        have HNX : Hid (callS (roomV C).toNat (foldC (roomV C).toNat (LL.take k)) c = nxtS c.k (foldC (roomV C).toNat (LL.take k)) (roomV C).toNat (argF (c.l.take 8) 0) (argF (c.l.take 8) 1)) := if_pos hk1
        have HRUN : Hid (∀ (u : World) (po : Option Addr) (n co : Nat) (l : List Nat), TW W u q b F s a B.toNat (roomV C).toNat C.toNat (foldC (roomV C).toNat (LL.take k)) → l.length = n → n ≤ 8 → (∀ x ∈ l, x < 18446744073709551616) → FlAt u po l → _) := fun u po n co l hu h1 h2 h3 h4 => hu.run (po := po) (co := co) hk1.1 hk1.2 h1 h2 h3 h4
        obtain ⟨t, ht⟩ : ∃ t, tagS c.k = t := ⟨_, rfl⟩
        obtain ⟨z, hz⟩ : ∃ z, q (c.k - 1).toNat = z := ⟨_, rfl⟩
        rw [ht, hz] at HP
        simp only [ht, hz] at HRUN
        clear hk1 ht hz
        go_upto_region 14 with (first
          | (refine wpList_load_row rfl 31 _ rfl g5 rfl _ _ _ _ ((heap_alloc_old wr _ hl5).trans h5) Tryz.underlying31 rfl treeInfo ?_)
          | (go_at_call 16; refine (HP.out _).mono ?_; rintro e v1 ⟨rfl, k1⟩; have K1 := Lib.hid k1; clear k1 HP))
        have h3 := bx_three HB.out K1.out (t := t) (z := z)
        have HS2 := Lib.hid (HS.out.on h3.1)
        have HXB2 := Lib.hid (HXB.out.on h3.1)
        replace h3 := h3.2
        obtain ⟨v2, hv2⟩ : ∃ v2, v2 = v1.alloc (pgO t z) := ⟨_, rfl⟩
        obtain ⟨g12, hg12⟩ : ∃ g12, v1.heap.size = g12 := ⟨_, rfl⟩
        rw [hg12] at h3 ⊢
        rw [← hv2] at h3 HS2 HXB2 ⊢
        obtain ⟨gw, hgw⟩ : ∃ gw, wr.heap.size = gw := ⟨_, rfl⟩
        rw [hgw] at h3 ⊢
        have H3 := Lib.hid h3
        have hs3 := sb_of h3.1 h3.2.1 h3.2.2
        clear h3 hv2 hg12 hgw K1 h5 h9 hl5 hl9 x0 x1 x2 HB HS HXB
        refine wp_region_seq (Sb g9 g12 gw a t z c) ((0, true) :: (1, true) :: (2, true) :: (3, true) :: (5, true) :: (4, false) :: (6, false) :: []) follows (by kernel_rfl) (fun _ _ _ _ _ h => h) hs3 ?_
        (repeat ((first | (refine wpSeq_take (v := ?_) rfl (by rfl) (fun wq hSq => ?_) ?_; rotate_left; (focus ((try dsimp only at hSq); go_simp; try with_reducible rfl))) | refine wpSeq_skip rfl (by rfl) ?_); simp only [Act.put, List.setIfInBounds_toArray, List.set_cons_zero, List.set_cons_succ]))
        (refine wpSeq_do rfl (by rfl) (fun KK hK => ?_); go_simp)
        have kd := (Same.drew v2).below v2.heap.size
        refine (floats_any rfl (HXB2.out.on kd) HCC.out.2).mono ?_
        rintro e v3 ⟨p3, n3, c3, rfl, HF⟩
        have hb3 := (H3.out.1.on kd).on HF.out.2.2.2
        have hp3 := (HF.out.2.2.2.block _ (lt_of_block H3.out.2.1)).trans H3.out.2.1
        have hw3 := (HF.out.2.2.2.block _ (lt_of_block H3.out.2.2)).trans H3.out.2.2
        refine hK.out _ _ (sb_of hb3 hp3 hw3) ?_
        (clear hK KK; try simp only [Act.put, List.setIfInBounds_toArray, List.set_cons_zero, List.set_cons_succ])
        (repeat ((first | (refine wpSeq_take (v := ?_) rfl (by rfl) (fun wq hSq => ?_) ?_; rotate_left; (focus ((try dsimp only at hSq); go_simp; try with_reducible rfl))) | refine wpSeq_skip rfl (by rfl) ?_); simp only [Act.put, List.setIfInBounds_toArray, List.set_cons_zero, List.set_cons_succ]))
        (refine wpSeq_do rfl (by rfl) (fun KK hK => ?_); go_simp)
        refine (HRUN.out v3 p3 n3 c3 (c.l.take 8) ((HS2.out.on kd).on HF.out.2.2.2) (by rw [HF.out.1, List.length_take]) (by rw [HF.out.1]; omega) (fun x hx => HCC.out.1 x (List.mem_of_mem_take hx)) (row_fl HF.out.2.1)).mono ?_
        rintro e v4 ⟨Rr, m, rfl, HZ⟩
        obtain ⟨_, _, z3, z4, _, _⟩ := HZ.out
        have hT3 := (HS2.out.on kd).on HF.out.2.2.2
        refine hK.out _ _ (sb_of (hb3.turn hT3 z4) (hT3.keep z4 hp3 (by decide) (by decide)) (hT3.keep z4 hw3 (by decide) (by decide))) ?_
        (clear hK KK; try simp only [Act.put, List.setIfInBounds_toArray, List.set_cons_zero, List.set_cons_succ])
        (repeat ((first | (refine wpSeq_take (v := ?_) rfl (by rfl) (fun wq hSq => ?_) ?_; rotate_left; (focus ((try dsimp only at hSq); go_simp; try with_reducible rfl))) | refine wpSeq_skip rfl (by rfl) ?_); simp only [Act.put, List.setIfInBounds_toArray, List.set_cons_zero, List.set_cons_succ]))
        refine wpSeq_nil ?_
        go_wp2_with fail
        refine ⟨⟨k + 1, by first | rfl | (congr 1), by omega, hb3.turn hT3 z4, aftS s m, ?_⟩, by simp [intOf]; omega⟩
        rw [HFT.out, HNX.out]
        exact z3
      · have HP : Hid (∀ u, _) := fun u => prog_none q hk1 u
        have HNX : Hid (callS (roomV C).toNat (foldC (roomV C).toNat (LL.take k)) c = foldC (roomV C).toNat (LL.take k)) := if_neg hk1
        clear hk1
        go_wp2_with (first
          | (refine wpList_load_row rfl 31 _ rfl g5 rfl _ _ _ _ ((heap_alloc_old wr _ hl5).trans h5) Tryz.underlying31 rfl treeInfo ?_)
          | (go_at_call 16; refine (HP.out _).mono ?_; rintro e v1 ⟨rfl, k1⟩; have K1 := Lib.hid k1; clear k1 HP))
        have h3 := bx_three HB.out K1.out (t := 0) (z := ⟨none, 0, 0⟩)
        refine ⟨⟨k + 1, by first | rfl | (congr 1), by omega, h3.2.1, s, ?_⟩, by simp [intOf]; omega⟩
        rw [HFT.out, HNX.out]
        exact HS.out.on h3.1
    · obtain ⟨s, HS⟩ := HR.out.2
      have HB := Lib.hid HR.out.1
      replace HS := Lib.hid HS
      have hlt' : ¬ (k : Int) < (LL.length : Int) := by omega
      obtain rfl : k = LL.length := by omega
      rw [List.take_length] at HS
      clear HR hlt
      go_upto_region 16 with fail
      have hsc := sc_of HB.out
      refine wp_region_seq (Sc g5 g9 a q) ((0, true) :: (1, true) :: (2, true) :: (3, false) :: (4, true) :: (5, false) :: []) follows (by kernel_rfl) (fun _ _ _ _ _ h => h) hsc ?_
      (repeat ((first | (refine wpSeq_take (v := ?_) rfl (by rfl) (fun wq hSq => ?_) ?_; rotate_left; (focus ((try dsimp only at hSq); go_simp; try with_reducible rfl))) | refine wpSeq_skip rfl (by rfl) ?_); simp only [Act.put, List.setIfInBounds_toArray, List.set_cons_zero, List.set_cons_succ]))
      refine wpSeq_do rfl (by rfl) (fun KK hK => ?_)
      refine wp_store_row 31 _ _ rfl (W.heap.size + 1) (tA q) rfl rfl _ _ HB.out.b2 treeInfo rfl (tA_one q) ?_
      have HB2 := Lib.hid ((HB.out.on ((Same.drew wr).below _)).set2)
      have HS2 := Lib.hid ((HS.out.on ((Same.drew wr).below _)).set (g := W.heap.size + 1) (cs := tA q) (by omega) HB.out.b2 (by decide) (by decide) (by decide))
      refine hK.out _ _ (sc_of2 HB2.out.1 HB2.out.2.1) ?_
      (clear hK KK; try simp only [Act.put])
      (repeat ((first | (refine wpSeq_take (v := ?_) rfl (by rfl) (fun wq hSq => ?_) ?_; rotate_left; (focus ((try dsimp only at hSq); go_simp; try with_reducible rfl))) | refine wpSeq_skip rfl (by rfl) ?_); simp only [Act.put, List.setIfInBounds_toArray, List.set_cons_zero, List.set_cons_succ]))
      refine wpSeq_do rfl (by rfl) (fun KK hK => ?_)
      refine wp_store_row 34 _ _ rfl (W.heap.size + 2) (cA a) rfl rfl _ _ HB2.out.2.2.1 cfgInfo rfl (cA_one a) ?_
      refine hK.out _ _ (sc_of2 HB2.out.2.2.2.1 HB2.out.2.2.2.2.1) ?_
      (clear hK KK; try simp only [Act.put])
      refine wpSeq_nil ?_
      go_wp2_with fail
      refine after_back rfl (W.heap.size + 1) (.pointer (some ⟨b, 0, none⟩)) (W.heap.size + 2) rfl rfl rfl HB2.out.2.2.2.2.2.1 rfl HB2.out.2.2.2.2.2.2 rfl rfl ⟨q, b, a, rfl, F, s, ?_⟩
      exact HS2.out.set (g := W.heap.size + 2) (cs := cA a) (by omega) HB2.out.2.2.1 (by decide) (by decide) (by decide)
end
end Go.Proofs.YtdodhpfdldkbdabGreatDoor.Tr
namespace Go.Proofs.YtdodhpfdldkbdabGreatDoor.Tr
open Go.ChangeShapes Go.WideShapes Go.ChangeAt Go.RowKit Num Go.Maps As
open Go.ChangeMaps Go.MapKept
attribute [local go_sem] run_store_float frombits_run bits_run
abbrev tZ : Array Value := #[.int .i64 0, .slice none 0 0, .int .i64 0, .slice none 0 0, .int .i64 0, .slice none 0 0, .int .i64 0, .slice none 0 0, .int .i64 0, .slice none 0 0, .int .i64 0, .slice none 0 0, .int .i64 0, .slice none 0 0]
abbrev cZ : Array Value := #[.int .i64 0, .int .i64 0, .int .i64 0, .int .i64 0]
theorem tZ_one : tZ.all (·.oneCell') = true := by simp [Value.oneCell']
theorem cZ_one : cZ.all (·.oneCell') = true := by simp [Value.oneCell']
theorem make_Z {w : World} {b c : Int} (hc : c ≤ 9223372036854775807) (hc0 : -9223372036854775808 ≤ c) (hf : ¬ (7 ≤ c ∧ 0 ≤ b ∧ b + c ≤ 256)) : Calls Tryz.prog 9 #[.int .i64 b, .int .i64 c] w fun e w' => e = .returned (.tuple #[.agg tZ, .int .i64 200]) ∧ Below w.heap.size w w' := make_no hc hc0 hf
section
variable {W : World}
structure BxZ (d : Wd) (W : World) (w : World) : Prop where
  bl : Below W.heap.size W w
  b1 : w.heap[W.heap.size]? = some (wdO d)
  b2 : w.heap[W.heap.size + 1]? = some treeO
  b4 : w.heap[W.heap.size + 2]? = some cfgZ
theorem bxz_new {d : Wd} {u1 : World} (k : Below (((W.alloc (wdO d)).alloc treeO).alloc cfgZ).heap.size (((W.alloc (wdO d)).alloc treeO).alloc cfgZ) u1) (o : Obj) : BxZ d W (u1.alloc o) := by
  have e1 : (((W.alloc (wdO d)).alloc treeO).alloc cfgZ).heap[W.heap.size]? = some (wdO d) := (heap_alloc_old _ _ (by simp; omega)).trans ((heap_alloc_old _ _ (by simp)).trans (heap_alloc_new W _))
  have e2 : (((W.alloc (wdO d)).alloc treeO).alloc cfgZ).heap[W.heap.size + 1]? = some treeO := (heap_alloc_old _ _ (by simp)).trans (by have := heap_alloc_new (W.alloc (wdO d)) treeO; rwa [World.size_alloc] at this)
  have e3 : (((W.alloc (wdO d)).alloc treeO).alloc cfgZ).heap[W.heap.size + 2]? = some cfgZ := by have := heap_alloc_new ((W.alloc (wdO d)).alloc treeO) cfgZ; rwa [World.size_alloc, World.size_alloc] at this
  have k0 : Below W.heap.size W (((W.alloc (wdO d)).alloc treeO).alloc cfgZ) := (two_al W _ _).trans ((below_alloc _ _).mono (by simp; omega))
  have k2 := below_alloc u1 o
  have on : ∀ {g : Nat} {x : Obj}, (((W.alloc (wdO d)).alloc treeO).alloc cfgZ).heap[g]? = some x → (u1.alloc o).heap[g]? = some x := fun {g x} h => (heap_alloc_old u1 _ (Nat.lt_of_lt_of_le (lt_of_block h) k.size)).trans ((k.block _ (lt_of_block h)).trans h)
  exact ⟨(k0.trans (k.mono k0.size)).trans (k2.mono (Nat.le_trans k0.size k.size)), on e1, on e2, on e3⟩
set_option maxRecDepth 100000 in
set_option maxHeartbeats 4000000 in
theorem after_no {d : Wd} (hc : d.C ≤ 9223372036854775807) (hc0 : -9223372036854775808 ≤ d.C) (hf : ¬ (7 ≤ d.C ∧ 0 ≤ d.B ∧ d.B + d.C ≤ 256)) : Calls Tryz.prog 5 #[wdV d] W fun e w' => e = .returned (.tuple #[.agg tZ, .pointer none, .agg cZ]) ∧ Below W.heap.size W w' := by
  have HMK : Hid (∀ u, _) := fun u => make_Z (w := u) hc hc0 hf
  have HFI : Hid (∀ u, _) := fun u => fits_no (b := d.B) (c := d.C) hc hc0 hf u
  obtain ⟨B, C, M, pn, ln, cn, pc, LL, cc⟩ := d
  simp only at *
  clear hc hc0 hf
  go_enter Tryz.func5, Tryz.ntmps5
  go_upto_region 2 with (go_at_call 9; refine (HMK.out _).mono ?_; rintro e u1 ⟨rfl, HQ⟩; have HQ := Lib.hid HQ)
  have HX := Lib.hid (bxz_new (d := ⟨B, C, M, pn, ln, cn, pc, LL, cc⟩) HQ.out (.cells tZ 31))
  have H5 := Lib.hid (heap_alloc_new u1 (.cells tZ 31))
  obtain ⟨u2, hu2⟩ : ∃ u2, u2 = u1.alloc (.cells tZ 31) := ⟨_, rfl⟩
  obtain ⟨g5, hg5⟩ : ∃ g5, u1.heap.size = g5 := ⟨_, rfl⟩
  rw [hg5] at H5 ⊢
  rw [← hu2] at HX H5 ⊢
  clear HQ hu2 hg5
  obtain ⟨y0, y1, y2, y3, y4, y5⟩ := cells5w HX.out.b1
  go_upto_region 4 with (go_at_call 13; refine (HFI.out _).mono ?_; rintro e v2 ⟨rfl, hw⟩; subst v2; clear HFI)
  go_wp2_with (first
    | (refine wpList_load_row rfl 31 _ rfl g5 rfl _ tZ _ _ H5.out Tryz.underlying31 rfl treeInfo ?_)
    | (refine wpList_store_row rfl 31 _ _ rfl (W.heap.size + 1) tZ rfl rfl _ _ HX.out.b2 treeInfo rfl tZ_one ?_)
    | (refine wpList_store_row rfl 34 _ _ rfl (W.heap.size + 2) cZ rfl rfl _ _ ((setRow_other _ _ _ _ (by omega)).trans HX.out.b4) cfgInfo rfl cZ_one ?_))
  have h2 := setRow_heap u2 (W.heap.size + 1) _ tZ _ _ HX.out.b2
  have h4 := (setRow_other u2 (W.heap.size + 1) (W.heap.size + 2) tZ (by omega)).trans HX.out.b4
  refine after_back rfl (W.heap.size + 1) (.pointer none) (W.heap.size + 2) rfl rfl rfl ((setRow_other _ _ _ cZ (by omega)).trans h2) rfl (setRow_heap _ _ _ cZ _ _ h4) rfl rfl ⟨rfl, ?_⟩
  have ks : ∀ (v : World) (g : Nat) (c : Array Value), W.heap.size ≤ g → Below W.heap.size v (v.setRow g c) := fun v g c hg => ⟨rfl, rfl, rfl, by simp, fun k hk => setRow_other v g k c (by omega)⟩
  exact (HX.out.bl.trans (ks _ _ _ (by omega))).trans (ks _ _ _ (by omega))
end
end Go.Proofs.YtdodhpfdldkbdabGreatDoor.Tr
namespace Go.Proofs.YtdodhpfdldkbdabGreatDoor.Tr
open Go.ChangeShapes Go.WideShapes Go.ChangeAt Go.RowKit Num Go.Maps As
open Go.ChangeMaps Go.MapKept
attribute [local go_sem] run_store_float frombits_run bits_run
structure Rx (F : List Nat) (w : World) (r : Option Addr × Nat × List Nat) : Prop where
  row : RowAt 57 w r.1 r.2.1 (fls r.2.2)
  sep : Sep (fpR r.1) F
theorem Rx.on {F : List Nat} {w w' : World} {r : Option Addr × Nat × List Nat} (h : Rx F w r) (k : Below w.heap.size w w') : Rx F w' r := ⟨h.row.on k, h.sep⟩
theorem Rx.turn {F : List Nat} {w w' : World} {r : Option Addr × Nat × List Nat} (h : Rx F w r) (k : Turn F F w w') : Rx F w' r := ⟨h.row.turn k h.sep, h.sep⟩
structure Lay where
  n0 : Nat
  g4 : Nat
  g6 : Nat
  q : Nat → Ptr
  b : Nat
  F : List Nat
  a : Int
  B : Nat
  R : Nat
  C : Nat
structure St (W : World) (d : Wd) (y : Lay) (rows : List (Option Addr × Nat × List Nat)) (L : Prs) (w : World) : Prop where
  b1 : w.heap[y.n0]? = some (wdO d)
  b4 : w.heap[y.g4]? = some (tO y.q)
  b6 : w.heap[y.g6]? = some (cfgO y.a 1 1024 8)
  tx : ∃ s, TW W w y.q y.b y.F s y.a y.B y.R y.C L
  rw_ : ∀ r ∈ rows, Rx y.F w r
section
variable {W w w' : World} {d : Wd} {y : Lay} {rows : List (Option Addr × Nat × List Nat)} {L L' : Prs}
theorem St.on (h : St W d y rows L w) (k : Below w.heap.size w w') : St W d y rows L w' := by
  obtain ⟨s, ht⟩ := h.tx
  exact ⟨(k.block _ (lt_of_block h.b1)).trans h.b1, (k.block _ (lt_of_block h.b4)).trans h.b4, (k.block _ (lt_of_block h.b6)).trans h.b6, ⟨s, ht.on k⟩, fun r hr => (h.rw_ r hr).on k⟩
theorem St.turn (h : St W d y rows L w) (t : Turn y.F y.F w w') (hx : ∃ s, TW W w' y.q y.b y.F s y.a y.B y.R y.C L') : St W d y rows L' w' := by
  obtain ⟨s, ht⟩ := h.tx
  exact ⟨ht.keep t h.b1 (by decide) (by decide), ht.keep t h.b4 (by decide) (by decide), ht.keep t h.b6 (by decide) (by decide), hx, fun r hr => (h.rw_ r hr).turn t⟩
theorem St.bl (h : St W d y rows L w) : Below W.heap.size W w := by obtain ⟨s, ht⟩ := h.tx; exact ht.bl
theorem St.sc (h : St W d y rows L w) : Sc y.g4 y.g6 y.a y.q w := sc_of2 h.b4 h.b6
theorem no_args (w : World) : FlAt w none [] := fun k hk => absurd hk (Nat.not_lt_zero k)
end
end Go.Proofs.YtdodhpfdldkbdabGreatDoor.Tr
namespace Go.Proofs.YtdodhpfdldkbdabGreatDoor.Tr
open Go.ChangeShapes Go.WideShapes Go.ChangeAt Go.RowKit Num Go.Maps As
open Go.ChangeMaps Go.MapKept
attribute [local go_sem] run_store_float frombits_run bits_run
theorem st_new {V u : World} {d : Wd} {n0 : Nat} {q : Nat → Ptr} {b : Nat} {F s : List Nat} {a : Int} {B R C : Nat} {L : Prs} (h : TW V u q b F s a B R C L) (hb : u.heap[n0]? = some (wdO d)) : St V d ⟨n0, u.heap.size, u.heap.size + 1, q, b, F, a, B, R, C⟩ [] L ((u.alloc (tO q)).alloc (cfgO a 1 1024 8)) := by
  have k := two_al u (tO q) (cfgO a 1 1024 8)
  have e := heap_alloc_new (u.alloc (tO q)) (cfgO a 1 1024 8)
  rw [World.size_alloc] at e
  exact ⟨(k.block _ (lt_of_block hb)).trans hb, (heap_alloc_old _ _ (by simp)).trans (heap_alloc_new u _), e, ⟨s, h.on k⟩, fun r hr => by cases hr⟩
theorem row_cap {w : World} {p : Option Addr} {c : Nat} {xs : List Value} (h : RowAt 57 w p c xs) : xs.length ≤ c ∧ c ≤ 9223372036854775807 := by
  rcases h.own.2 with ⟨q, h0⟩ | ⟨g, cap, cur, hv, hb, hg, hc, hm, _⟩
  · injection q with _ _ q3
    subst q3
    omega
  · injection hv with _ _ q3
    subst q3
    exact ⟨hc, hm⟩
theorem below_same {w w' : World} (h : Same w w') : Below w.heap.size w w' := h.below _
end Go.Proofs.YtdodhpfdldkbdabGreatDoor.Tr
namespace Go.Proofs.YtdodhpfdldkbdabGreatDoor.Tr
open Go.ChangeShapes Go.WideShapes Go.ChangeAt Go.RowKit Num Go.Maps As
open Go.ChangeMaps Go.MapKept
attribute [local go_sem] run_store_float frombits_run bits_run
def outK (k : Int) (L : Prs) (R : Nat) (l : List Nat) : List Nat := if 1 ≤ k ∧ k ≤ 7 then outS k L R (argF l 0) else []
def nxtK (k : Int) (L : Prs) (R : Nat) (l : List Nat) : Prs := if 1 ≤ k ∧ k ≤ 7 then nxtS k L R (argF l 0) (argF l 1) else L
section
variable {W V w w' : World} {q : Nat → Ptr} {b : Nat} {F s : List Nat} {a : Int} {B R cells : Nat} {L : Prs}
theorem TW.low (h : TW V w q b F s a B R cells L) (hT : Shaped5 W) (k : Below W.heap.size W V) : TW W w q b F s a B R cells L :=
  ⟨hT, k.trans (h.bl.mono k.size), h.ab.mono k.size, h.tr, h.cel, h.ok, h.has, h.lies⟩
theorem TW.other (h : TW W w q b F s a B R cells L) {c : Nat} {G x : List Nat} (hc : Sx.Cel 72 w c G x) (t : Turn G G w w') (hs : Sep F G) (hA : Abv W.heap.size G) : TW W w' q b F s a B R cells L :=
  ⟨h.sh, h.bl.trans (t.below hA h.bl.size), h.ab, h.tr.turn hc t, h.cel.turn t hs, h.ok, h.has, h.lies⟩
theorem St.low {d : Wd} {y : Lay} {rows : List (Option Addr × Nat × List Nat)} (h : St V d y rows L w) (hT : Shaped5 W) (k : Below W.heap.size W V) : St W d y rows L w := by
  obtain ⟨s, ht⟩ := h.tx
  exact ⟨h.b1, h.b4, h.b6, ⟨s, ht.low hT k⟩, h.rw_⟩
end
def Kep (w w' : World) : Prop := ∀ (g : Nat) (arr : Array Value) (T : TypeId), w.heap[g]? = some (.cells arr T) → (T == 72) = false → (T == 57) = false → w'.heap[g]? = some (.cells arr T)
structure Du (W : World) (d1 d2 : Wd) (y1 y2 : Lay) (rows : List (Option Addr × Nat × List Nat)) (L1 L2 : Prs) (w : World) : Prop where
  s1 : St W d1 y1 [] L1 w
  s2 : St W d2 y2 [] L2 w
  sep : Sep y1.F y2.F
  rw_ : ∀ r ∈ rows, r.2.2 = [] ∨ (Rx y1.F w r ∧ Rx y2.F w r)
section
variable {W w w' : World} {d1 d2 : Wd} {y1 y2 : Lay} {rows rows' : List (Option Addr × Nat × List Nat)} {L1 L2 : Prs}
theorem Du.symm (h : Du W d1 d2 y1 y2 rows L1 L2 w) : Du W d2 d1 y2 y1 rows L2 L1 w := ⟨h.s2, h.s1, h.sep.symm, fun r hr => (h.rw_ r hr).imp id fun q => ⟨q.2, q.1⟩⟩
theorem Du.on (h : Du W d1 d2 y1 y2 rows L1 L2 w) (k : Below w.heap.size w w') : Du W d1 d2 y1 y2 rows L1 L2 w' := ⟨h.s1.on k, h.s2.on k, h.sep, fun r hr => (h.rw_ r hr).imp id fun q => ⟨q.1.on k, q.2.on k⟩⟩
theorem Du.sub (h : Du W d1 d2 y1 y2 rows L1 L2 w) (k : ∀ r ∈ rows', r ∈ rows) : Du W d1 d2 y1 y2 rows' L1 L2 w := ⟨h.s1, h.s2, h.sep, fun r hr => h.rw_ r (k r hr)⟩
theorem Du.fl (h : Du W d1 d2 y1 y2 rows L1 L2 w) {r : Option Addr × Nat × List Nat} (hr : r ∈ rows) : FlAt w r.1 r.2.2 := by
  rcases h.rw_ r hr with e | e
  · rw [e]; exact fun k hk => absurd hk (Nat.not_lt_zero k)
  · exact row_fl e.1.row
theorem Du.cap (h : Du W d1 d2 y1 y2 rows L1 L2 w) {r : Option Addr × Nat × List Nat} (hr : r ∈ rows) : r.2.2.length ≤ 9223372036854775807 := by
  rcases h.rw_ r hr with e | e
  · rw [e]; exact Nat.zero_le _
  · have q := row_cap e.1.row
    rw [fls_len] at q
    omega
theorem Du.turn (h : Du W d1 d2 y1 y2 rows L1 L2 w) {L : Prs} (t : Turn y1.F y1.F w w') (hx : ∃ s, TW W w' y1.q y1.b y1.F s y1.a y1.B y1.R y1.C L) : Du W d1 d2 y1 y2 rows L L2 w' := by
  obtain ⟨s, ht⟩ := h.s1.tx
  obtain ⟨s2, ht2⟩ := h.s2.tx
  refine ⟨h.s1.turn t hx, ⟨ht.keep t h.s2.b1 (by decide) (by decide), ht.keep t h.s2.b4 (by decide) (by decide), ht.keep t h.s2.b6 (by decide) (by decide), ⟨s2, ht2.other ht.cel t h.sep.symm ht.ab⟩, fun r hr => by cases hr⟩, h.sep, fun r hr => (h.rw_ r hr).imp id fun q => ⟨q.1.turn t, q.2.row.turn t q.1.sep, q.2.sep⟩⟩
theorem Du.one (h : Du W d1 d2 y1 y2 rows L1 L2 w) (k : Int) {po : Option Addr} {n co : Nat} {l : List Nat} (hn : l.length = n) (h8 : n ≤ 8) (hl : ∀ x ∈ l, x < 18446744073709551616) (hL : FlAt w po l) :
    Calls Tryz.prog 6 #[cfgV y1.a 1 1024 8, treeA y1.q, .pointer (some ⟨y1.b, 0, none⟩), .int .i64 k, .slice po n co] w fun r w' => ∃ p m c, r = .returned (.slice p m c) ∧ Hid (m = (outK k L1 y1.R l).length ∧ Du W d1 d2 y1 y2 ((p, c, outK k L1 y1.R l) :: rows) (nxtK k L1 y1.R l) L2 w' ∧ Kep w w') := by
  obtain ⟨s, ht⟩ := h.s1.tx
  obtain ⟨s2, ht2⟩ := h.s2.tx
  by_cases hk : 1 ≤ k ∧ k ≤ 7
  · have eo : outK k L1 y1.R l = outS k L1 y1.R (argF l 0) := if_pos hk
    have en : nxtK k L1 y1.R l = nxtS k L1 y1.R (argF l 0) (argF l 1) := if_pos hk
    rw [eo, en]
    refine (runs_yes ht hk.1 hk.2 hn h8 hl hL).mono ?_
    rintro r w' ⟨p, n', c, rfl, hz⟩
    obtain ⟨m, z1, z2, z3, z4, z5, z6, z7, z8⟩ := hz.out
    have ho := z7.out
    rw [ho] at z2 z3
    have hs := h.turn z6 ⟨_, z5⟩
    refine ⟨p, _, c, rfl, z2, ⟨hs.s1, hs.s2, hs.sep, fun r hr => ?_⟩, fun g arr T hg e1 e2 => ht.keep z6 hg e1 e2⟩
    rcases List.mem_cons.1 hr with rfl | hr
    · exact .inr ⟨⟨z3, z4.sep ht.cel.blw⟩, ⟨z3, z4.sep ht2.cel.blw⟩⟩
    · exact hs.rw_ r hr
  · have eo : outK k L1 y1.R l = [] := if_neg hk
    have en : nxtK k L1 y1.R l = L1 := if_neg hk
    rw [eo, en]
    refine (runs_no ht hk hn h8 hl hL).mono ?_
    rintro r w' ⟨p, n', c, rfl, hz⟩
    obtain ⟨z1, z2, z3, z4⟩ := hz.out
    have hs := h.turn z4 ⟨_, z3⟩
    refine ⟨p, _, c, rfl, z1, ⟨hs.s1, hs.s2, hs.sep, fun r hr => ?_⟩, fun g arr T hg e1 e2 => ht.keep z4 hg e1 e2⟩
    rcases List.mem_cons.1 hr with rfl | hr
    · exact .inl rfl
    · exact hs.rw_ r hr
theorem Du.two (h : Du W d1 d2 y1 y2 rows L1 L2 w) (k : Int) {po : Option Addr} {n co : Nat} {l : List Nat} (hn : l.length = n) (h8 : n ≤ 8) (hl : ∀ x ∈ l, x < 18446744073709551616) (hL : FlAt w po l) :
    Calls Tryz.prog 6 #[cfgV y2.a 1 1024 8, treeA y2.q, .pointer (some ⟨y2.b, 0, none⟩), .int .i64 k, .slice po n co] w fun r w' => ∃ p m c, r = .returned (.slice p m c) ∧ Hid (m = (outK k L2 y2.R l).length ∧ Du W d1 d2 y1 y2 ((p, c, outK k L2 y2.R l) :: rows) L1 (nxtK k L2 y2.R l) w' ∧ Kep w w') := by
  refine (h.symm.one k hn h8 hl hL).mono ?_
  rintro r w' ⟨p, m, c, rfl, hz⟩
  exact ⟨p, m, c, rfl, hz.out.1, hz.out.2.1.symm, hz.out.2.2⟩
theorem Du.new (h1 : St W d1 y1 [] L1 w) (h2 : St W d2 y2 [] L2 w) (hs : Sep y1.F y2.F) : Du W d1 d2 y1 y2 [] L1 L2 w := ⟨h1, h2, hs, fun r hr => by cases hr⟩
theorem Du.bl (h : Du W d1 d2 y1 y2 rows L1 L2 w) : Below W.heap.size W w := h.s1.bl
theorem Du.sc (h : Du W d1 d2 y1 y2 rows L1 L2 w) : Sc y1.g4 y1.g6 y1.a y1.q w ∧ Sc y2.g4 y2.g6 y2.a y2.q w := ⟨h.s1.sc, h.s2.sc⟩
end
theorem du_new {W v1 u2 u3 : World} {d1 d2 : Wd} {q1 q2 : Nat → Ptr} {b1 b2 n1 n2 : Nat} {F1 s1 F2 s2 : List Nat} {a1 a2 : Int} {B1 R1 C1 B2 R2 C2 : Nat} {L1 L2 : Prs} (hT : Shaped5 W) (hk : Below W.heap.size W v1) (h1 : TW v1 u2 q1 b1 F1 s1 a1 B1 R1 C1 L1) (e1 : v1.heap[n1]? = some (wdO d1)) (e2 : v1.heap[n2]? = some (wdO d2)) (h2 : TW ((u2.alloc (tO q1)).alloc (cfgO a1 1 1024 8)) u3 q2 b2 F2 s2 a2 B2 R2 C2 L2) :
    Du W d1 d2 ⟨n1, u2.heap.size, u2.heap.size + 1, q1, b1, F1, a1, B1, R1, C1⟩ ⟨n2, u3.heap.size, u3.heap.size + 1, q2, b2, F2, a2, B2, R2, C2⟩ [] L1 L2 ((u3.alloc (tO q2)).alloc (cfgO a2 1 1024 8)) := by
  have k1 := two_al u2 (tO q1) (cfgO a1 1 1024 8)
  have f1 := (h1.bl.block _ (lt_of_block e1)).trans e1
  have f2 := (h1.bl.block _ (lt_of_block e2)).trans e2
  have t1 := st_new h1 f1
  have kw : Below W.heap.size W ((u2.alloc (tO q1)).alloc (cfgO a1 1 1024 8)) := (hk.trans (h1.bl.mono hk.size)).trans (k1.mono (Nat.le_trans hk.size h1.bl.size))
  have g2 := (h2.bl.block _ (lt_of_block ((k1.block _ (lt_of_block f2)).trans f2))).trans ((k1.block _ (lt_of_block f2)).trans f2)
  have t2 := st_new h2 g2
  exact .new (((t1.low hT hk).on h2.bl).on (two_al u3 _ _)) (t2.low hT kw) (h2.ab.sep (h1.cel.on k1).blw).symm
end Go.Proofs.YtdodhpfdldkbdabGreatDoor.Tr
namespace Go.Proofs.YtdodhpfdldkbdabGreatDoor.Tr
open Go.ChangeShapes Go.WideShapes Go.ChangeAt Go.RowKit Num Go.Maps As
open Go.ChangeMaps Go.MapKept
attribute [local go_sem] run_store_float frombits_run bits_run
theorem op_cells {u : World} {g : Nat} {c : Cal} (h : u.heap[g]? = some (opO c)) : u.cell? ⟨g, 0, none⟩ = some (.int .i64 c.k) ∧ u.cell? ⟨g, 2, none⟩ = some (.slice c.p c.l.length c.c) := ⟨(cell_of_row _ _ _ _ _ _ h).trans rfl, (cell_of_row _ _ _ _ _ _ h).trans rfl⟩
theorem end_two {W v1 u2 u3 : World} {a b c d : Obj} (h : Below W.heap.size W v1) (k2 : Below v1.heap.size v1 u2) (k3 : Below ((u2.alloc a).alloc b).heap.size ((u2.alloc a).alloc b) u3) : Below W.heap.size W ((u3.alloc c).alloc d) := by
  have e1 := h.trans (k2.mono h.size)
  have e2 := e1.trans ((two_al u2 a b).mono e1.size)
  have e3 := e2.trans (k3.mono e2.size)
  exact e3.trans ((two_al u3 c d).mono e3.size)
structure Dc (W : World) (d1 d2 : Wd) (y1 y2 : Lay) (rows : List (Option Addr × Nat × List Nat)) (L1 L2 : Prs) (g : Nat) (c : Cal) (w : World) : Prop where
  du : Du W d1 d2 y1 y2 rows L1 L2 w
  op : w.heap[g]? = some (opO c)
theorem Dc.on {W w w' : World} {d1 d2 : Wd} {y1 y2 : Lay} {rows : List (Option Addr × Nat × List Nat)} {L1 L2 : Prs} {g : Nat} {c : Cal} (h : Dc W d1 d2 y1 y2 rows L1 L2 g c w) (k : Below w.heap.size w w') : Dc W d1 d2 y1 y2 rows L1 L2 g c w' := ⟨h.du.on k, (k.block _ (lt_of_block h.op)).trans h.op⟩
theorem Dc.sc {W w : World} {d1 d2 : Wd} {y1 y2 : Lay} {rows : List (Option Addr × Nat × List Nat)} {L1 L2 : Prs} {g : Nat} {c : Cal} (h : Dc W d1 d2 y1 y2 rows L1 L2 g c w) : (Sc y1.g4 y1.g6 y1.a y1.q w ∧ Sc y2.g4 y2.g6 y2.a y2.q w) ∧ w.cell? ⟨g, 0, none⟩ = some (.int .i64 c.k) ∧ w.cell? ⟨g, 2, none⟩ = some (.slice c.p c.l.length c.c) := ⟨h.du.sc, op_cells h.op⟩
section
variable {W : World}
set_option maxRecDepth 100000 in
set_option maxHeartbeats 2000000 in
theorem moves_any (hT : Shaped5 W) {d : Wd} (hd : WdIn W d) {z : Int} (hz : -9223372036854775808 ≤ z ∧ z ≤ 9223372036854775807) : Calls Tryz.prog 3 #[wdV d, .int .i64 z] W fun e w' => e = .returned (.bool true) ∧ Below W.heap.size W w' := by
  have HLV : Hid (∀ u, Below W.heap.size W u → _) := fun u hu => live_any (hT.on hu)
  have HTW := Lib.hid hT
  have HDW := Lib.hid hd
  by_cases hf : 7 ≤ d.C ∧ 0 ≤ d.B ∧ d.B + d.C ≤ 256
  · by_cases hg : 0 ≤ z ∧ z + d.C ≤ 256
    · have HAF : Hid (∀ u, Below W.heap.size W u → _) := fun u hu => after_yes (hT.on hu) (hd.on hu) hf.1 hf.2.1 hf.2.2
      have HAG : Hid (∀ u, Below W.heap.size W u → _) := fun u hu => after_yes (d := { d with B := z }) (hT.on hu) ⟨hz, hd.C, hd.M, hd.lx, hd.ll, hd.nz.on hu, hd.cx, hd.cl, hd.cs.on hu⟩ hf.1 hg.1 hg.2
      have HX : Hid (∀ u, Below (W.alloc (wdO d)).heap.size (W.alloc (wdO d)) u → Below W.heap.size W u ∧ u.heap[W.heap.size]? = some (wdO d)) := fun u k => ⟨(below_alloc W _).trans (k.mono (by simp)), (k.block _ (by simp)).trans (heap_alloc_new W _)⟩
      obtain ⟨B, C, M, pn, ln, cn, pc, LL, cc⟩ := d
      simp only at *
      clear hf hg hd hT hz
      go_enter Tryz.func3, Tryz.ntmps3
      go_upto_region 4 with (first
        | (go_at_call 4; refine (HLV.out _ (below_alloc W _)).mono ?_; rintro e u1 ⟨rfl, k1⟩; have K1 := Lib.hid k1; obtain ⟨y0, y1, y2, y3, y4, y5⟩ := cells5w (HX.out _ k1).2; clear k1 HLV))
      have HV : Hid (∀ u, Below (u1.alloc (wdO ⟨z, C, M, pn, ln, cn, pc, LL, cc⟩)).heap.size (u1.alloc (wdO ⟨z, C, M, pn, ln, cn, pc, LL, cc⟩)) u → Below W.heap.size W u ∧ u.heap[W.heap.size]? = some (wdO ⟨B, C, M, pn, ln, cn, pc, LL, cc⟩) ∧ u.heap[u1.heap.size]? = some (wdO ⟨z, C, M, pn, ln, cn, pc, LL, cc⟩)) := fun u k => by
        have e := HX.out _ K1.out
        have ka := below_alloc u1 (wdO ⟨z, C, M, pn, ln, cn, pc, LL, cc⟩)
        have kb := ka.trans (k.mono ka.size)
        exact ⟨e.1.trans (kb.mono e.1.size), (kb.block _ (lt_of_block e.2)).trans e.2, (k.block _ (lt_of_block (heap_alloc_new u1 _))).trans (heap_alloc_new u1 _)⟩
      obtain ⟨v1, hv1⟩ : ∃ v1, v1 = u1.alloc (wdO ⟨z, C, M, pn, ln, cn, pc, LL, cc⟩) := ⟨_, rfl⟩
      obtain ⟨n6, hn6⟩ : ∃ n6, u1.heap.size = n6 := ⟨_, rfl⟩
      rw [hn6] at HV ⊢
      rw [← hv1] at HV ⊢
      clear hv1 hn6 y0 y1 y2 y3 y4 y5 K1
      obtain ⟨y0, y1, y2, y3, y4, y5⟩ := cells5w (HV.out _ (Below.refl _ _)).2.1
      go_upto_region 8 with (first
        | (have x1q := Y1.out; go_at_call 5; clear x1q; refine (HAG.out _ (((HV.out _ (Below.refl _ _)).1.trans (Y1.out.mono (HV.out _ (Below.refl _ _)).1.size)).trans ((two_al _ _ _).mono (Nat.le_trans (HV.out _ (Below.refl _ _)).1.size Y1.out.size)))).mono ?_; rintro e u3 ⟨q2, b2, a2, rfl, HZ2⟩; clear HAG)
        | (go_at_call 5; refine (HAF.out _ (HV.out _ (Below.refl _ _)).1).mono ?_; rintro e u2 ⟨q1, b1, a1, rfl, HZ1⟩; have Y1 := Lib.hid (have ⟨_, _, h⟩ := HZ1.out; h.bl); clear HAF y0 y1 y2 y3 y4 y5; obtain ⟨y0, y1, y2, y3, y4, y5⟩ := cells5w (HV.out _ Y1.out).2.2))
      obtain ⟨F1, s1, hz1⟩ := HZ1.out
      obtain ⟨F2, s2, hz2⟩ := HZ2.out
      have HD := Lib.hid (du_new HTW.out (HV.out _ (Below.refl _ _)).1 hz1 (HV.out _ (Below.refl _ _)).2.1 (HV.out _ (Below.refl _ _)).2.2 hz2)
      clear hz1 hz2 HZ1 HZ2 Y1 y0 y1 y2 y3 y4 y5 HX
      generalize foldC _ LL = L at HD
      obtain ⟨v0, hv0⟩ : ∃ v0, v0 = (u3.alloc (tO q2)).alloc (cfgO a2 1 1024 8) := ⟨_, rfl⟩
      rw [← hv0] at HD ⊢
      obtain ⟨g12, hg12⟩ : ∃ g, u3.heap.size + 1 = g := ⟨_, rfl⟩
      rw [hg12] at HD ⊢
      obtain ⟨g10, hg10⟩ : ∃ g, u3.heap.size = g := ⟨_, rfl⟩
      rw [hg10] at HD ⊢
      obtain ⟨g9, hg9⟩ : ∃ g, u2.heap.size + 1 = g := ⟨_, rfl⟩
      rw [hg9] at HD ⊢
      obtain ⟨g7, hg7⟩ : ∃ g, u2.heap.size = g := ⟨_, rfl⟩
      rw [hg7] at HD ⊢
      clear hv0 hg12 hg10 hg9 hg7 HV
      go_wp2_with fail
      go_loopw [13] (fun v13 wr => ∃ i : Nat, v13 = .int .i64 i ∧ i ≤ 8 ∧ Hid (∃ L, Du W ⟨B, C, M, pn, ln, cn, pc, LL, cc⟩ ⟨z, C, M, pn, ln, cn, pc, LL, cc⟩ ⟨W.heap.size, g7, g9, q1, b1, F1, a1, B.toNat, (roomV C).toNat, C.toNat⟩ ⟨n6, g10, g12, q2, b2, F2, a2, z.toNat, (roomV C).toNat, C.toNat⟩ [] L L wr)) (fun v13 _ => (8 - intOf v13).toNat)
      case atStart => exact ⟨0, rfl, Nat.zero_le _, L, HD.out⟩
      case round =>
        obtain ⟨i, rfl, hi, HR⟩ := hrel
        clear HD
        obtain ⟨L, hr⟩ := HR.out
        have HD := Lib.hid hr
        clear hr HR
        have hll := HDW.out.cl
        simp only at hll
        obtain ⟨y0, y1, y2, y3, y4, y5⟩ := cells5w HD.out.s1.b1
        have hcase : (i < LL.length ∧ i < 8 ∧ (i : Int) < (LL.length : Int) ∧ (i : Int) < 8) ∨ (i < LL.length ∧ ¬ (i : Int) < 8 ∧ (i : Int) < (LL.length : Int)) ∨ ¬ (i : Int) < (LL.length : Int) := by omega
        rcases hcase with ⟨h1, h2, h3, h4⟩ | ⟨h1, h2, h3⟩ | h3
        · have xb : BtAt W (LL.getD i cal0).p (LL.getD i cal0).l := by obtain ⟨_, _, _, _, _, _, _, xb⟩ := HDW.out.cs i h1; exact xb
          obtain ⟨g, o, rfl, hgg, x0, x1, x2, _⟩ := ((HDW.out.on HD.out.bl).cs) i h1
          have hcx := HDW.out.cx (LL.getD i cal0) (by rw [List.getD_eq_getElem?_getD, List.getElem?_eq_getElem h1]; exact List.getElem_mem h1)
          obtain ⟨c, hc⟩ : ∃ c, LL.getD i cal0 = c := ⟨_, rfl⟩
          rw [hc] at x0 x1 x2 xb hcx
          have HXB := Lib.hid xb
          have HCC := Lib.hid hcx
          clear xb hcx hc h1 h2
          go_upto_region 12 with fail
          have ka := below_alloc wr (opO c)
          have hop := heap_alloc_new wr (opO c)
          obtain ⟨gw, hgw⟩ : ∃ gw, wr.heap.size = gw := ⟨_, rfl⟩
          have HE := Lib.hid (Dc.mk (HD.out.on ka) (by rw [← hgw]; exact hop) : Dc _ _ _ _ _ _ _ _ gw c _)
          rw [hgw]
          obtain ⟨v2, hv2⟩ : ∃ v2, v2 = wr.alloc (opO c) := ⟨_, rfl⟩
          rw [← hv2] at HE ⊢
          replace HE := Lib.hid (HE.out.on ((Same.drew v2).below _))
          clear hop ka hgw hv2 x0 x1 x2
          refine wp_region_seq (fun u => (Sc g7 g9 a1 q1 u ∧ Sc g10 g12 a2 q2 u) ∧ u.cell? ⟨gw, 0, none⟩ = some (.int .i64 c.k) ∧ u.cell? ⟨gw, 2, none⟩ = some (.slice c.p c.l.length c.c)) ((0, true) :: (1, true) :: (2, true) :: (3, true) :: (4, true) :: (5, true) :: (6, true) :: (7, false) :: (8, false) :: (9, true) :: []) follows (by kernel_rfl) (fun _ _ _ _ _ h => h) HE.out.sc ?_
          (repeat ((first | (refine wpSeq_take (v := ?_) rfl (by rfl) (fun wq hSq => ?_) ?_; rotate_left; (focus ((try dsimp only at hSq); go_simp; try with_reducible rfl))) | refine wpSeq_skip rfl (by rfl) ?_); simp only [Act.put, List.setIfInBounds_toArray, List.set_cons_zero, List.set_cons_succ]))
          (refine wpSeq_do rfl (by rfl) (fun KK hK => ?_); go_simp)
          refine (floats_any rfl (HXB.out.on HE.out.du.bl) HCC.out.2).mono ?_
          rintro e v3 ⟨p3, n3, c3, rfl, HF⟩
          have HE2 := Lib.hid (HE.out.on HF.out.2.2.2)
          clear HE
          refine hK.out _ _ HE2.out.sc ?_
          (clear hK KK; try simp only [Act.put, List.setIfInBounds_toArray, List.set_cons_zero, List.set_cons_succ])
          (repeat ((first | (refine wpSeq_take (v := ?_) rfl (by rfl) (fun wq hSq => ?_) ?_; rotate_left; (focus ((try dsimp only at hSq); go_simp; try with_reducible rfl))) | refine wpSeq_skip rfl (by rfl) ?_); simp only [Act.put, List.setIfInBounds_toArray, List.set_cons_zero, List.set_cons_succ]))
          (refine wpSeq_do rfl (by rfl) (fun KK hK => ?_); go_simp)
          refine (HE2.out.du.one c.k (by rw [HF.out.1, List.length_take]) (by rw [HF.out.1]; omega) (fun x hx => HCC.out.1 x (List.mem_of_mem_take hx)) (row_fl HF.out.2.1)).mono ?_
          rintro e v4 ⟨p4, m4, c4, rfl, H4⟩
          have HE3 := Lib.hid (Dc.mk H4.out.2.1 (H4.out.2.2 _ _ _ HE2.out.op (by decide) (by decide)) : Dc _ _ _ _ _ _ _ _ gw c _)
          refine hK.out _ _ HE3.out.sc ?_
          (clear hK KK; try simp only [Act.put, List.setIfInBounds_toArray, List.set_cons_zero, List.set_cons_succ])
          (repeat ((first | (refine wpSeq_take (v := ?_) rfl (by rfl) (fun wq hSq => ?_) ?_; rotate_left; (focus ((try dsimp only at hSq); go_simp; try with_reducible rfl))) | refine wpSeq_skip rfl (by rfl) ?_); simp only [Act.put, List.setIfInBounds_toArray, List.set_cons_zero, List.set_cons_succ]))
          refine wpSeq_nil ?_
          clear HE2 HF
          go_upto_region 13 with fail
          replace HE3 := Lib.hid (HE3.out.on ((Same.drew v4).below _))
          refine wp_region_seq (fun u => (Sc g7 g9 a1 q1 u ∧ Sc g10 g12 a2 q2 u) ∧ u.cell? ⟨gw, 0, none⟩ = some (.int .i64 c.k) ∧ u.cell? ⟨gw, 2, none⟩ = some (.slice c.p c.l.length c.c)) ((0, true) :: (1, true) :: (2, true) :: (3, true) :: (4, true) :: (5, true) :: (6, true) :: (7, false) :: (8, false) :: (9, true) :: []) follows (by kernel_rfl) (fun _ _ _ _ _ h => h) HE3.out.sc ?_
          (repeat ((first | (refine wpSeq_take (v := ?_) rfl (by rfl) (fun wq hSq => ?_) ?_; rotate_left; (focus ((try dsimp only at hSq); go_simp; try with_reducible rfl))) | refine wpSeq_skip rfl (by rfl) ?_); simp only [Act.put, List.setIfInBounds_toArray, List.set_cons_zero, List.set_cons_succ]))
          (refine wpSeq_do rfl (by rfl) (fun KK hK => ?_); go_simp)
          refine (floats_any rfl (HXB.out.on HE3.out.du.bl) HCC.out.2).mono ?_
          rintro e v5 ⟨p5, n5, c5, rfl, HG⟩
          have HE5 := Lib.hid (HE3.out.on HG.out.2.2.2)
          clear HE3
          refine hK.out _ _ HE5.out.sc ?_
          (clear hK KK; try simp only [Act.put, List.setIfInBounds_toArray, List.set_cons_zero, List.set_cons_succ])
          (repeat ((first | (refine wpSeq_take (v := ?_) rfl (by rfl) (fun wq hSq => ?_) ?_; rotate_left; (focus ((try dsimp only at hSq); go_simp; try with_reducible rfl))) | refine wpSeq_skip rfl (by rfl) ?_); simp only [Act.put, List.setIfInBounds_toArray, List.set_cons_zero, List.set_cons_succ]))
          (refine wpSeq_do rfl (by rfl) (fun KK hK => ?_); go_simp)
          refine (HE5.out.du.two c.k (by rw [HG.out.1, List.length_take]) (by rw [HG.out.1]; omega) (fun x hx => HCC.out.1 x (List.mem_of_mem_take hx)) (row_fl HG.out.2.1)).mono ?_
          rintro e v6 ⟨p6, m6, c6, rfl, H6⟩
          obtain rfl : m6 = m4 := H6.out.1.trans H4.out.1.symm
          have HE6 := Lib.hid (Dc.mk H6.out.2.1 (H6.out.2.2 _ _ _ HE5.out.op (by decide) (by decide)) : Dc _ _ _ _ _ _ _ _ gw c _)
          refine hK.out _ _ HE6.out.sc ?_
          (clear hK KK; try simp only [Act.put, List.setIfInBounds_toArray, List.set_cons_zero, List.set_cons_succ])
          (repeat ((first | (refine wpSeq_take (v := ?_) rfl (by rfl) (fun wq hSq => ?_) ?_; rotate_left; (focus ((try dsimp only at hSq); go_simp; try with_reducible rfl))) | refine wpSeq_skip rfl (by rfl) ?_); simp only [Act.put, List.setIfInBounds_toArray, List.set_cons_zero, List.set_cons_succ]))
          refine wpSeq_nil ?_
          clear HE5 HG
          go_wp2_with (go_at_call 8; refine (exact_any (l := outK c.k L (roomV C).toNat (c.l.take 8)) H4.out.1.symm (by rw [H4.out.1]; exact H4.out.2.1.cap (List.mem_cons_self ..)) (HE6.out.du.fl (r := (p4, c4, outK c.k L (roomV C).toNat (c.l.take 8))) (by simp)) (HE6.out.du.fl (r := (p6, c6, outK c.k L (roomV C).toNat (c.l.take 8))) (by simp))).mono ?_; rintro e v7 ⟨rfl, q7⟩; have H7 := Lib.hid ((HE6.out.du.sub (rows' := []) (by simp)).on (below_same q7)); clear q7)
          exact ⟨⟨i + 1, by first | rfl | (congr 1), by omega, _, H7.out⟩, by simp [intOf]; omega⟩
        · clear y0 y1 y2 y3 y5
          go_upto_region 16 with fail
          clear h1 h2 h3 y4
          have HE := Lib.hid (Du.on HD.out ((Same.drew wr).below _))
          have HEX := Lib.hid (HE.out.bl)
          clear HD
          refine wp_region_seq (fun u => Sc g7 g9 a1 q1 u ∧ Sc g10 g12 a2 q2 u) ((0, true) :: (1, true) :: (2, true) :: (3, true) :: (4, true) :: (6, true) :: (7, true) :: (8, true) :: (5, false) :: (9, false) :: (10, false) :: (11, true) :: (12, true) :: []) follows (by kernel_rfl) (fun _ _ _ _ _ h => h) HE.out.sc ?_
          (repeat ((first | (refine wpSeq_take (v := ?_) rfl (by rfl) (fun wq hSq => ?_) ?_; rotate_left; (focus ((try dsimp only at hSq); go_simp; try with_reducible rfl))) | refine wpSeq_skip rfl (by rfl) ?_); simp only [Act.put, List.setIfInBounds_toArray, List.set_cons_zero, List.set_cons_succ]))
          (refine wpSeq_do rfl (by rfl) (fun KK hK => ?_); go_simp)
          refine (HE.out.one 7 (l := []) rfl (by decide) (fun x hx => by cases hx) (no_args _)).mono ?_
          rintro e w1 ⟨p1, m1, c1, rfl, H1⟩
          refine hK.out _ _ H1.out.2.1.sc ?_
          (clear hK KK; try simp only [Act.put, List.setIfInBounds_toArray, List.set_cons_zero, List.set_cons_succ])
          (repeat ((first | (refine wpSeq_take (v := ?_) rfl (by rfl) (fun wq hSq => ?_) ?_; rotate_left; (focus ((try dsimp only at hSq); go_simp; try with_reducible rfl))) | refine wpSeq_skip rfl (by rfl) ?_); simp only [Act.put, List.setIfInBounds_toArray, List.set_cons_zero, List.set_cons_succ]))
          (refine wpSeq_do rfl (by rfl) (fun KK hK => ?_); go_simp)
          refine (H1.out.2.1.two 7 (l := []) rfl (by decide) (fun x hx => by cases hx) (no_args _)).mono ?_
          rintro e w2 ⟨p2, m2, c2, rfl, H2⟩
          obtain rfl : m2 = m1 := H2.out.1.trans H1.out.1.symm
          refine hK.out _ _ H2.out.2.1.sc ?_
          (clear hK KK; try simp only [Act.put, List.setIfInBounds_toArray, List.set_cons_zero, List.set_cons_succ])
          (repeat ((first | (refine wpSeq_take (v := ?_) rfl (by rfl) (fun wq hSq => ?_) ?_; rotate_left; (focus ((try dsimp only at hSq); go_simp; try with_reducible rfl))) | refine wpSeq_skip rfl (by rfl) ?_); simp only [Act.put, List.setIfInBounds_toArray, List.set_cons_zero, List.set_cons_succ]))
          (refine wpSeq_do rfl (by rfl) (fun KK hK => ?_); go_simp)
          refine (exact_any (l := outK 7 L (roomV C).toNat []) H1.out.1.symm (by rw [H1.out.1]; exact H1.out.2.1.cap (List.mem_cons_self ..)) (H2.out.2.1.fl (r := (p1, c1, outK 7 L (roomV C).toNat [])) (by simp)) (H2.out.2.1.fl (r := (p2, c2, outK 7 L (roomV C).toNat [])) (by simp))).mono ?_
          rintro e w3 ⟨rfl, q3⟩
          have H3 := Lib.hid (H2.out.2.1.on (below_same q3))
          refine hK.out _ _ H3.out.sc ?_
          (clear hK KK; try simp only [Act.put, List.setIfInBounds_toArray, List.set_cons_zero, List.set_cons_succ])
          (repeat ((first | (refine wpSeq_take (v := ?_) rfl (by rfl) (fun wq hSq => ?_) ?_; rotate_left; (focus ((try dsimp only at hSq); go_simp; try with_reducible rfl))) | refine wpSeq_skip rfl (by rfl) ?_); simp only [Act.put, List.setIfInBounds_toArray, List.set_cons_zero, List.set_cons_succ]))
          refine wpSeq_nil ?_
          go_wp2_with fail
          go_ret
          exact ⟨rfl, H3.out.bl⟩
        · clear y0 y1 y2 y3 y5
          go_upto_region 16 with fail
          clear h3 y4
          have HE := Lib.hid (Du.on HD.out ((Same.drew wr).below _))
          have HEX := Lib.hid (HE.out.bl)
          clear HD
          refine wp_region_seq (fun u => Sc g7 g9 a1 q1 u ∧ Sc g10 g12 a2 q2 u) ((0, true) :: (1, true) :: (2, true) :: (3, true) :: (4, true) :: (6, true) :: (7, true) :: (8, true) :: (5, false) :: (9, false) :: (10, false) :: (11, true) :: (12, true) :: []) follows (by kernel_rfl) (fun _ _ _ _ _ h => h) HE.out.sc ?_
          (repeat ((first | (refine wpSeq_take (v := ?_) rfl (by rfl) (fun wq hSq => ?_) ?_; rotate_left; (focus ((try dsimp only at hSq); go_simp; try with_reducible rfl))) | refine wpSeq_skip rfl (by rfl) ?_); simp only [Act.put, List.setIfInBounds_toArray, List.set_cons_zero, List.set_cons_succ]))
          (refine wpSeq_do rfl (by rfl) (fun KK hK => ?_); go_simp)
          refine (HE.out.one 7 (l := []) rfl (by decide) (fun x hx => by cases hx) (no_args _)).mono ?_
          rintro e w1 ⟨p1, m1, c1, rfl, H1⟩
          refine hK.out _ _ H1.out.2.1.sc ?_
          (clear hK KK; try simp only [Act.put, List.setIfInBounds_toArray, List.set_cons_zero, List.set_cons_succ])
          (repeat ((first | (refine wpSeq_take (v := ?_) rfl (by rfl) (fun wq hSq => ?_) ?_; rotate_left; (focus ((try dsimp only at hSq); go_simp; try with_reducible rfl))) | refine wpSeq_skip rfl (by rfl) ?_); simp only [Act.put, List.setIfInBounds_toArray, List.set_cons_zero, List.set_cons_succ]))
          (refine wpSeq_do rfl (by rfl) (fun KK hK => ?_); go_simp)
          refine (H1.out.2.1.two 7 (l := []) rfl (by decide) (fun x hx => by cases hx) (no_args _)).mono ?_
          rintro e w2 ⟨p2, m2, c2, rfl, H2⟩
          obtain rfl : m2 = m1 := H2.out.1.trans H1.out.1.symm
          refine hK.out _ _ H2.out.2.1.sc ?_
          (clear hK KK; try simp only [Act.put, List.setIfInBounds_toArray, List.set_cons_zero, List.set_cons_succ])
          (repeat ((first | (refine wpSeq_take (v := ?_) rfl (by rfl) (fun wq hSq => ?_) ?_; rotate_left; (focus ((try dsimp only at hSq); go_simp; try with_reducible rfl))) | refine wpSeq_skip rfl (by rfl) ?_); simp only [Act.put, List.setIfInBounds_toArray, List.set_cons_zero, List.set_cons_succ]))
          (refine wpSeq_do rfl (by rfl) (fun KK hK => ?_); go_simp)
          refine (exact_any (l := outK 7 L (roomV C).toNat []) H1.out.1.symm (by rw [H1.out.1]; exact H1.out.2.1.cap (List.mem_cons_self ..)) (H2.out.2.1.fl (r := (p1, c1, outK 7 L (roomV C).toNat [])) (by simp)) (H2.out.2.1.fl (r := (p2, c2, outK 7 L (roomV C).toNat [])) (by simp))).mono ?_
          rintro e w3 ⟨rfl, q3⟩
          have H3 := Lib.hid (H2.out.2.1.on (below_same q3))
          refine hK.out _ _ H3.out.sc ?_
          (clear hK KK; try simp only [Act.put, List.setIfInBounds_toArray, List.set_cons_zero, List.set_cons_succ])
          (repeat ((first | (refine wpSeq_take (v := ?_) rfl (by rfl) (fun wq hSq => ?_) ?_; rotate_left; (focus ((try dsimp only at hSq); go_simp; try with_reducible rfl))) | refine wpSeq_skip rfl (by rfl) ?_); simp only [Act.put, List.setIfInBounds_toArray, List.set_cons_zero, List.set_cons_succ]))
          refine wpSeq_nil ?_
          go_wp2_with fail
          go_ret
          exact ⟨rfl, H3.out.bl⟩
    · have HAF : Hid (∀ u, Below W.heap.size W u → _) := fun u hu => after_yes (hT.on hu) (hd.on hu) hf.1 hf.2.1 hf.2.2
      have HAG : Hid (∀ u, _) := fun u => after_no (d := { d with B := z }) (W := u) hd.C.2 hd.C.1 (fun q => hg q.2)
      have HX : Hid (∀ u, Below (W.alloc (wdO d)).heap.size (W.alloc (wdO d)) u → Below W.heap.size W u ∧ u.heap[W.heap.size]? = some (wdO d)) := fun u k => ⟨(below_alloc W _).trans (k.mono (by simp)), (k.block _ (by simp)).trans (heap_alloc_new W _)⟩
      obtain ⟨B, C, M, pn, ln, cn, pc, LL, cc⟩ := d
      simp only at *
      clear hf hg hd hT hz
      go_enter Tryz.func3, Tryz.ntmps3
      go_upto_region 4 with (first
        | (go_at_call 4; refine (HLV.out _ (below_alloc W _)).mono ?_; rintro e u1 ⟨rfl, k1⟩; have K1 := Lib.hid k1; obtain ⟨y0, y1, y2, y3, y4, y5⟩ := cells5w (HX.out _ k1).2; clear k1 HLV))
      have HV : Hid (∀ u, Below (u1.alloc (wdO ⟨z, C, M, pn, ln, cn, pc, LL, cc⟩)).heap.size (u1.alloc (wdO ⟨z, C, M, pn, ln, cn, pc, LL, cc⟩)) u → Below W.heap.size W u ∧ u.heap[W.heap.size]? = some (wdO ⟨B, C, M, pn, ln, cn, pc, LL, cc⟩) ∧ u.heap[u1.heap.size]? = some (wdO ⟨z, C, M, pn, ln, cn, pc, LL, cc⟩)) := fun u k => by
        have e := HX.out _ K1.out
        have ka := below_alloc u1 (wdO ⟨z, C, M, pn, ln, cn, pc, LL, cc⟩)
        have kb := ka.trans (k.mono ka.size)
        exact ⟨e.1.trans (kb.mono e.1.size), (kb.block _ (lt_of_block e.2)).trans e.2, (k.block _ (lt_of_block (heap_alloc_new u1 _))).trans (heap_alloc_new u1 _)⟩
      obtain ⟨v1, hv1⟩ : ∃ v1, v1 = u1.alloc (wdO ⟨z, C, M, pn, ln, cn, pc, LL, cc⟩) := ⟨_, rfl⟩
      obtain ⟨n6, hn6⟩ : ∃ n6, u1.heap.size = n6 := ⟨_, rfl⟩
      rw [hn6] at HV ⊢
      rw [← hv1] at HV ⊢
      clear hv1 hn6 y0 y1 y2 y3 y4 y5 K1
      obtain ⟨y0, y1, y2, y3, y4, y5⟩ := cells5w (HV.out _ (Below.refl _ _)).2.1
      go_wp2_with (first
        | (have x1q := Y1.out; go_at_call 5; clear x1q; refine (HAG.out _).mono ?_; rintro e u3 ⟨rfl, k3⟩; have K3 := Lib.hid k3; clear HAG k3)
        | (go_at_call 5; refine (HAF.out _ (HV.out _ (Below.refl _ _)).1).mono ?_; rintro e u2 ⟨q1, b1, a1, rfl, HZ1⟩; have Y1 := Lib.hid (have ⟨_, _, h⟩ := HZ1.out; h.bl); clear HAF y0 y1 y2 y3 y4 y5; obtain ⟨y0, y1, y2, y3, y4, y5⟩ := cells5w (HV.out _ Y1.out).2.2))
      go_ret
      exact ⟨rfl, end_two (HV.out _ (Below.refl _ _)).1 Y1.out K3.out⟩
  · have HAF : Hid (∀ u, _) := fun u => after_no (W := u) hd.C.2 hd.C.1 hf
    have HX : Hid (∀ u, Below (W.alloc (wdO d)).heap.size (W.alloc (wdO d)) u → Below W.heap.size W u ∧ u.heap[W.heap.size]? = some (wdO d)) := fun u k => ⟨(below_alloc W _).trans (k.mono (by simp)), (k.block _ (by simp)).trans (heap_alloc_new W _)⟩
    by_cases hg : 7 ≤ d.C ∧ 0 ≤ z ∧ z + d.C ≤ 256
    · have HAG : Hid (∀ u, Below W.heap.size W u → _) := fun u hu => after_yes (d := { d with B := z }) (hT.on hu) ⟨hz, hd.C, hd.M, hd.lx, hd.ll, hd.nz.on hu, hd.cx, hd.cl, hd.cs.on hu⟩ hg.1 hg.2.1 hg.2.2
      obtain ⟨B, C, M, pn, ln, cn, pc, LL, cc⟩ := d
      simp only at *
      clear hf hg hd hT hz
      go_enter Tryz.func3, Tryz.ntmps3
      go_upto_region 4 with (first
        | (go_at_call 4; refine (HLV.out _ (below_alloc W _)).mono ?_; rintro e u1 ⟨rfl, k1⟩; have K1 := Lib.hid k1; obtain ⟨y0, y1, y2, y3, y4, y5⟩ := cells5w (HX.out _ k1).2; clear k1 HLV))
      have HV : Hid (∀ u, Below (u1.alloc (wdO ⟨z, C, M, pn, ln, cn, pc, LL, cc⟩)).heap.size (u1.alloc (wdO ⟨z, C, M, pn, ln, cn, pc, LL, cc⟩)) u → Below W.heap.size W u ∧ u.heap[W.heap.size]? = some (wdO ⟨B, C, M, pn, ln, cn, pc, LL, cc⟩) ∧ u.heap[u1.heap.size]? = some (wdO ⟨z, C, M, pn, ln, cn, pc, LL, cc⟩)) := fun u k => by
        have e := HX.out _ K1.out
        have ka := below_alloc u1 (wdO ⟨z, C, M, pn, ln, cn, pc, LL, cc⟩)
        have kb := ka.trans (k.mono ka.size)
        exact ⟨e.1.trans (kb.mono e.1.size), (kb.block _ (lt_of_block e.2)).trans e.2, (k.block _ (lt_of_block (heap_alloc_new u1 _))).trans (heap_alloc_new u1 _)⟩
      obtain ⟨v1, hv1⟩ : ∃ v1, v1 = u1.alloc (wdO ⟨z, C, M, pn, ln, cn, pc, LL, cc⟩) := ⟨_, rfl⟩
      obtain ⟨n6, hn6⟩ : ∃ n6, u1.heap.size = n6 := ⟨_, rfl⟩
      rw [hn6] at HV ⊢
      rw [← hv1] at HV ⊢
      clear hv1 hn6 y0 y1 y2 y3 y4 y5 K1
      obtain ⟨y0, y1, y2, y3, y4, y5⟩ := cells5w (HV.out _ (Below.refl _ _)).2.1
      go_wp2_with (first
        | (have x1q := Y1.out; go_at_call 5; clear x1q; refine (HAG.out _ (((HV.out _ (Below.refl _ _)).1.trans (Y1.out.mono (HV.out _ (Below.refl _ _)).1.size)).trans ((two_al _ _ _).mono (Nat.le_trans (HV.out _ (Below.refl _ _)).1.size Y1.out.size)))).mono ?_; rintro e u3 ⟨q2, b2, a2, rfl, HZ2⟩; have K3 := Lib.hid (have ⟨_, _, h⟩ := HZ2.out; h.bl); clear HAG)
        | (go_at_call 5; refine (HAF.out _).mono ?_; rintro e u2 ⟨rfl, k2⟩; have Y1 := Lib.hid k2; clear HAF k2 y0 y1 y2 y3 y4 y5; obtain ⟨y0, y1, y2, y3, y4, y5⟩ := cells5w (HV.out _ Y1.out).2.2))
      go_ret
      exact ⟨rfl, end_two (HV.out _ (Below.refl _ _)).1 Y1.out K3.out⟩
    · have HAG : Hid (∀ u, _) := fun u => after_no (d := { d with B := z }) (W := u) hd.C.2 hd.C.1 hg
      obtain ⟨B, C, M, pn, ln, cn, pc, LL, cc⟩ := d
      simp only at *
      clear hf hg hd hT hz
      go_enter Tryz.func3, Tryz.ntmps3
      go_upto_region 4 with (first
        | (go_at_call 4; refine (HLV.out _ (below_alloc W _)).mono ?_; rintro e u1 ⟨rfl, k1⟩; have K1 := Lib.hid k1; obtain ⟨y0, y1, y2, y3, y4, y5⟩ := cells5w (HX.out _ k1).2; clear k1 HLV))
      have HV : Hid (∀ u, Below (u1.alloc (wdO ⟨z, C, M, pn, ln, cn, pc, LL, cc⟩)).heap.size (u1.alloc (wdO ⟨z, C, M, pn, ln, cn, pc, LL, cc⟩)) u → Below W.heap.size W u ∧ u.heap[W.heap.size]? = some (wdO ⟨B, C, M, pn, ln, cn, pc, LL, cc⟩) ∧ u.heap[u1.heap.size]? = some (wdO ⟨z, C, M, pn, ln, cn, pc, LL, cc⟩)) := fun u k => by
        have e := HX.out _ K1.out
        have ka := below_alloc u1 (wdO ⟨z, C, M, pn, ln, cn, pc, LL, cc⟩)
        have kb := ka.trans (k.mono ka.size)
        exact ⟨e.1.trans (kb.mono e.1.size), (kb.block _ (lt_of_block e.2)).trans e.2, (k.block _ (lt_of_block (heap_alloc_new u1 _))).trans (heap_alloc_new u1 _)⟩
      obtain ⟨v1, hv1⟩ : ∃ v1, v1 = u1.alloc (wdO ⟨z, C, M, pn, ln, cn, pc, LL, cc⟩) := ⟨_, rfl⟩
      obtain ⟨n6, hn6⟩ : ∃ n6, u1.heap.size = n6 := ⟨_, rfl⟩
      rw [hn6] at HV ⊢
      rw [← hv1] at HV ⊢
      clear hv1 hn6 y0 y1 y2 y3 y4 y5 K1
      obtain ⟨y0, y1, y2, y3, y4, y5⟩ := cells5w (HV.out _ (Below.refl _ _)).2.1
      go_wp2_with (first
        | (have x1q := Y1.out; go_at_call 5; clear x1q; refine (HAG.out _).mono ?_; rintro e u3 ⟨rfl, k3⟩; have K3 := Lib.hid k3; clear HAG k3)
        | (go_at_call 5; refine (HAF.out _).mono ?_; rintro e u2 ⟨rfl, k2⟩; have Y1 := Lib.hid k2; clear HAF k2 y0 y1 y2 y3 y4 y5; obtain ⟨y0, y1, y2, y3, y4, y5⟩ := cells5w (HV.out _ Y1.out).2.2))
      go_ret
      exact ⟨rfl, end_two (HV.out _ (Below.refl _ _)).1 Y1.out K3.out⟩
end
end Go.Proofs.YtdodhpfdldkbdabGreatDoor.Tr
