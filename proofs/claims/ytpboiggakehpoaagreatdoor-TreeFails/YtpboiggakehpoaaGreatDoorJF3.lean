import Derived.Test.YtpboiggakehpoaaGreatDoorJF2
import Derived.Test.YtpboiggakehpoaaGreatDoorJF1
namespace Go.Proofs.YtpboiggakehpoaaGreatDoor.Tr
open Num As
theorem addB_small (s : Bs) (o : O) (h : ∀ i ∈ s.code, i.x < 18446744073709551616) : ∀ i ∈ (addB s o).code, i.x < 18446744073709551616 := by
  unfold addB
  have key : ∀ (j : Ins), j.x < 18446744073709551616 → ∀ q, ∀ i ∈ (s.add j q).code, i.x < 18446744073709551616 := fun j hj q i hi => by
    rcases List.mem_append.1 (show i ∈ s.code ++ [j] from hi) with hi | hi
    · exact h i hi
    · rw [List.mem_singleton.1 hi]; exact hj
  split
  · exact key _ (floatInt_lt _) _
  · split
    · exact key ⟨o.code, 0, 0⟩ (by show (0 : Nat) < _; decide) _
    · split
      · exact h
      · exact key ⟨o.code, o.n, 0⟩ (by show (0 : Nat) < _; decide) _
theorem foldB_small : ∀ (l : List O) (s : Bs), (∀ i ∈ s.code, i.x < 18446744073709551616) → ∀ i ∈ (l.foldl addB s).code, i.x < 18446744073709551616
  | [], _, h => h
  | o :: l, s, h => foldB_small l (addB s o) (addB_small s o h)
theorem filled_small (s : Bs) (h : ∀ i ∈ s.code, i.x < 18446744073709551616) : ∀ i ∈ s.filled, i.x < 18446744073709551616 := by
  intro i hi
  obtain ⟨k, hk, rfl⟩ := List.mem_map.1 hi
  have hk := List.mem_range.1 hk
  have hm : (ci s.code k).x < 18446744073709551616 := h _ (by unfold ci; rw [List.getD_eq_getElem?_getD, List.getElem?_eq_getElem hk]; exact List.getElem_mem hk)
  unfold Bs.fin
  split
  · exact hm
  · exact hm
theorem code_small {t : Int} {ops : List O} {cs : List Ins} (h1 : (bsOf t ops).filled.map fixI = cs) : ∀ k, k < cs.length → (ci cs k).x < 18446744073709551616 :=
  small_of h1 (filled_small _ (foldB_small _ _ fun i hi => by rw [(labs_len 10 t).1] at hi; cases hi))
theorem arg_ok {l : List Nat} (hl : ∀ x ∈ l, x < 18446744073709551616) (k : Nat) : okN (argF l k) := by
  refine okN_fix ?_
  rw [List.getD_eq_getElem?_getD]
  rcases Nat.lt_or_ge k l.length with h | h
  · rw [List.getElem?_eq_getElem h]; exact hl _ (List.getElem_mem h)
  · rw [List.getElem?_eq_none h]; decide
theorem Holds.congr {B R : Nat} {M : Tm} {mem mem' : Nat → Nat} (h : Holds B R M mem) (k : ∀ c, B ≤ c → c ≤ B + 3 * R + 2 → mem' c = mem c) (hR : 1 ≤ R) : Holds B R M mem' :=
  ⟨(k _ (by omega) (by omega)).trans h.sp, (k _ (by omega) (by omega)).trans h.n, (k _ (by omega) (by omega)).trans h.rt, fun i h1 h2 => (k _ (by omega) (by omega)).trans (h.k i h1 h2), fun i h1 h2 => (k _ (by omega) (by omega)).trans (h.v i h1 h2), fun i h1 h2 => (k _ (by omega) (by omega)).trans (h.l i h1 h2), h.bs, h.bn, h.br, h.ba, h.bb⟩
theorem Tree.congr {B R : Nat} {M : Tm} {mem mem' : Nat → Nat} {t : T} {S : List Nat} (h : Tree B R M mem t S) (k : ∀ c, B ≤ c → c ≤ B + 3 * R + 2 → mem' c = mem c) (hR : 1 ≤ R) : Tree B R M mem' t S :=
  ⟨⟨h.H.congr k hR, h.W, h.ch, h.nd, h.rng, h.top, h.fresh, h.len, h.ko, h.vo⟩, h.srt⟩
section
variable {a b e : Int} {B R cells : Nat} {s l : List Nat} {L : Prs}
theorem aft_quiet {m : Mac} (h : m.buf.length ≤ 0) : aftS s m = s := by
  have : m.buf = [] := List.length_eq_zero_iff.1 (by omega)
  unfold aftS
  rw [this]
  split <;> rfl
theorem get_ran (h : Lies a b e B R cells s.length) (hs : okS s) (hH : Has B R s L) (hl8 : l.length ≤ 8) (hl : ∀ x ∈ l, x < 18446744073709551616) : Ran s (runR a b 1024 e 1 (getC B R) l s) B cells 1 0 (getS L (argF l 0)) ∧ aftS s (runR a b 1024 e 1 (getC B R) l s) = s := by
  obtain ⟨M, t, S, hT, rfl⟩ := hH
  obtain ⟨v, ⟨_, q2, q3⟩, r1, r2, _⟩ := ran_of h hl8 hl hs (check_of (get_code B R) (get_ans B R)) (code_small (get_code B R)) (get_ends (h.fits 1 (getC B R)) rfl hT rfl (arg_ok hl 0))
  exact ⟨q2 ▸ r1, aft_quiet (q3 ▸ r2)⟩
theorem len_ran (h : Lies a b e B R cells s.length) (hs : okS s) (hH : Has B R s L) (hl8 : l.length ≤ 8) (hl : ∀ x ∈ l, x < 18446744073709551616) : Ran s (runR a b 1024 e 1 (lenC B R) l s) B cells 1 0 [X (L.length : Nat)] ∧ aftS s (runR a b 1024 e 1 (lenC B R) l s) = s := by
  obtain ⟨M, t, S, hT, rfl⟩ := hH
  obtain ⟨v, ⟨_, q2, q3⟩, r1, r2, _⟩ := ran_of h hl8 hl hs (check_of (len_code B R) (len_ans B R)) (code_small (len_code B R)) (len_ends (h.fits 1 (lenC B R)) rfl hT)
  exact ⟨q2 ▸ r1, aft_quiet (q3 ▸ r2)⟩
theorem least_ran (h : Lies a b e B R cells s.length) (hs : okS s) (hH : Has B R s L) (hl8 : l.length ≤ 8) (hl : ∀ x ∈ l, x < 18446744073709551616) : Ran s (runR a b 1024 e 1 (leastC B R) l s) B cells 1 0 (fstS L 0) ∧ aftS s (runR a b 1024 e 1 (leastC B R) l s) = s := by
  obtain ⟨M, t, S, hT, rfl⟩ := hH
  obtain ⟨v, ⟨_, q2, q3⟩, r1, r2, _⟩ := ran_of h hl8 hl hs (check_of (least_code B R) (least_ans B R)) (code_small (least_code B R)) (least_ends (h.fits 1 (leastC B R)) rfl hT)
  exact ⟨q2 ▸ r1, aft_quiet (q3 ▸ r2)⟩
theorem after_ran (h : Lies a b e B R cells s.length) (hs : okS s) (hH : Has B R s L) (hl8 : l.length ≤ 8) (hl : ∀ x ∈ l, x < 18446744073709551616) : Ran s (runR a b 1024 e 1 (afterC B R) l s) B cells 1 0 (aftS2 L (argF l 0)) ∧ aftS s (runR a b 1024 e 1 (afterC B R) l s) = s := by
  obtain ⟨M, t, S, hT, rfl⟩ := hH
  obtain ⟨v, ⟨_, q2, q3⟩, r1, r2, _⟩ := ran_of h hl8 hl hs (check_of (after_code B R) (after_ans B R)) (code_small (after_code B R)) (after_ends (h.fits 1 (afterC B R)) rfl hT rfl)
  exact ⟨q2 ▸ r1, aft_quiet (q3 ▸ r2)⟩
theorem all_ran (h : Lies a b e B R cells s.length) (hs : okS s) (hH : Has B R s L) (hl8 : l.length ≤ 8) (hl : ∀ x ∈ l, x < 18446744073709551616) : Ran s (runR a b 1024 e 1 (allC B R) l s) B cells 1 0 (allS L) ∧ aftS s (runR a b 1024 e 1 (allC B R) l s) = s := by
  obtain ⟨M, t, S, hT, rfl⟩ := hH
  obtain ⟨v, ⟨_, q2, q3⟩, r1, r2, _⟩ := ran_of h hl8 hl hs (check_of (all_code B R) (all_ans B R)) (code_small (all_code B R)) (all_ends (h.fits 1 (allC B R)) rfl hT)
  exact ⟨q2 ▸ r1, aft_quiet (q3 ▸ r2)⟩
def Outside (s s' : List Nat) (B cells : Nat) : Prop := s'.length = s.length ∧ ∀ i, i < s.length → i < B ∨ B + cells ≤ i → s'.getD i 0 = s.getD i 0
theorem has_aft (h : Lies a b e B R cells s.length) {m : Mac} {v : Vm} {M' : Tm} {t' : T} {S' : List Nat} {L' : Prs} (ha : ∀ i, i < s.length → (aftS s m).getD i 0 = if i < B + cells then v.mem i else s.getD i 0) (ho : ∀ c, c < B ∨ B + cells ≤ c → v.mem c = (v0 s).mem c) (hT : Tree B R M' v.mem t' S') (hL : prs M' t'.nodes = L') : Has B R (aftS s m) L' ∧ Outside s (aftS s m) B cells := by
  have hr := h.r
  have hfit := h.fit
  have hn := h.n
  have hlen := aftS_len s m
  refine ⟨⟨M', t', S', hT.congr (fun c h1 h2 => ?_) hr.1, hL⟩, hlen, fun i hi hio => ?_⟩
  · rw [v0_mem (by rw [hlen]; omega), ha c (by omega), if_pos (by omega)]
  · rw [ha i hi]
    split
    · rw [ho i hio, v0_mem hi]
    · rfl
theorem put_ran (h : Lies a b e B R cells s.length) (hs : okS s) (hH : Has B R s L) (hl8 : l.length ≤ 8) (hl : ∀ x ∈ l, x < 18446744073709551616) :
    (isK L (argF l 0) = false ∧ R ≤ L.length ∧ Ran s (runR a b 1024 e 2 (putCd B R) l s) B cells 2 1 [] ∧ aftS s (runR a b 1024 e 2 (putCd B R) l s) = s) ∨
    ((isK L (argF l 0) = true ∨ L.length < R) ∧ Ran s (runR a b 1024 e 2 (putCd B R) l s) B cells 1 0 [X ((if isK L (argF l 0) then 0 else 1 : Nat) : Int)] ∧ Has B R (aftS s (runR a b 1024 e 2 (putCd B R) l s)) (putS L (argF l 0) (argF l 1)) ∧ Outside s (aftS s (runR a b 1024 e 2 (putCd B R) l s)) B cells) := by
  obtain ⟨M, t, S, hT, rfl⟩ := hH
  rcases put_ends (h.fits 2 (putCd B R)) rfl rfl hT rfl rfl (arg_ok hl 0) (arg_ok hl 1) with ⟨k1, k2, k3⟩ | ⟨k1, k2⟩
  · obtain ⟨v, ⟨q1, q2⟩, r1, r2, _⟩ := ran_of h hl8 hl hs (check_of (put_code B R) (put_ans B R)) (code_small (put_code B R)) k3
    exact .inl ⟨k1, k2, q1 ▸ r1, aft_quiet (q2 ▸ r2)⟩
  · obtain ⟨v, ⟨q1, q2, M', t', S', q3, q4⟩, r1, r2, r3⟩ := ran_of h hl8 hl hs (check_of (put_code B R) (put_ans B R)) (code_small (put_code B R)) k2
    exact .inr ⟨k1, q1 ▸ r1, has_aft h (r3 rfl) q2 q3 q4⟩
theorem del_ran (h : Lies a b e B R cells s.length) (hs : okS s) (hH : Has B R s L) (hl8 : l.length ≤ 8) (hl : ∀ x ∈ l, x < 18446744073709551616) :
    Ran s (runR a b 1024 e 2 (delC B R) l s) B cells 1 0 [X ((if isK L (argF l 0) then 1 else 0 : Nat) : Int)] ∧ Has B R (aftS s (runR a b 1024 e 2 (delC B R) l s)) (delS L (argF l 0)) ∧ Outside s (aftS s (runR a b 1024 e 2 (delC B R) l s)) B cells := by
  obtain ⟨M, t, S, hT, rfl⟩ := hH
  obtain ⟨v, ⟨q1, q2, M', t', S', q3, q4⟩, r1, r2, r3⟩ := ran_of h hl8 hl hs (check_of (del_code B R) (del_ans B R)) (code_small (del_code B R)) (del_ends (h.fits 2 (delC B R)) rfl rfl hT rfl (arg_ok hl 0))
  exact ⟨q1 ▸ r1, has_aft h (r3 rfl) q2 q3 q4⟩
theorem has_new (h : Lies a b e B R cells s.length) (h0 : ∀ i, B ≤ i → i < B + cells → s.getD i 0 = 0) : Has B R s [] := by
  have hr := h.r
  have hfit := h.fit
  have hn := h.n
  have key : ∀ c, B ≤ c → c ≤ B + 3 * R + 2 → (v0 s).mem c = X (0 : Nat) := fun c h1 h2 => by rw [v0_mem (by omega), h0 c h1 (by omega)]; exact X_zero.symm
  refine ⟨⟨0, 0, 0, fun _ => 0, fun _ => 0, fun _ => 0, fun _ => 0⟩, .nil, [], ⟨⟨⟨key _ (by omega) (by omega), key _ (by omega) (by omega), key _ (by omega) (by omega), fun i h1 h2 => (key _ (by omega) (by omega)).trans X_zero, fun i h1 h2 => (key _ (by omega) (by omega)).trans X_zero, fun i h1 h2 => key _ (by omega) (by omega), Nat.zero_le _, Nat.zero_le _, Nat.zero_le _, fun _ => Nat.zero_le _, fun _ => Nat.zero_le _⟩, ⟨rfl, trivial⟩, rfl, List.nodup_nil, fun j hj => absurd hj (by simp [T.nodes_eq]), Nat.zero_le _, fun _ _ _ => ⟨rfl, rfl⟩, rfl, fun _ => okN_zero, fun _ => okN_zero⟩, List.Pairwise.nil⟩, rfl⟩
end
end Go.Proofs.YtpboiggakehpoaaGreatDoor.Tr
namespace Go.Proofs.YtpboiggakehpoaaGreatDoor.Tr
open Go.ChangeShapes Go.WideShapes Go.ChangeAt Go.RowKit Num Go.Maps As
open Go.ChangeMaps Go.MapKept
attribute [local go_sem] run_store_float frombits_run bits_run
def PgC (W : World) (t : Int) (cs : List Ins) (e : Ending) (w' : World) : Prop := ∃ p n c, e = .returned (.agg #[.int .i64 t, .slice p n c]) ∧ Hid (n = cs.length ∧ RowW 86 3 w' p c n (codC cs) ∧ Below W.heap.size W w')
theorem bs_len {t : Int} {l : List O} {cs : List Ins} (h : (bsOf t l).filled.map fixI = cs) : (bsOf t l).code.length = cs.length := by rw [← h, List.length_map, filled_len]
def plotO (B R : Int) : Obj := .cells #[.int .i64 B, .int .i64 R] 83
def pg0 : Obj := .cells #[.int .i64 0, .slice none 0 0] 26
def pgW (w : World) (B R : Int) : World := (w.alloc (plotO B R)).alloc pg0
theorem pgW_size (w : World) (B R : Int) : (pgW w B R).heap.size = w.heap.size + 2 := by simp [pgW]
theorem pgW_bl (w : World) (B R : Int) : Below w.heap.size w (pgW w B R) := (bl1 w _).trans ((bl1 _ _).mono (by simp))
theorem pg_cells (w : World) (B R : Int) (u : World) (k : Below (pgW w B R).heap.size (pgW w B R) u) : (u.cell? ⟨w.heap.size, 0, none⟩ = some (.int .i64 B) ∧ u.cell? ⟨w.heap.size, 1, none⟩ = some (.int .i64 R)) ∧ (w.heap.size + 1 < u.heap.size ∧ u.cell? ⟨w.heap.size + 1, 0, none⟩ = some (.int .i64 0) ∧ u.cell? ⟨w.heap.size + 1, 1, none⟩ = some (.slice none 0 0) ∧ u.frozen? ⟨w.heap.size + 1, 0, none⟩ = false ∧ u.frozen? ⟨w.heap.size + 1, 1, none⟩ = false) := by
  have h1 : (pgW w B R).heap[w.heap.size + 1]? = some pg0 := by
    have := heap_alloc_new (w.alloc (plotO B R)) pg0
    simpa [pgW] using this
  have h0 : (pgW w B R).heap[w.heap.size]? = some (plotO B R) := (Below.heap_alloc _ _ _ (by simp)).trans (heap_alloc_new w _)
  have hs : (pgW w B R).heap.size = w.heap.size + 2 := by simp [pgW]
  have a := cells2_of ((k.block _ (by omega)).trans h0)
  have hb := (k.block _ (by omega)).trans h1
  have b := cells2_of hb
  exact ⟨⟨a.1, a.2.1⟩, b.2.2, b.1, b.2.1, frozen_of_row _ _ 0 _ _ hb, frozen_of_row _ _ 1 _ _ hb⟩
theorem pg_end {w u : World} {B R t : Int} {p : Option Addr} {n c : Nat} {cs : List Ins} (k : Below (pgW w B R).heap.size (pgW w B R) u) (hr : RowW 86 3 u p c n (codC cs)) :
    ((u.setCell ⟨w.heap.size + 1, 0, none⟩ (.int .i64 t)).setCell ⟨w.heap.size + 1, 1, none⟩ (.slice p n c)).heap[w.heap.size + 1]? = some (.cells #[.int .i64 t, .slice p n c] 26 (0, 0)) ∧ RowW 86 3 ((u.setCell ⟨w.heap.size + 1, 0, none⟩ (.int .i64 t)).setCell ⟨w.heap.size + 1, 1, none⟩ (.slice p n c)) p c n (codC cs) ∧ Below w.heap.size w ((u.setCell ⟨w.heap.size + 1, 0, none⟩ (.int .i64 t)).setCell ⟨w.heap.size + 1, 1, none⟩ (.slice p n c)) := by
  have h1 : (pgW w B R).heap[w.heap.size + 1]? = some pg0 := by
    have := heap_alloc_new (w.alloc (plotO B R)) pg0
    simpa [pgW] using this
  have hs : (pgW w B R).heap.size = w.heap.size + 2 := by simp [pgW]
  have hb := (k.block _ (by omega)).trans h1
  have t4 := (As.turn_set (w.heap.size + 1) 0 (.int .i64 t) u).trans (As.turn_set (w.heap.size + 1) 1 (.slice p n c) _)
  have hbw : Below w.heap.size w (pgW w B R) := (bl1 w _).trans ((bl1 _ _).mono (by simp))
  exact ⟨(heap_setCell_same _ _ 1 _ _ _ (heap_setCell_same _ _ 0 _ _ _ hb)).trans rfl, hr.keep (t4.kept (fun x hx z => by
    obtain ⟨arr, e⟩ := hr.blk hx
    rw [show x = w.heap.size + 1 by simpa using z] at e
    exact ne_ty e hb (by decide) rfl) hr.blw), (hbw.trans (k.mono hbw.size)).trans (t4.below (fun i hi => by simp at hi; omega) (Nat.le_trans hbw.size k.size))⟩
section
variable {w : World} {B R : Int}
set_option maxHeartbeats 2000000 in
set_option maxRecDepth 100000 in
theorem g_pget (hB : 0 ≤ B ∧ B ≤ 256) (hR : 0 ≤ R ∧ R ≤ 16) (hT : Shaped5 w) : Calls Tryz.prog 34 #[.agg #[.int .i64 B, .int .i64 R]] w fun e w' => PgC w 1 (getC B R) e w' := by
  have A : Hid (Acc (pgW w B R) (pgW w B R) []) := acc_nil (Below.refl _ _)
  have HT : Hid (Shaped5 w) := hT
  clear hT
  go_enter Tryz.func34, Tryz.ntmps34
  go_wp2_with (first
    | (go_at_call 67; refine (g_search hB hR _).mono ?_; rintro e u ⟨g, n, c, rfl, h⟩; replace A := Lib.hid (A.out.more h.out); clear h)
    | (go_at_call 68; refine (g_mark _ _).mono ?_; rintro e u ⟨g, n, c, rfl, h⟩; replace A := Lib.hid (A.out.more h.out); clear h)
    | (go_at_call 69; refine (g_load _ _ _).mono ?_; rintro e u ⟨g, n, c, rfl, h⟩; replace A := Lib.hid (A.out.more h.out); clear h)
    | (go_at_call 70; refine (g_emit _).mono ?_; rintro e u ⟨g, n, c, rfl, h⟩; replace A := Lib.hid (A.out.more h.out); clear h)
    | (go_at_call 71; refine (g_halt _).mono ?_; rintro e u ⟨g, n, c, rfl, h⟩; replace A := Lib.hid (A.out.more h.out); clear h)
    | (go_at_call 66; refine (g_program 1 (A.out.parts rfl) rfl (Nat.le_of_ble_eq_true rfl) (Nat.le_of_ble_eq_true rfl) (Nat.le_of_ble_eq_true rfl) (get_wf B R) (HT.out.on ((pgW_bl w B R).trans (((A.out.on (bl1 _ _)).bl).mono (by rw [pgW_size]; omega)))) (get_ans B R)).mono ?_; rintro e u ⟨p, n, c, rfl, hZ⟩; have HBL := Lib.hid (A.out.bl.trans (((bl1 _ _).trans (hZ.out.2.2.mono (by simp))).mono A.out.bl.size)); obtain ⟨⟨x0, x1⟩, y0, y1, y2, y3, y4⟩ := pg_cells w B R _ HBL.out))
  obtain ⟨f1, f2, f3⟩ := hZ.out
  change RowW 86 3 u p c n (codC ((bsOf 1 (getO B R).flatten).filled.map fixI)) at f2
  change n = (bsOf 1 (getO B R).flatten).code.length at f1
  rw [get_code] at f2
  obtain ⟨z1, z2, z3⟩ := pg_end (t := 1) HBL.out f2
  exact pg_back rfl (w.heap.size + 1) 1 p n c rfl z1 rfl ⟨p, n, c, rfl, f1.trans (bs_len (get_code B R)), z2, z3⟩
set_option maxHeartbeats 2000000 in
set_option maxRecDepth 100000 in
theorem g_pput (hB : 0 ≤ B ∧ B ≤ 256) (hR : 0 ≤ R ∧ R ≤ 16) (hT : Shaped5 w) : Calls Tryz.prog 35 #[.agg #[.int .i64 B, .int .i64 R]] w fun e w' => PgC w 2 (putCd B R) e w' := by
  have HB : Hid (∀ u, Below (pgW w B R).heap.size (pgW w B R) u → u.cell? ⟨w.heap.size, 0, none⟩ = some (.int .i64 B) ∧ u.cell? ⟨w.heap.size, 1, none⟩ = some (.int .i64 R)) := fun u k => (pg_cells w B R u k).1
  have A : Hid (Acc (pgW w B R) ((pgW w B R).drew) []) := acc_nil ((Same.drew _).below _)
  have HT : Hid (Shaped5 w) := hT
  clear hT
  go_enter Tryz.func35, Tryz.ntmps35
  go_wp2_with fail
  refine wp_region_seqE (fun u => u.cell? ⟨w.heap.size, 0, none⟩ = some (.int .i64 B) ∧ u.cell? ⟨w.heap.size, 1, none⟩ = some (.int .i64 R)) ((0, true) :: (8, true) :: (9, true) :: (12, true) :: (19, true) :: (20, true) :: (26, true) :: (27, true) :: (34, true) :: (37, true) :: (50, true) :: (54, true) :: (13, true) :: (1, false) :: (2, false) :: (3, false) :: (4, false) :: (5, false) :: (6, false) :: (7, false) :: (10, false) :: (11, false) :: (14, false) :: (15, false) :: (16, false) :: (17, false) :: (18, false) :: (21, false) :: (22, false) :: (23, false) :: (24, false) :: (25, false) :: (28, false) :: (29, false) :: (30, false) :: (31, false) :: (32, false) :: (33, false) :: (35, false) :: (36, false) :: (38, false) :: (39, false) :: (40, false) :: (41, false) :: (42, false) :: (43, false) :: (44, false) :: (45, false) :: (46, false) :: (47, false) :: (48, false) :: (49, false) :: (51, false) :: (52, false) :: (53, false) :: (55, false) :: (56, false) :: (57, false) :: (58, false) :: (59, false) :: []) follows (by kernel_rfl) (fun _ _ _ _ _ h => h) (HB.out _ ((Same.drew _).below _)) ?_
  (repeat (refine wpSeqE_take (v := ?_) rfl (by rfl) (fun wq hSq => ?_) ?_; rotate_left; (focus ((try dsimp only at hSq); go_simp; try with_reducible rfl)); simp only [Act.put, List.setIfInBounds_toArray, List.set_cons_zero, List.set_cons_succ]))
  (refine wpSeqE_do rfl (by rfl) (fun KK hK => ?_); go_simp)
  refine (g_search hB hR _).mono ?_; rintro e u ⟨g, n, c, rfl, h⟩; replace A := Lib.hid (A.out.more h.out); clear h
  refine hK.out _ _ (fun _ => HB.out _ A.out.bl) ?_
  (clear hK KK; try simp only [Act.put, List.setIfInBounds_toArray, List.set_cons_zero, List.set_cons_succ])
  (repeat (refine wpSeqE_take (v := ?_) rfl (by rfl) (fun wq hSq => ?_) ?_; rotate_left; (focus ((try dsimp only at hSq); go_simp; try with_reducible rfl)); simp only [Act.put, List.setIfInBounds_toArray, List.set_cons_zero, List.set_cons_succ]))
  (refine wpSeqE_do rfl (by rfl) (fun KK hK => ?_); go_simp)
  refine (g_mark _ _).mono ?_; rintro e u ⟨g, n, c, rfl, h⟩; replace A := Lib.hid (A.out.more h.out); clear h
  refine hK.out _ _ (fun _ => HB.out _ A.out.bl) ?_
  (clear hK KK; try simp only [Act.put, List.setIfInBounds_toArray, List.set_cons_zero, List.set_cons_succ])
  (repeat (refine wpSeqE_take (v := ?_) rfl (by rfl) (fun wq hSq => ?_) ?_; rotate_left; (focus ((try dsimp only at hSq); go_simp; try with_reducible rfl)); simp only [Act.put, List.setIfInBounds_toArray, List.set_cons_zero, List.set_cons_succ]))
  (refine wpSeqE_do rfl (by rfl) (fun KK hK => ?_); go_simp)
  refine (g_arg _ _).mono ?_; rintro e u ⟨g, n, c, rfl, h⟩; replace A := Lib.hid (A.out.more h.out); clear h
  refine hK.out _ _ (fun _ => HB.out _ A.out.bl) ?_
  (clear hK KK; try simp only [Act.put, List.setIfInBounds_toArray, List.set_cons_zero, List.set_cons_succ])
  (repeat (refine wpSeqE_take (v := ?_) rfl (by rfl) (fun wq hSq => ?_) ?_; rotate_left; (focus ((try dsimp only at hSq); go_simp; try with_reducible rfl)); simp only [Act.put, List.setIfInBounds_toArray, List.set_cons_zero, List.set_cons_succ]))
  (refine wpSeqE_do rfl (by rfl) (fun KK hK => ?_); go_simp)
  refine hK.out _ _ (fun _ => HB.out _ (A.out.on (bl1 _ _)).bl) ?_
  (clear hK KK; try simp only [Act.put, List.setIfInBounds_toArray, List.set_cons_zero, List.set_cons_succ])
  (repeat (refine wpSeqE_take (v := ?_) rfl (by rfl) (fun wq hSq => ?_) ?_; rotate_left; (focus ((try dsimp only at hSq); go_simp; try with_reducible rfl)); simp only [Act.put, List.setIfInBounds_toArray, List.set_cons_zero, List.set_cons_succ]))
  (refine wpSeqE_do rfl (by rfl) (fun KK hK => ?_); go_simp)
  refine (g_store ((A.out.take 1).parts rfl) rfl (Nat.le_of_ble_eq_true rfl) (Nat.le_of_ble_eq_true rfl) (Nat.le_of_ble_eq_true rfl) _ _).mono ?_; rintro e u ⟨g, n, c, rfl, h⟩; replace A := Lib.hid ((A.out.drop 1).over h.out); clear h
  refine hK.out _ _ (fun _ => HB.out _ A.out.bl) ?_
  (clear hK KK; try simp only [Act.put, List.setIfInBounds_toArray, List.set_cons_zero, List.set_cons_succ])
  (repeat (refine wpSeqE_take (v := ?_) rfl (by rfl) (fun wq hSq => ?_) ?_; rotate_left; (focus ((try dsimp only at hSq); go_simp; try with_reducible rfl)); simp only [Act.put, List.setIfInBounds_toArray, List.set_cons_zero, List.set_cons_succ]))
  (refine wpSeqE_do rfl (by rfl) (fun KK hK => ?_); go_simp)
  refine (g_tell _ _).mono ?_; rintro e u ⟨g, n, c, rfl, h⟩; replace A := Lib.hid (A.out.more h.out); clear h
  refine hK.out _ _ (fun _ => HB.out _ A.out.bl) ?_
  (clear hK KK; try simp only [Act.put, List.setIfInBounds_toArray, List.set_cons_zero, List.set_cons_succ])
  (repeat (refine wpSeqE_take (v := ?_) rfl (by rfl) (fun wq hSq => ?_) ?_; rotate_left; (focus ((try dsimp only at hSq); go_simp; try with_reducible rfl)); simp only [Act.put, List.setIfInBounds_toArray, List.set_cons_zero, List.set_cons_succ]))
  (refine wpSeqE_do rfl (by rfl) (fun KK hK => ?_); go_simp)
  refine (g_mark _ _).mono ?_; rintro e u ⟨g, n, c, rfl, h⟩; replace A := Lib.hid (A.out.more h.out); clear h
  refine hK.out _ _ (fun _ => HB.out _ A.out.bl) ?_
  (clear hK KK; try simp only [Act.put, List.setIfInBounds_toArray, List.set_cons_zero, List.set_cons_succ])
  (repeat (refine wpSeqE_take (v := ?_) rfl (by rfl) (fun wq hSq => ?_) ?_; rotate_left; (focus ((try dsimp only at hSq); go_simp; try with_reducible rfl)); simp only [Act.put, List.setIfInBounds_toArray, List.set_cons_zero, List.set_cons_succ]))
  (refine wpSeqE_do rfl (by rfl) (fun KK hK => ?_); go_simp)
  refine (g_count hB hR _).mono ?_; rintro e u ⟨rfl, h⟩; replace A := Lib.hid (A.out.on h); clear h
  refine hK.out _ _ (fun _ => HB.out _ A.out.bl) ?_
  (clear hK KK; try simp only [Act.put, List.setIfInBounds_toArray, List.set_cons_zero, List.set_cons_succ])
  (repeat (refine wpSeqE_take (v := ?_) rfl (by rfl) (fun wq hSq => ?_) ?_; rotate_left; (focus ((try dsimp only at hSq); go_simp; try with_reducible rfl)); simp only [Act.put, List.setIfInBounds_toArray, List.set_cons_zero, List.set_cons_succ]))
  (refine wpSeqE_do rfl (by rfl) (fun KK hK => ?_); go_simp)
  refine (g_folded hB hR _ _).mono ?_; rintro e u ⟨g, n, c, rfl, h⟩; replace A := Lib.hid (A.out.more h.out); clear h
  refine hK.out _ _ (fun _ => HB.out _ A.out.bl) ?_
  (clear hK KK; try simp only [Act.put, List.setIfInBounds_toArray, List.set_cons_zero, List.set_cons_succ])
  (repeat (refine wpSeqE_take (v := ?_) rfl (by rfl) (fun wq hSq => ?_) ?_; rotate_left; (focus ((try dsimp only at hSq); go_simp; try with_reducible rfl)); simp only [Act.put, List.setIfInBounds_toArray, List.set_cons_zero, List.set_cons_succ]))
  (refine wpSeqE_do rfl (by rfl) (fun KK hK => ?_); go_simp)
  refine (g_push _ _).mono ?_; rintro e u ⟨g, n, c, rfl, h⟩; replace A := Lib.hid (A.out.more h.out); clear h
  refine hK.out _ _ (fun _ => HB.out _ A.out.bl) ?_
  (clear hK KK; try simp only [Act.put, List.setIfInBounds_toArray, List.set_cons_zero, List.set_cons_succ])
  (repeat (refine wpSeqE_take (v := ?_) rfl (by rfl) (fun wq hSq => ?_) ?_; rotate_left; (focus ((try dsimp only at hSq); go_simp; try with_reducible rfl)); simp only [Act.put, List.setIfInBounds_toArray, List.set_cons_zero, List.set_cons_succ]))
  (refine wpSeqE_do rfl (by rfl) (fun KK hK => ?_); go_simp)
  refine (g_two _ _).mono ?_; rintro e u ⟨g, n, c, rfl, h⟩; replace A := Lib.hid (A.out.more h.out); clear h
  refine hK.out _ _ (fun _ => HB.out _ A.out.bl) ?_
  (clear hK KK; try simp only [Act.put, List.setIfInBounds_toArray, List.set_cons_zero, List.set_cons_succ])
  (repeat (refine wpSeqE_take (v := ?_) rfl (by rfl) (fun wq hSq => ?_) ?_; rotate_left; (focus ((try dsimp only at hSq); go_simp; try with_reducible rfl)); simp only [Act.put, List.setIfInBounds_toArray, List.set_cons_zero, List.set_cons_succ]))
  (refine wpSeqE_do rfl (by rfl) (fun KK hK => ?_); go_simp)
  refine (g_to _ _ _).mono ?_; rintro e u ⟨g, n, c, rfl, h⟩; replace A := Lib.hid (A.out.more h.out); clear h
  refine hK.out _ _ (fun _ => HB.out _ A.out.bl) ?_
  (clear hK KK; try simp only [Act.put, List.setIfInBounds_toArray, List.set_cons_zero, List.set_cons_succ])
  (repeat (refine wpSeqE_take (v := ?_) rfl (by rfl) (fun wq hSq => ?_) ?_; rotate_left; (focus ((try dsimp only at hSq); go_simp; try with_reducible rfl)); simp only [Act.put, List.setIfInBounds_toArray, List.set_cons_zero, List.set_cons_succ]))
  (refine wpSeqE_do rfl (by rfl) (fun KK hK => ?_); go_simp)
  refine (g_do _ _ _).mono ?_; rintro e u ⟨g, n, c, rfl, h⟩; replace A := Lib.hid (A.out.more h.out); clear h
  refine hK.out _ _ (fun _ => HB.out _ A.out.bl) ?_
  (clear hK KK; try simp only [Act.put, List.setIfInBounds_toArray, List.set_cons_zero, List.set_cons_succ])
  (repeat (refine wpSeqE_take (v := ?_) rfl (by rfl) (fun wq hSq => ?_) ?_; rotate_left; (focus ((try dsimp only at hSq); go_simp; try with_reducible rfl)); simp only [Act.put, List.setIfInBounds_toArray, List.set_cons_zero, List.set_cons_succ]))
  (refine wpSeqE_do rfl (by rfl) (fun KK hK => ?_); go_simp)
  refine (g_mark _ _).mono ?_; rintro e u ⟨g, n, c, rfl, h⟩; replace A := Lib.hid (A.out.more h.out); clear h
  refine hK.out _ _ (fun _ => HB.out _ A.out.bl) ?_
  (clear hK KK; try simp only [Act.put, List.setIfInBounds_toArray, List.set_cons_zero, List.set_cons_succ])
  (repeat (refine wpSeqE_take (v := ?_) rfl (by rfl) (fun wq hSq => ?_) ?_; rotate_left; (focus ((try dsimp only at hSq); go_simp; try with_reducible rfl)); simp only [Act.put, List.setIfInBounds_toArray, List.set_cons_zero, List.set_cons_succ]))
  (refine wpSeqE_do rfl (by rfl) (fun KK hK => ?_); go_simp)
  refine (g_spare hB hR _).mono ?_; rintro e u ⟨rfl, h⟩; replace A := Lib.hid (A.out.on h); clear h
  refine hK.out _ _ (fun _ => HB.out _ A.out.bl) ?_
  (clear hK KK; try simp only [Act.put, List.setIfInBounds_toArray, List.set_cons_zero, List.set_cons_succ])
  (repeat (refine wpSeqE_take (v := ?_) rfl (by rfl) (fun wq hSq => ?_) ?_; rotate_left; (focus ((try dsimp only at hSq); go_simp; try with_reducible rfl)); simp only [Act.put, List.setIfInBounds_toArray, List.set_cons_zero, List.set_cons_succ]))
  (refine wpSeqE_do rfl (by rfl) (fun KK hK => ?_); go_simp)
  refine (g_folded hB hR _ _).mono ?_; rintro e u ⟨g, n, c, rfl, h⟩; replace A := Lib.hid (A.out.more h.out); clear h
  refine hK.out _ _ (fun _ => HB.out _ A.out.bl) ?_
  (clear hK KK; try simp only [Act.put, List.setIfInBounds_toArray, List.set_cons_zero, List.set_cons_succ])
  (repeat (refine wpSeqE_take (v := ?_) rfl (by rfl) (fun wq hSq => ?_) ?_; rotate_left; (focus ((try dsimp only at hSq); go_simp; try with_reducible rfl)); simp only [Act.put, List.setIfInBounds_toArray, List.set_cons_zero, List.set_cons_succ]))
  (refine wpSeqE_do rfl (by rfl) (fun KK hK => ?_); go_simp)
  refine (g_set _ _).mono ?_; rintro e u ⟨g, n, c, rfl, h⟩; replace A := Lib.hid (A.out.more h.out); clear h
  refine hK.out _ _ (fun _ => HB.out _ A.out.bl) ?_
  (clear hK KK; try simp only [Act.put, List.setIfInBounds_toArray, List.set_cons_zero, List.set_cons_succ])
  (repeat (refine wpSeqE_take (v := ?_) rfl (by rfl) (fun wq hSq => ?_) ?_; rotate_left; (focus ((try dsimp only at hSq); go_simp; try with_reducible rfl)); simp only [Act.put, List.setIfInBounds_toArray, List.set_cons_zero, List.set_cons_succ]))
  (refine wpSeqE_do rfl (by rfl) (fun KK hK => ?_); go_simp)
  refine (g_get _ _).mono ?_; rintro e u ⟨g, n, c, rfl, h⟩; replace A := Lib.hid (A.out.more h.out); clear h
  refine hK.out _ _ (fun _ => HB.out _ A.out.bl) ?_
  (clear hK KK; try simp only [Act.put, List.setIfInBounds_toArray, List.set_cons_zero, List.set_cons_succ])
  (repeat (refine wpSeqE_take (v := ?_) rfl (by rfl) (fun wq hSq => ?_) ?_; rotate_left; (focus ((try dsimp only at hSq); go_simp; try with_reducible rfl)); simp only [Act.put, List.setIfInBounds_toArray, List.set_cons_zero, List.set_cons_succ]))
  (refine wpSeqE_do rfl (by rfl) (fun KK hK => ?_); go_simp)
  refine (g_to _ _ _).mono ?_; rintro e u ⟨g, n, c, rfl, h⟩; replace A := Lib.hid (A.out.more h.out); clear h
  refine hK.out _ _ (fun _ => HB.out _ A.out.bl) ?_
  (clear hK KK; try simp only [Act.put, List.setIfInBounds_toArray, List.set_cons_zero, List.set_cons_succ])
  (repeat (refine wpSeqE_take (v := ?_) rfl (by rfl) (fun wq hSq => ?_) ?_; rotate_left; (focus ((try dsimp only at hSq); go_simp; try with_reducible rfl)); simp only [Act.put, List.setIfInBounds_toArray, List.set_cons_zero, List.set_cons_succ]))
  (refine wpSeqE_do rfl (by rfl) (fun KK hK => ?_); go_simp)
  refine (g_count hB hR _).mono ?_; rintro e u ⟨rfl, h⟩; replace A := Lib.hid (A.out.on h); clear h
  refine hK.out _ _ (fun _ => HB.out _ A.out.bl) ?_
  (clear hK KK; try simp only [Act.put, List.setIfInBounds_toArray, List.set_cons_zero, List.set_cons_succ])
  (repeat (refine wpSeqE_take (v := ?_) rfl (by rfl) (fun wq hSq => ?_) ?_; rotate_left; (focus ((try dsimp only at hSq); go_simp; try with_reducible rfl)); simp only [Act.put, List.setIfInBounds_toArray, List.set_cons_zero, List.set_cons_succ]))
  (refine wpSeqE_do rfl (by rfl) (fun KK hK => ?_); go_simp)
  refine (g_folded hB hR _ _).mono ?_; rintro e u ⟨g, n, c, rfl, h⟩; replace A := Lib.hid (A.out.more h.out); clear h
  refine hK.out _ _ (fun _ => HB.out _ A.out.bl) ?_
  (clear hK KK; try simp only [Act.put, List.setIfInBounds_toArray, List.set_cons_zero, List.set_cons_succ])
  (repeat (refine wpSeqE_take (v := ?_) rfl (by rfl) (fun wq hSq => ?_) ?_; rotate_left; (focus ((try dsimp only at hSq); go_simp; try with_reducible rfl)); simp only [Act.put, List.setIfInBounds_toArray, List.set_cons_zero, List.set_cons_succ]))
  (refine wpSeqE_do rfl (by rfl) (fun KK hK => ?_); go_simp)
  refine (g_push _ _).mono ?_; rintro e u ⟨g, n, c, rfl, h⟩; replace A := Lib.hid (A.out.more h.out); clear h
  refine hK.out _ _ (fun _ => HB.out _ A.out.bl) ?_
  (clear hK KK; try simp only [Act.put, List.setIfInBounds_toArray, List.set_cons_zero, List.set_cons_succ])
  (repeat (refine wpSeqE_take (v := ?_) rfl (by rfl) (fun wq hSq => ?_) ?_; rotate_left; (focus ((try dsimp only at hSq); go_simp; try with_reducible rfl)); simp only [Act.put, List.setIfInBounds_toArray, List.set_cons_zero, List.set_cons_succ]))
  (refine wpSeqE_do rfl (by rfl) (fun KK hK => ?_); go_simp)
  refine (g_two _ _).mono ?_; rintro e u ⟨g, n, c, rfl, h⟩; replace A := Lib.hid (A.out.more h.out); clear h
  refine hK.out _ _ (fun _ => HB.out _ A.out.bl) ?_
  (clear hK KK; try simp only [Act.put, List.setIfInBounds_toArray, List.set_cons_zero, List.set_cons_succ])
  (repeat (refine wpSeqE_take (v := ?_) rfl (by rfl) (fun wq hSq => ?_) ?_; rotate_left; (focus ((try dsimp only at hSq); go_simp; try with_reducible rfl)); simp only [Act.put, List.setIfInBounds_toArray, List.set_cons_zero, List.set_cons_succ]))
  (refine wpSeqE_do rfl (by rfl) (fun KK hK => ?_); go_simp)
  refine (g_set _ _).mono ?_; rintro e u ⟨g, n, c, rfl, h⟩; replace A := Lib.hid (A.out.more h.out); clear h
  refine hK.out _ _ (fun _ => HB.out _ A.out.bl) ?_
  (clear hK KK; try simp only [Act.put, List.setIfInBounds_toArray, List.set_cons_zero, List.set_cons_succ])
  (repeat (refine wpSeqE_take (v := ?_) rfl (by rfl) (fun wq hSq => ?_) ?_; rotate_left; (focus ((try dsimp only at hSq); go_simp; try with_reducible rfl)); simp only [Act.put, List.setIfInBounds_toArray, List.set_cons_zero, List.set_cons_succ]))
  (refine wpSeqE_do rfl (by rfl) (fun KK hK => ?_); go_simp)
  refine (g_mark _ _).mono ?_; rintro e u ⟨g, n, c, rfl, h⟩; replace A := Lib.hid (A.out.more h.out); clear h
  refine hK.out _ _ (fun _ => HB.out _ A.out.bl) ?_
  (clear hK KK; try simp only [Act.put, List.setIfInBounds_toArray, List.set_cons_zero, List.set_cons_succ])
  (repeat (refine wpSeqE_take (v := ?_) rfl (by rfl) (fun wq hSq => ?_) ?_; rotate_left; (focus ((try dsimp only at hSq); go_simp; try with_reducible rfl)); simp only [Act.put, List.setIfInBounds_toArray, List.set_cons_zero, List.set_cons_succ]))
  (refine wpSeqE_do rfl (by rfl) (fun KK hK => ?_); go_simp)
  refine (g_goTo hB hR _).mono ?_; rintro e u ⟨g, n, c, rfl, h⟩; replace A := Lib.hid (A.out.more h.out); clear h
  refine hK.out _ _ (fun _ => HB.out _ A.out.bl) ?_
  (clear hK KK; try simp only [Act.put, List.setIfInBounds_toArray, List.set_cons_zero, List.set_cons_succ])
  (repeat (refine wpSeqE_take (v := ?_) rfl (by rfl) (fun wq hSq => ?_) ?_; rotate_left; (focus ((try dsimp only at hSq); go_simp; try with_reducible rfl)); simp only [Act.put, List.setIfInBounds_toArray, List.set_cons_zero, List.set_cons_succ]))
  (refine wpSeqE_do rfl (by rfl) (fun KK hK => ?_); go_simp)
  refine (g_load _ _ _).mono ?_; rintro e u ⟨g, n, c, rfl, h⟩; replace A := Lib.hid (A.out.more h.out); clear h
  refine hK.out _ _ (fun _ => HB.out _ A.out.bl) ?_
  (clear hK KK; try simp only [Act.put, List.setIfInBounds_toArray, List.set_cons_zero, List.set_cons_succ])
  (repeat (refine wpSeqE_take (v := ?_) rfl (by rfl) (fun wq hSq => ?_) ?_; rotate_left; (focus ((try dsimp only at hSq); go_simp; try with_reducible rfl)); simp only [Act.put, List.setIfInBounds_toArray, List.set_cons_zero, List.set_cons_succ]))
  (refine wpSeqE_do rfl (by rfl) (fun KK hK => ?_); go_simp)
  refine (g_spare hB hR _).mono ?_; rintro e u ⟨rfl, h⟩; replace A := Lib.hid (A.out.on h); clear h
  refine hK.out _ _ (fun _ => HB.out _ A.out.bl) ?_
  (clear hK KK; try simp only [Act.put, List.setIfInBounds_toArray, List.set_cons_zero, List.set_cons_succ])
  (repeat (refine wpSeqE_take (v := ?_) rfl (by rfl) (fun wq hSq => ?_) ?_; rotate_left; (focus ((try dsimp only at hSq); go_simp; try with_reducible rfl)); simp only [Act.put, List.setIfInBounds_toArray, List.set_cons_zero, List.set_cons_succ]))
  (refine wpSeqE_do rfl (by rfl) (fun KK hK => ?_); go_simp)
  refine (g_push _ _).mono ?_; rintro e u ⟨g, n, c, rfl, h⟩; replace A := Lib.hid (A.out.more h.out); clear h
  refine hK.out _ _ (fun _ => HB.out _ A.out.bl) ?_
  (clear hK KK; try simp only [Act.put, List.setIfInBounds_toArray, List.set_cons_zero, List.set_cons_succ])
  (repeat (refine wpSeqE_take (v := ?_) rfl (by rfl) (fun wq hSq => ?_) ?_; rotate_left; (focus ((try dsimp only at hSq); go_simp; try with_reducible rfl)); simp only [Act.put, List.setIfInBounds_toArray, List.set_cons_zero, List.set_cons_succ]))
  (refine wpSeqE_do rfl (by rfl) (fun KK hK => ?_); go_simp)
  refine (g_write _).mono ?_; rintro e u ⟨g, n, c, rfl, h⟩; replace A := Lib.hid (A.out.more h.out); clear h
  refine hK.out _ _ (fun _ => HB.out _ A.out.bl) ?_
  (clear hK KK; try simp only [Act.put, List.setIfInBounds_toArray, List.set_cons_zero, List.set_cons_succ])
  (repeat (refine wpSeqE_take (v := ?_) rfl (by rfl) (fun wq hSq => ?_) ?_; rotate_left; (focus ((try dsimp only at hSq); go_simp; try with_reducible rfl)); simp only [Act.put, List.setIfInBounds_toArray, List.set_cons_zero, List.set_cons_succ]))
  (refine wpSeqE_do rfl (by rfl) (fun KK hK => ?_); go_simp)
  refine (g_arg _ _).mono ?_; rintro e u ⟨g, n, c, rfl, h⟩; replace A := Lib.hid (A.out.more h.out); clear h
  refine hK.out _ _ (fun _ => HB.out _ A.out.bl) ?_
  (clear hK KK; try simp only [Act.put, List.setIfInBounds_toArray, List.set_cons_zero, List.set_cons_succ])
  (repeat (refine wpSeqE_take (v := ?_) rfl (by rfl) (fun wq hSq => ?_) ?_; rotate_left; (focus ((try dsimp only at hSq); go_simp; try with_reducible rfl)); simp only [Act.put, List.setIfInBounds_toArray, List.set_cons_zero, List.set_cons_succ]))
  (refine wpSeqE_do rfl (by rfl) (fun KK hK => ?_); go_simp)
  refine hK.out _ _ (fun _ => HB.out _ (A.out.on (bl1 _ _)).bl) ?_
  (clear hK KK; try simp only [Act.put, List.setIfInBounds_toArray, List.set_cons_zero, List.set_cons_succ])
  (repeat (refine wpSeqE_take (v := ?_) rfl (by rfl) (fun wq hSq => ?_) ?_; rotate_left; (focus ((try dsimp only at hSq); go_simp; try with_reducible rfl)); simp only [Act.put, List.setIfInBounds_toArray, List.set_cons_zero, List.set_cons_succ]))
  (refine wpSeqE_do rfl (by rfl) (fun KK hK => ?_); go_simp)
  refine (g_store ((A.out.take 1).parts rfl) rfl (Nat.le_of_ble_eq_true rfl) (Nat.le_of_ble_eq_true rfl) (Nat.le_of_ble_eq_true rfl) _ _).mono ?_; rintro e u ⟨g, n, c, rfl, h⟩; replace A := Lib.hid ((A.out.drop 1).over h.out); clear h
  refine hK.out _ _ (fun _ => HB.out _ A.out.bl) ?_
  (clear hK KK; try simp only [Act.put, List.setIfInBounds_toArray, List.set_cons_zero, List.set_cons_succ])
  (repeat (refine wpSeqE_take (v := ?_) rfl (by rfl) (fun wq hSq => ?_) ?_; rotate_left; (focus ((try dsimp only at hSq); go_simp; try with_reducible rfl)); simp only [Act.put, List.setIfInBounds_toArray, List.set_cons_zero, List.set_cons_succ]))
  (refine wpSeqE_do rfl (by rfl) (fun KK hK => ?_); go_simp)
  refine (g_arg _ _).mono ?_; rintro e u ⟨g, n, c, rfl, h⟩; replace A := Lib.hid (A.out.more h.out); clear h
  refine hK.out _ _ (fun _ => HB.out _ A.out.bl) ?_
  (clear hK KK; try simp only [Act.put, List.setIfInBounds_toArray, List.set_cons_zero, List.set_cons_succ])
  (repeat (refine wpSeqE_take (v := ?_) rfl (by rfl) (fun wq hSq => ?_) ?_; rotate_left; (focus ((try dsimp only at hSq); go_simp; try with_reducible rfl)); simp only [Act.put, List.setIfInBounds_toArray, List.set_cons_zero, List.set_cons_succ]))
  (refine wpSeqE_do rfl (by rfl) (fun KK hK => ?_); go_simp)
  refine hK.out _ _ (fun _ => HB.out _ (A.out.on (bl1 _ _)).bl) ?_
  (clear hK KK; try simp only [Act.put, List.setIfInBounds_toArray, List.set_cons_zero, List.set_cons_succ])
  (repeat (refine wpSeqE_take (v := ?_) rfl (by rfl) (fun wq hSq => ?_) ?_; rotate_left; (focus ((try dsimp only at hSq); go_simp; try with_reducible rfl)); simp only [Act.put, List.setIfInBounds_toArray, List.set_cons_zero, List.set_cons_succ]))
  (refine wpSeqE_do rfl (by rfl) (fun KK hK => ?_); go_simp)
  refine (g_store ((A.out.take 1).parts rfl) rfl (Nat.le_of_ble_eq_true rfl) (Nat.le_of_ble_eq_true rfl) (Nat.le_of_ble_eq_true rfl) _ _).mono ?_; rintro e u ⟨g, n, c, rfl, h⟩; replace A := Lib.hid ((A.out.drop 1).over h.out); clear h
  refine hK.out _ _ (fun _ => HB.out _ A.out.bl) ?_
  (clear hK KK; try simp only [Act.put, List.setIfInBounds_toArray, List.set_cons_zero, List.set_cons_succ])
  (repeat (refine wpSeqE_take (v := ?_) rfl (by rfl) (fun wq hSq => ?_) ?_; rotate_left; (focus ((try dsimp only at hSq); go_simp; try with_reducible rfl)); simp only [Act.put, List.setIfInBounds_toArray, List.set_cons_zero, List.set_cons_succ]))
  (refine wpSeqE_do rfl (by rfl) (fun KK hK => ?_); go_simp)
  refine (g_push _ _).mono ?_; rintro e u ⟨g, n, c, rfl, h⟩; replace A := Lib.hid (A.out.more h.out); clear h
  refine hK.out _ _ (fun _ => HB.out _ A.out.bl) ?_
  (clear hK KK; try simp only [Act.put, List.setIfInBounds_toArray, List.set_cons_zero, List.set_cons_succ])
  (repeat (refine wpSeqE_take (v := ?_) rfl (by rfl) (fun wq hSq => ?_) ?_; rotate_left; (focus ((try dsimp only at hSq); go_simp; try with_reducible rfl)); simp only [Act.put, List.setIfInBounds_toArray, List.set_cons_zero, List.set_cons_succ]))
  (refine wpSeqE_do rfl (by rfl) (fun KK hK => ?_); go_simp)
  refine hK.out _ _ (fun _ => HB.out _ (A.out.on (bl1 _ _)).bl) ?_
  (clear hK KK; try simp only [Act.put, List.setIfInBounds_toArray, List.set_cons_zero, List.set_cons_succ])
  (repeat (refine wpSeqE_take (v := ?_) rfl (by rfl) (fun wq hSq => ?_) ?_; rotate_left; (focus ((try dsimp only at hSq); go_simp; try with_reducible rfl)); simp only [Act.put, List.setIfInBounds_toArray, List.set_cons_zero, List.set_cons_succ]))
  (refine wpSeqE_do rfl (by rfl) (fun KK hK => ?_); go_simp)
  refine (g_store ((A.out.take 1).parts rfl) rfl (Nat.le_of_ble_eq_true rfl) (Nat.le_of_ble_eq_true rfl) (Nat.le_of_ble_eq_true rfl) _ _).mono ?_; rintro e u ⟨g, n, c, rfl, h⟩; replace A := Lib.hid ((A.out.drop 1).over h.out); clear h
  refine hK.out _ _ (fun _ => HB.out _ A.out.bl) ?_
  (clear hK KK; try simp only [Act.put, List.setIfInBounds_toArray, List.set_cons_zero, List.set_cons_succ])
  (repeat (refine wpSeqE_take (v := ?_) rfl (by rfl) (fun wq hSq => ?_) ?_; rotate_left; (focus ((try dsimp only at hSq); go_simp; try with_reducible rfl)); simp only [Act.put, List.setIfInBounds_toArray, List.set_cons_zero, List.set_cons_succ]))
  (refine wpSeqE_do rfl (by rfl) (fun KK hK => ?_); go_simp)
  refine (g_get _ _).mono ?_; rintro e u ⟨g, n, c, rfl, h⟩; replace A := Lib.hid (A.out.more h.out); clear h
  refine hK.out _ _ (fun _ => HB.out _ A.out.bl) ?_
  (clear hK KK; try simp only [Act.put, List.setIfInBounds_toArray, List.set_cons_zero, List.set_cons_succ])
  (repeat (refine wpSeqE_take (v := ?_) rfl (by rfl) (fun wq hSq => ?_) ?_; rotate_left; (focus ((try dsimp only at hSq); go_simp; try with_reducible rfl)); simp only [Act.put, List.setIfInBounds_toArray, List.set_cons_zero, List.set_cons_succ]))
  (refine wpSeqE_do rfl (by rfl) (fun KK hK => ?_); go_simp)
  refine hK.out _ _ (fun _ => HB.out _ (A.out.on (bl1 _ _)).bl) ?_
  (clear hK KK; try simp only [Act.put, List.setIfInBounds_toArray, List.set_cons_zero, List.set_cons_succ])
  (repeat (refine wpSeqE_take (v := ?_) rfl (by rfl) (fun wq hSq => ?_) ?_; rotate_left; (focus ((try dsimp only at hSq); go_simp; try with_reducible rfl)); simp only [Act.put, List.setIfInBounds_toArray, List.set_cons_zero, List.set_cons_succ]))
  (refine wpSeqE_do rfl (by rfl) (fun KK hK => ?_); go_simp)
  refine (g_relink hB hR ((A.out.take 1).parts rfl) rfl (Nat.le_of_ble_eq_true rfl) (Nat.le_of_ble_eq_true rfl) (Nat.le_of_ble_eq_true rfl)).mono ?_; rintro e u ⟨g, n, c, rfl, h⟩; replace A := Lib.hid ((A.out.drop 1).over h.out); clear h
  refine hK.out _ _ (fun _ => HB.out _ A.out.bl) ?_
  (clear hK KK; try simp only [Act.put, List.setIfInBounds_toArray, List.set_cons_zero, List.set_cons_succ])
  (repeat (refine wpSeqE_take (v := ?_) rfl (by rfl) (fun wq hSq => ?_) ?_; rotate_left; (focus ((try dsimp only at hSq); go_simp; try with_reducible rfl)); simp only [Act.put, List.setIfInBounds_toArray, List.set_cons_zero, List.set_cons_succ]))
  (refine wpSeqE_do rfl (by rfl) (fun KK hK => ?_); go_simp)
  refine (g_grow hB hR _ _).mono ?_; rintro e u ⟨g, n, c, rfl, h⟩; replace A := Lib.hid (A.out.more h.out); clear h
  refine hK.out _ _ (fun _ => HB.out _ A.out.bl) ?_
  (clear hK KK; try simp only [Act.put, List.setIfInBounds_toArray, List.set_cons_zero, List.set_cons_succ])
  (repeat (refine wpSeqE_take (v := ?_) rfl (by rfl) (fun wq hSq => ?_) ?_; rotate_left; (focus ((try dsimp only at hSq); go_simp; try with_reducible rfl)); simp only [Act.put, List.setIfInBounds_toArray, List.set_cons_zero, List.set_cons_succ]))
  (refine wpSeqE_do rfl (by rfl) (fun KK hK => ?_); go_simp)
  refine (g_tell _ _).mono ?_; rintro e u ⟨g, n, c, rfl, h⟩; replace A := Lib.hid (A.out.more h.out); clear h
  refine hK.out _ _ (fun _ => HB.out _ A.out.bl) ?_
  (clear hK KK; try simp only [Act.put, List.setIfInBounds_toArray, List.set_cons_zero, List.set_cons_succ])
  (repeat (refine wpSeqE_take (v := ?_) rfl (by rfl) (fun wq hSq => ?_) ?_; rotate_left; (focus ((try dsimp only at hSq); go_simp; try with_reducible rfl)); simp only [Act.put, List.setIfInBounds_toArray, List.set_cons_zero, List.set_cons_succ]))
  (refine wpSeqE_do rfl (by rfl) (fun KK hK => ?_); go_simp)
  refine hK.out _ _ (fun _ => HB.out _ (A.out.on (bl1 _ _)).bl) ?_
  (clear hK KK; try simp only [Act.put, List.setIfInBounds_toArray, List.set_cons_zero, List.set_cons_succ])
  (repeat (refine wpSeqE_take (v := ?_) rfl (by rfl) (fun wq hSq => ?_) ?_; rotate_left; (focus ((try dsimp only at hSq); go_simp; try with_reducible rfl)); simp only [Act.put, List.setIfInBounds_toArray, List.set_cons_zero, List.set_cons_succ]))
  (refine wpSeqE_do rfl (by rfl) (fun KK hK => ?_); go_simp)
  refine (g_program 2 (A.out.parts rfl) rfl (Nat.le_of_ble_eq_true rfl) (Nat.le_of_ble_eq_true rfl) (Nat.le_of_ble_eq_true rfl) (put_wf B R) (HT.out.on ((pgW_bl w B R).trans (((A.out.on (bl1 _ _)).bl).mono (by rw [pgW_size]; omega)))) (put_ans B R)).mono ?_; rintro e u ⟨p, n, c, rfl, hZ⟩; have HBL := Lib.hid (A.out.bl.trans (((bl1 _ _).trans (hZ.out.2.2.mono (by simp))).mono A.out.bl.size)); obtain ⟨⟨x0, x1⟩, y0, y1, y2, y3, y4⟩ := pg_cells w B R _ HBL.out
  refine hK.out _ _ (fun _ => ⟨x0, x1⟩) ?_
  (clear hK KK; try simp only [Act.put, List.setIfInBounds_toArray, List.set_cons_zero, List.set_cons_succ])
  (repeat (refine wpSeqE_take (v := ?_) rfl (by rfl) (fun wq hSq => ?_) ?_; rotate_left; (focus ((try dsimp only at hSq); go_simp; try with_reducible rfl)); simp only [Act.put, List.setIfInBounds_toArray, List.set_cons_zero, List.set_cons_succ]))
  (refine wpSeqE_do rfl (by rfl) (fun KK hK => ?_); go_simp)
  refine hK.out _ _ (fun hn => absurd rfl hn) ?_
  (clear hK KK; try simp only [Act.put])
  refine wpSeqE_nil ?_
  go_wp2_with fail
  obtain ⟨f1, f2, f3⟩ := hZ.out
  change RowW 86 3 u p c n (codC ((bsOf 2 (putO B R).flatten).filled.map fixI)) at f2
  change n = (bsOf 2 (putO B R).flatten).code.length at f1
  rw [put_code] at f2
  obtain ⟨z1, z2, z3⟩ := pg_end (t := 2) HBL.out f2
  exact pg_back rfl (w.heap.size + 1) 2 p n c rfl z1 rfl ⟨p, n, c, rfl, f1.trans (bs_len (put_code B R)), z2, z3⟩
set_option maxHeartbeats 2000000 in
set_option maxRecDepth 100000 in
theorem g_pdel (hB : 0 ≤ B ∧ B ≤ 256) (hR : 0 ≤ R ∧ R ≤ 16) (hT : Shaped5 w) : Calls Tryz.prog 36 #[.agg #[.int .i64 B, .int .i64 R]] w fun e w' => PgC w 2 (delC B R) e w' := by
  have HB : Hid (∀ u, Below (pgW w B R).heap.size (pgW w B R) u → u.cell? ⟨w.heap.size, 0, none⟩ = some (.int .i64 B) ∧ u.cell? ⟨w.heap.size, 1, none⟩ = some (.int .i64 R)) := fun u k => (pg_cells w B R u k).1
  have A : Hid (Acc (pgW w B R) ((pgW w B R).drew) []) := acc_nil ((Same.drew _).below _)
  have HT : Hid (Shaped5 w) := hT
  clear hT
  go_enter Tryz.func36, Tryz.ntmps36
  go_wp2_with fail
  refine wp_region_seqE (fun u => u.cell? ⟨w.heap.size, 0, none⟩ = some (.int .i64 B) ∧ u.cell? ⟨w.heap.size, 1, none⟩ = some (.int .i64 R)) ((0, true) :: (5, true) :: (8, true) :: (15, true) :: (19, true) :: (20, true) :: (35, true) :: (36, true) :: (38, true) :: (45, true) :: (46, true) :: (52, true) :: (56, true) :: (1, false) :: (2, false) :: (3, false) :: (4, false) :: (6, false) :: (7, false) :: (9, false) :: (10, false) :: (11, false) :: (12, false) :: (13, false) :: (14, false) :: (16, false) :: (17, false) :: (18, false) :: (21, false) :: (22, false) :: (23, false) :: (24, false) :: (25, false) :: (26, false) :: (27, false) :: (28, false) :: (29, false) :: (30, false) :: (31, false) :: (32, false) :: (33, false) :: (34, false) :: (37, false) :: (39, false) :: (40, false) :: (41, false) :: (42, false) :: (43, false) :: (44, false) :: (47, false) :: (48, false) :: (49, false) :: (50, false) :: (51, false) :: (53, false) :: (54, false) :: (55, false) :: (57, false) :: (58, false) :: (59, false) :: (60, false) :: (61, false) :: []) follows (by kernel_rfl) (fun _ _ _ _ _ h => h) (HB.out _ ((Same.drew _).below _)) ?_
  (repeat (refine wpSeqE_take (v := ?_) rfl (by rfl) (fun wq hSq => ?_) ?_; rotate_left; (focus ((try dsimp only at hSq); go_simp; try with_reducible rfl)); simp only [Act.put, List.setIfInBounds_toArray, List.set_cons_zero, List.set_cons_succ]))
  (refine wpSeqE_do rfl (by rfl) (fun KK hK => ?_); go_simp)
  refine (g_search hB hR _).mono ?_; rintro e u ⟨g, n, c, rfl, h⟩; replace A := Lib.hid (A.out.more h.out); clear h
  refine hK.out _ _ (fun _ => HB.out _ A.out.bl) ?_
  (clear hK KK; try simp only [Act.put, List.setIfInBounds_toArray, List.set_cons_zero, List.set_cons_succ])
  (repeat (refine wpSeqE_take (v := ?_) rfl (by rfl) (fun wq hSq => ?_) ?_; rotate_left; (focus ((try dsimp only at hSq); go_simp; try with_reducible rfl)); simp only [Act.put, List.setIfInBounds_toArray, List.set_cons_zero, List.set_cons_succ]))
  (refine wpSeqE_do rfl (by rfl) (fun KK hK => ?_); go_simp)
  refine (g_mark _ _).mono ?_; rintro e u ⟨g, n, c, rfl, h⟩; replace A := Lib.hid (A.out.more h.out); clear h
  refine hK.out _ _ (fun _ => HB.out _ A.out.bl) ?_
  (clear hK KK; try simp only [Act.put, List.setIfInBounds_toArray, List.set_cons_zero, List.set_cons_succ])
  (repeat (refine wpSeqE_take (v := ?_) rfl (by rfl) (fun wq hSq => ?_) ?_; rotate_left; (focus ((try dsimp only at hSq); go_simp; try with_reducible rfl)); simp only [Act.put, List.setIfInBounds_toArray, List.set_cons_zero, List.set_cons_succ]))
  (refine wpSeqE_do rfl (by rfl) (fun KK hK => ?_); go_simp)
  refine (g_tell _ _).mono ?_; rintro e u ⟨g, n, c, rfl, h⟩; replace A := Lib.hid (A.out.more h.out); clear h
  refine hK.out _ _ (fun _ => HB.out _ A.out.bl) ?_
  (clear hK KK; try simp only [Act.put, List.setIfInBounds_toArray, List.set_cons_zero, List.set_cons_succ])
  (repeat (refine wpSeqE_take (v := ?_) rfl (by rfl) (fun wq hSq => ?_) ?_; rotate_left; (focus ((try dsimp only at hSq); go_simp; try with_reducible rfl)); simp only [Act.put, List.setIfInBounds_toArray, List.set_cons_zero, List.set_cons_succ]))
  (refine wpSeqE_do rfl (by rfl) (fun KK hK => ?_); go_simp)
  refine (g_mark _ _).mono ?_; rintro e u ⟨g, n, c, rfl, h⟩; replace A := Lib.hid (A.out.more h.out); clear h
  refine hK.out _ _ (fun _ => HB.out _ A.out.bl) ?_
  (clear hK KK; try simp only [Act.put, List.setIfInBounds_toArray, List.set_cons_zero, List.set_cons_succ])
  (repeat (refine wpSeqE_take (v := ?_) rfl (by rfl) (fun wq hSq => ?_) ?_; rotate_left; (focus ((try dsimp only at hSq); go_simp; try with_reducible rfl)); simp only [Act.put, List.setIfInBounds_toArray, List.set_cons_zero, List.set_cons_succ]))
  (refine wpSeqE_do rfl (by rfl) (fun KK hK => ?_); go_simp)
  refine (g_ahead hB hR _).mono ?_; rintro e u ⟨g, n, c, rfl, h⟩; replace A := Lib.hid (A.out.more h.out); clear h
  refine hK.out _ _ (fun _ => HB.out _ A.out.bl) ?_
  (clear hK KK; try simp only [Act.put, List.setIfInBounds_toArray, List.set_cons_zero, List.set_cons_succ])
  (repeat (refine wpSeqE_take (v := ?_) rfl (by rfl) (fun wq hSq => ?_) ?_; rotate_left; (focus ((try dsimp only at hSq); go_simp; try with_reducible rfl)); simp only [Act.put, List.setIfInBounds_toArray, List.set_cons_zero, List.set_cons_succ]))
  (refine wpSeqE_do rfl (by rfl) (fun KK hK => ?_); go_simp)
  refine (g_to _ _ _).mono ?_; rintro e u ⟨g, n, c, rfl, h⟩; replace A := Lib.hid (A.out.more h.out); clear h
  refine hK.out _ _ (fun _ => HB.out _ A.out.bl) ?_
  (clear hK KK; try simp only [Act.put, List.setIfInBounds_toArray, List.set_cons_zero, List.set_cons_succ])
  (repeat (refine wpSeqE_take (v := ?_) rfl (by rfl) (fun wq hSq => ?_) ?_; rotate_left; (focus ((try dsimp only at hSq); go_simp; try with_reducible rfl)); simp only [Act.put, List.setIfInBounds_toArray, List.set_cons_zero, List.set_cons_succ]))
  (refine wpSeqE_do rfl (by rfl) (fun KK hK => ?_); go_simp)
  refine (g_behind hB hR _).mono ?_; rintro e u ⟨g, n, c, rfl, h⟩; replace A := Lib.hid (A.out.more h.out); clear h
  refine hK.out _ _ (fun _ => HB.out _ A.out.bl) ?_
  (clear hK KK; try simp only [Act.put, List.setIfInBounds_toArray, List.set_cons_zero, List.set_cons_succ])
  (repeat (refine wpSeqE_take (v := ?_) rfl (by rfl) (fun wq hSq => ?_) ?_; rotate_left; (focus ((try dsimp only at hSq); go_simp; try with_reducible rfl)); simp only [Act.put, List.setIfInBounds_toArray, List.set_cons_zero, List.set_cons_succ]))
  (refine wpSeqE_do rfl (by rfl) (fun KK hK => ?_); go_simp)
  refine (g_to _ _ _).mono ?_; rintro e u ⟨g, n, c, rfl, h⟩; replace A := Lib.hid (A.out.more h.out); clear h
  refine hK.out _ _ (fun _ => HB.out _ A.out.bl) ?_
  (clear hK KK; try simp only [Act.put, List.setIfInBounds_toArray, List.set_cons_zero, List.set_cons_succ])
  (repeat (refine wpSeqE_take (v := ?_) rfl (by rfl) (fun wq hSq => ?_) ?_; rotate_left; (focus ((try dsimp only at hSq); go_simp; try with_reducible rfl)); simp only [Act.put, List.setIfInBounds_toArray, List.set_cons_zero, List.set_cons_succ]))
  (refine wpSeqE_do rfl (by rfl) (fun KK hK => ?_); go_simp)
  refine (g_get _ _).mono ?_; rintro e u ⟨g, n, c, rfl, h⟩; replace A := Lib.hid (A.out.more h.out); clear h
  refine hK.out _ _ (fun _ => HB.out _ A.out.bl) ?_
  (clear hK KK; try simp only [Act.put, List.setIfInBounds_toArray, List.set_cons_zero, List.set_cons_succ])
  (repeat (refine wpSeqE_take (v := ?_) rfl (by rfl) (fun wq hSq => ?_) ?_; rotate_left; (focus ((try dsimp only at hSq); go_simp; try with_reducible rfl)); simp only [Act.put, List.setIfInBounds_toArray, List.set_cons_zero, List.set_cons_succ]))
  (refine wpSeqE_do rfl (by rfl) (fun KK hK => ?_); go_simp)
  refine (g_set _ _).mono ?_; rintro e u ⟨g, n, c, rfl, h⟩; replace A := Lib.hid (A.out.more h.out); clear h
  refine hK.out _ _ (fun _ => HB.out _ A.out.bl) ?_
  (clear hK KK; try simp only [Act.put, List.setIfInBounds_toArray, List.set_cons_zero, List.set_cons_succ])
  (repeat (refine wpSeqE_take (v := ?_) rfl (by rfl) (fun wq hSq => ?_) ?_; rotate_left; (focus ((try dsimp only at hSq); go_simp; try with_reducible rfl)); simp only [Act.put, List.setIfInBounds_toArray, List.set_cons_zero, List.set_cons_succ]))
  (refine wpSeqE_do rfl (by rfl) (fun KK hK => ?_); go_simp)
  refine (g_cell _ _ _).mono ?_; rintro e u ⟨g, n, c, rfl, h⟩; replace A := Lib.hid (A.out.more h.out); clear h
  refine hK.out _ _ (fun _ => HB.out _ A.out.bl) ?_
  (clear hK KK; try simp only [Act.put, List.setIfInBounds_toArray, List.set_cons_zero, List.set_cons_succ])
  (repeat (refine wpSeqE_take (v := ?_) rfl (by rfl) (fun wq hSq => ?_) ?_; rotate_left; (focus ((try dsimp only at hSq); go_simp; try with_reducible rfl)); simp only [Act.put, List.setIfInBounds_toArray, List.set_cons_zero, List.set_cons_succ]))
  (refine wpSeqE_do rfl (by rfl) (fun KK hK => ?_); go_simp)
  refine (g_set _ _).mono ?_; rintro e u ⟨g, n, c, rfl, h⟩; replace A := Lib.hid (A.out.more h.out); clear h
  refine hK.out _ _ (fun _ => HB.out _ A.out.bl) ?_
  (clear hK KK; try simp only [Act.put, List.setIfInBounds_toArray, List.set_cons_zero, List.set_cons_succ])
  (repeat (refine wpSeqE_take (v := ?_) rfl (by rfl) (fun wq hSq => ?_) ?_; rotate_left; (focus ((try dsimp only at hSq); go_simp; try with_reducible rfl)); simp only [Act.put, List.setIfInBounds_toArray, List.set_cons_zero, List.set_cons_succ]))
  (refine wpSeqE_do rfl (by rfl) (fun KK hK => ?_); go_simp)
  refine (g_wide hB hR _).mono ?_; rintro e u ⟨rfl, h⟩; replace A := Lib.hid (A.out.on h); clear h
  refine hK.out _ _ (fun _ => HB.out _ A.out.bl) ?_
  (clear hK KK; try simp only [Act.put, List.setIfInBounds_toArray, List.set_cons_zero, List.set_cons_succ])
  (repeat (refine wpSeqE_take (v := ?_) rfl (by rfl) (fun wq hSq => ?_) ?_; rotate_left; (focus ((try dsimp only at hSq); go_simp; try with_reducible rfl)); simp only [Act.put, List.setIfInBounds_toArray, List.set_cons_zero, List.set_cons_succ]))
  (refine wpSeqE_do rfl (by rfl) (fun KK hK => ?_); go_simp)
  refine (g_push _ _).mono ?_; rintro e u ⟨g, n, c, rfl, h⟩; replace A := Lib.hid (A.out.more h.out); clear h
  refine hK.out _ _ (fun _ => HB.out _ A.out.bl) ?_
  (clear hK KK; try simp only [Act.put, List.setIfInBounds_toArray, List.set_cons_zero, List.set_cons_succ])
  (repeat (refine wpSeqE_take (v := ?_) rfl (by rfl) (fun wq hSq => ?_) ?_; rotate_left; (focus ((try dsimp only at hSq); go_simp; try with_reducible rfl)); simp only [Act.put, List.setIfInBounds_toArray, List.set_cons_zero, List.set_cons_succ]))
  (refine wpSeqE_do rfl (by rfl) (fun KK hK => ?_); go_simp)
  refine (g_set _ _).mono ?_; rintro e u ⟨g, n, c, rfl, h⟩; replace A := Lib.hid (A.out.more h.out); clear h
  refine hK.out _ _ (fun _ => HB.out _ A.out.bl) ?_
  (clear hK KK; try simp only [Act.put, List.setIfInBounds_toArray, List.set_cons_zero, List.set_cons_succ])
  (repeat (refine wpSeqE_take (v := ?_) rfl (by rfl) (fun wq hSq => ?_) ?_; rotate_left; (focus ((try dsimp only at hSq); go_simp; try with_reducible rfl)); simp only [Act.put, List.setIfInBounds_toArray, List.set_cons_zero, List.set_cons_succ]))
  (refine wpSeqE_do rfl (by rfl) (fun KK hK => ?_); go_simp)
  refine (g_ahead hB hR _).mono ?_; rintro e u ⟨g, n, c, rfl, h⟩; replace A := Lib.hid (A.out.more h.out); clear h
  refine hK.out _ _ (fun _ => HB.out _ A.out.bl) ?_
  (clear hK KK; try simp only [Act.put, List.setIfInBounds_toArray, List.set_cons_zero, List.set_cons_succ])
  (repeat (refine wpSeqE_take (v := ?_) rfl (by rfl) (fun wq hSq => ?_) ?_; rotate_left; (focus ((try dsimp only at hSq); go_simp; try with_reducible rfl)); simp only [Act.put, List.setIfInBounds_toArray, List.set_cons_zero, List.set_cons_succ]))
  (refine wpSeqE_do rfl (by rfl) (fun KK hK => ?_); go_simp)
  refine (g_to _ _ _).mono ?_; rintro e u ⟨g, n, c, rfl, h⟩; replace A := Lib.hid (A.out.more h.out); clear h
  refine hK.out _ _ (fun _ => HB.out _ A.out.bl) ?_
  (clear hK KK; try simp only [Act.put, List.setIfInBounds_toArray, List.set_cons_zero, List.set_cons_succ])
  (repeat (refine wpSeqE_take (v := ?_) rfl (by rfl) (fun wq hSq => ?_) ?_; rotate_left; (focus ((try dsimp only at hSq); go_simp; try with_reducible rfl)); simp only [Act.put, List.setIfInBounds_toArray, List.set_cons_zero, List.set_cons_succ]))
  (refine wpSeqE_do rfl (by rfl) (fun KK hK => ?_); go_simp)
  refine (g_push _ _).mono ?_; rintro e u ⟨g, n, c, rfl, h⟩; replace A := Lib.hid (A.out.more h.out); clear h
  refine hK.out _ _ (fun _ => HB.out _ A.out.bl) ?_
  (clear hK KK; try simp only [Act.put, List.setIfInBounds_toArray, List.set_cons_zero, List.set_cons_succ])
  (repeat (refine wpSeqE_take (v := ?_) rfl (by rfl) (fun wq hSq => ?_) ?_; rotate_left; (focus ((try dsimp only at hSq); go_simp; try with_reducible rfl)); simp only [Act.put, List.setIfInBounds_toArray, List.set_cons_zero, List.set_cons_succ]))
  (refine wpSeqE_do rfl (by rfl) (fun KK hK => ?_); go_simp)
  refine (g_set _ _).mono ?_; rintro e u ⟨g, n, c, rfl, h⟩; replace A := Lib.hid (A.out.more h.out); clear h
  refine hK.out _ _ (fun _ => HB.out _ A.out.bl) ?_
  (clear hK KK; try simp only [Act.put, List.setIfInBounds_toArray, List.set_cons_zero, List.set_cons_succ])
  (repeat (refine wpSeqE_take (v := ?_) rfl (by rfl) (fun wq hSq => ?_) ?_; rotate_left; (focus ((try dsimp only at hSq); go_simp; try with_reducible rfl)); simp only [Act.put, List.setIfInBounds_toArray, List.set_cons_zero, List.set_cons_succ]))
  (refine wpSeqE_do rfl (by rfl) (fun KK hK => ?_); go_simp)
  refine hK.out _ _ (fun _ => HB.out _ (A.out.on (bl1 _ _)).bl) ?_
  (clear hK KK; try simp only [Act.put, List.setIfInBounds_toArray, List.set_cons_zero, List.set_cons_succ])
  (repeat (refine wpSeqE_take (v := ?_) rfl (by rfl) (fun wq hSq => ?_) ?_; rotate_left; (focus ((try dsimp only at hSq); go_simp; try with_reducible rfl)); simp only [Act.put, List.setIfInBounds_toArray, List.set_cons_zero, List.set_cons_succ]))
  (refine wpSeqE_do rfl (by rfl) (fun KK hK => ?_); go_simp)
  refine (g_walk hB hR ((A.out.take 4).parts rfl) rfl (Nat.le_of_ble_eq_true rfl) (Nat.le_of_ble_eq_true rfl) (Nat.le_of_ble_eq_true rfl) _ _).mono ?_; rintro e u ⟨g, n, c, rfl, h⟩; replace A := Lib.hid ((A.out.drop 4).over h.out); clear h
  refine hK.out _ _ (fun _ => HB.out _ A.out.bl) ?_
  (clear hK KK; try simp only [Act.put, List.setIfInBounds_toArray, List.set_cons_zero, List.set_cons_succ])
  (repeat (refine wpSeqE_take (v := ?_) rfl (by rfl) (fun wq hSq => ?_) ?_; rotate_left; (focus ((try dsimp only at hSq); go_simp; try with_reducible rfl)); simp only [Act.put, List.setIfInBounds_toArray, List.set_cons_zero, List.set_cons_succ]))
  (refine wpSeqE_do rfl (by rfl) (fun KK hK => ?_); go_simp)
  refine (g_mark _ _).mono ?_; rintro e u ⟨g, n, c, rfl, h⟩; replace A := Lib.hid (A.out.more h.out); clear h
  refine hK.out _ _ (fun _ => HB.out _ A.out.bl) ?_
  (clear hK KK; try simp only [Act.put, List.setIfInBounds_toArray, List.set_cons_zero, List.set_cons_succ])
  (repeat (refine wpSeqE_take (v := ?_) rfl (by rfl) (fun wq hSq => ?_) ?_; rotate_left; (focus ((try dsimp only at hSq); go_simp; try with_reducible rfl)); simp only [Act.put, List.setIfInBounds_toArray, List.set_cons_zero, List.set_cons_succ]))
  (refine wpSeqE_do rfl (by rfl) (fun KK hK => ?_); go_simp)
  refine (g_load _ _ _).mono ?_; rintro e u ⟨g, n, c, rfl, h⟩; replace A := Lib.hid (A.out.more h.out); clear h
  refine hK.out _ _ (fun _ => HB.out _ A.out.bl) ?_
  (clear hK KK; try simp only [Act.put, List.setIfInBounds_toArray, List.set_cons_zero, List.set_cons_succ])
  (repeat (refine wpSeqE_take (v := ?_) rfl (by rfl) (fun wq hSq => ?_) ?_; rotate_left; (focus ((try dsimp only at hSq); go_simp; try with_reducible rfl)); simp only [Act.put, List.setIfInBounds_toArray, List.set_cons_zero, List.set_cons_succ]))
  (refine wpSeqE_do rfl (by rfl) (fun KK hK => ?_); go_simp)
  refine hK.out _ _ (fun _ => HB.out _ (A.out.on (bl1 _ _)).bl) ?_
  (clear hK KK; try simp only [Act.put, List.setIfInBounds_toArray, List.set_cons_zero, List.set_cons_succ])
  (repeat (refine wpSeqE_take (v := ?_) rfl (by rfl) (fun wq hSq => ?_) ?_; rotate_left; (focus ((try dsimp only at hSq); go_simp; try with_reducible rfl)); simp only [Act.put, List.setIfInBounds_toArray, List.set_cons_zero, List.set_cons_succ]))
  (refine wpSeqE_do rfl (by rfl) (fun KK hK => ?_); go_simp)
  refine (g_store ((A.out.take 1).parts rfl) rfl (Nat.le_of_ble_eq_true rfl) (Nat.le_of_ble_eq_true rfl) (Nat.le_of_ble_eq_true rfl) _ _).mono ?_; rintro e u ⟨g, n, c, rfl, h⟩; replace A := Lib.hid ((A.out.drop 1).over h.out); clear h
  refine hK.out _ _ (fun _ => HB.out _ A.out.bl) ?_
  (clear hK KK; try simp only [Act.put, List.setIfInBounds_toArray, List.set_cons_zero, List.set_cons_succ])
  (repeat (refine wpSeqE_take (v := ?_) rfl (by rfl) (fun wq hSq => ?_) ?_; rotate_left; (focus ((try dsimp only at hSq); go_simp; try with_reducible rfl)); simp only [Act.put, List.setIfInBounds_toArray, List.set_cons_zero, List.set_cons_succ]))
  (refine wpSeqE_do rfl (by rfl) (fun KK hK => ?_); go_simp)
  refine (g_load _ _ _).mono ?_; rintro e u ⟨g, n, c, rfl, h⟩; replace A := Lib.hid (A.out.more h.out); clear h
  refine hK.out _ _ (fun _ => HB.out _ A.out.bl) ?_
  (clear hK KK; try simp only [Act.put, List.setIfInBounds_toArray, List.set_cons_zero, List.set_cons_succ])
  (repeat (refine wpSeqE_take (v := ?_) rfl (by rfl) (fun wq hSq => ?_) ?_; rotate_left; (focus ((try dsimp only at hSq); go_simp; try with_reducible rfl)); simp only [Act.put, List.setIfInBounds_toArray, List.set_cons_zero, List.set_cons_succ]))
  (refine wpSeqE_do rfl (by rfl) (fun KK hK => ?_); go_simp)
  refine hK.out _ _ (fun _ => HB.out _ (A.out.on (bl1 _ _)).bl) ?_
  (clear hK KK; try simp only [Act.put, List.setIfInBounds_toArray, List.set_cons_zero, List.set_cons_succ])
  (repeat (refine wpSeqE_take (v := ?_) rfl (by rfl) (fun wq hSq => ?_) ?_; rotate_left; (focus ((try dsimp only at hSq); go_simp; try with_reducible rfl)); simp only [Act.put, List.setIfInBounds_toArray, List.set_cons_zero, List.set_cons_succ]))
  (refine wpSeqE_do rfl (by rfl) (fun KK hK => ?_); go_simp)
  refine (g_store ((A.out.take 1).parts rfl) rfl (Nat.le_of_ble_eq_true rfl) (Nat.le_of_ble_eq_true rfl) (Nat.le_of_ble_eq_true rfl) _ _).mono ?_; rintro e u ⟨g, n, c, rfl, h⟩; replace A := Lib.hid ((A.out.drop 1).over h.out); clear h
  refine hK.out _ _ (fun _ => HB.out _ A.out.bl) ?_
  (clear hK KK; try simp only [Act.put, List.setIfInBounds_toArray, List.set_cons_zero, List.set_cons_succ])
  (repeat (refine wpSeqE_take (v := ?_) rfl (by rfl) (fun wq hSq => ?_) ?_; rotate_left; (focus ((try dsimp only at hSq); go_simp; try with_reducible rfl)); simp only [Act.put, List.setIfInBounds_toArray, List.set_cons_zero, List.set_cons_succ]))
  (refine wpSeqE_do rfl (by rfl) (fun KK hK => ?_); go_simp)
  refine (g_mark _ _).mono ?_; rintro e u ⟨g, n, c, rfl, h⟩; replace A := Lib.hid (A.out.more h.out); clear h
  refine hK.out _ _ (fun _ => HB.out _ A.out.bl) ?_
  (clear hK KK; try simp only [Act.put, List.setIfInBounds_toArray, List.set_cons_zero, List.set_cons_succ])
  (repeat (refine wpSeqE_take (v := ?_) rfl (by rfl) (fun wq hSq => ?_) ?_; rotate_left; (focus ((try dsimp only at hSq); go_simp; try with_reducible rfl)); simp only [Act.put, List.setIfInBounds_toArray, List.set_cons_zero, List.set_cons_succ]))
  (refine wpSeqE_do rfl (by rfl) (fun KK hK => ?_); go_simp)
  refine (g_ahead hB hR _).mono ?_; rintro e u ⟨g, n, c, rfl, h⟩; replace A := Lib.hid (A.out.more h.out); clear h
  refine hK.out _ _ (fun _ => HB.out _ A.out.bl) ?_
  (clear hK KK; try simp only [Act.put, List.setIfInBounds_toArray, List.set_cons_zero, List.set_cons_succ])
  (repeat (refine wpSeqE_take (v := ?_) rfl (by rfl) (fun wq hSq => ?_) ?_; rotate_left; (focus ((try dsimp only at hSq); go_simp; try with_reducible rfl)); simp only [Act.put, List.setIfInBounds_toArray, List.set_cons_zero, List.set_cons_succ]))
  (refine wpSeqE_do rfl (by rfl) (fun KK hK => ?_); go_simp)
  refine (g_behind hB hR _).mono ?_; rintro e u ⟨g, n, c, rfl, h⟩; replace A := Lib.hid (A.out.more h.out); clear h
  refine hK.out _ _ (fun _ => HB.out _ A.out.bl) ?_
  (clear hK KK; try simp only [Act.put, List.setIfInBounds_toArray, List.set_cons_zero, List.set_cons_succ])
  (repeat (refine wpSeqE_take (v := ?_) rfl (by rfl) (fun wq hSq => ?_) ?_; rotate_left; (focus ((try dsimp only at hSq); go_simp; try with_reducible rfl)); simp only [Act.put, List.setIfInBounds_toArray, List.set_cons_zero, List.set_cons_succ]))
  (refine wpSeqE_do rfl (by rfl) (fun KK hK => ?_); go_simp)
  refine (g_two _ _).mono ?_; rintro e u ⟨g, n, c, rfl, h⟩; replace A := Lib.hid (A.out.more h.out); clear h
  refine hK.out _ _ (fun _ => HB.out _ A.out.bl) ?_
  (clear hK KK; try simp only [Act.put, List.setIfInBounds_toArray, List.set_cons_zero, List.set_cons_succ])
  (repeat (refine wpSeqE_take (v := ?_) rfl (by rfl) (fun wq hSq => ?_) ?_; rotate_left; (focus ((try dsimp only at hSq); go_simp; try with_reducible rfl)); simp only [Act.put, List.setIfInBounds_toArray, List.set_cons_zero, List.set_cons_succ]))
  (refine wpSeqE_do rfl (by rfl) (fun KK hK => ?_); go_simp)
  refine (g_get _ _).mono ?_; rintro e u ⟨g, n, c, rfl, h⟩; replace A := Lib.hid (A.out.more h.out); clear h
  refine hK.out _ _ (fun _ => HB.out _ A.out.bl) ?_
  (clear hK KK; try simp only [Act.put, List.setIfInBounds_toArray, List.set_cons_zero, List.set_cons_succ])
  (repeat (refine wpSeqE_take (v := ?_) rfl (by rfl) (fun wq hSq => ?_) ?_; rotate_left; (focus ((try dsimp only at hSq); go_simp; try with_reducible rfl)); simp only [Act.put, List.setIfInBounds_toArray, List.set_cons_zero, List.set_cons_succ]))
  (refine wpSeqE_do rfl (by rfl) (fun KK hK => ?_); go_simp)
  refine (g_two _ _).mono ?_; rintro e u ⟨g, n, c, rfl, h⟩; replace A := Lib.hid (A.out.more h.out); clear h
  refine hK.out _ _ (fun _ => HB.out _ A.out.bl) ?_
  (clear hK KK; try simp only [Act.put, List.setIfInBounds_toArray, List.set_cons_zero, List.set_cons_succ])
  (repeat (refine wpSeqE_take (v := ?_) rfl (by rfl) (fun wq hSq => ?_) ?_; rotate_left; (focus ((try dsimp only at hSq); go_simp; try with_reducible rfl)); simp only [Act.put, List.setIfInBounds_toArray, List.set_cons_zero, List.set_cons_succ]))
  (refine wpSeqE_do rfl (by rfl) (fun KK hK => ?_); go_simp)
  refine hK.out _ _ (fun _ => HB.out _ (A.out.on (bl1 _ _)).bl) ?_
  (clear hK KK; try simp only [Act.put, List.setIfInBounds_toArray, List.set_cons_zero, List.set_cons_succ])
  (repeat (refine wpSeqE_take (v := ?_) rfl (by rfl) (fun wq hSq => ?_) ?_; rotate_left; (focus ((try dsimp only at hSq); go_simp; try with_reducible rfl)); simp only [Act.put, List.setIfInBounds_toArray, List.set_cons_zero, List.set_cons_succ]))
  (refine wpSeqE_do rfl (by rfl) (fun KK hK => ?_); go_simp)
  refine (g_relink hB hR ((A.out.take 5).parts rfl) rfl (Nat.le_of_ble_eq_true rfl) (Nat.le_of_ble_eq_true rfl) (Nat.le_of_ble_eq_true rfl)).mono ?_; rintro e u ⟨g, n, c, rfl, h⟩; replace A := Lib.hid ((A.out.drop 5).over h.out); clear h
  refine hK.out _ _ (fun _ => HB.out _ A.out.bl) ?_
  (clear hK KK; try simp only [Act.put, List.setIfInBounds_toArray, List.set_cons_zero, List.set_cons_succ])
  (repeat (refine wpSeqE_take (v := ?_) rfl (by rfl) (fun wq hSq => ?_) ?_; rotate_left; (focus ((try dsimp only at hSq); go_simp; try with_reducible rfl)); simp only [Act.put, List.setIfInBounds_toArray, List.set_cons_zero, List.set_cons_succ]))
  (refine wpSeqE_do rfl (by rfl) (fun KK hK => ?_); go_simp)
  refine (g_spare hB hR _).mono ?_; rintro e u ⟨rfl, h⟩; replace A := Lib.hid (A.out.on h); clear h
  refine hK.out _ _ (fun _ => HB.out _ A.out.bl) ?_
  (clear hK KK; try simp only [Act.put, List.setIfInBounds_toArray, List.set_cons_zero, List.set_cons_succ])
  (repeat (refine wpSeqE_take (v := ?_) rfl (by rfl) (fun wq hSq => ?_) ?_; rotate_left; (focus ((try dsimp only at hSq); go_simp; try with_reducible rfl)); simp only [Act.put, List.setIfInBounds_toArray, List.set_cons_zero, List.set_cons_succ]))
  (refine wpSeqE_do rfl (by rfl) (fun KK hK => ?_); go_simp)
  refine (g_folded hB hR _ _).mono ?_; rintro e u ⟨g, n, c, rfl, h⟩; replace A := Lib.hid (A.out.more h.out); clear h
  refine hK.out _ _ (fun _ => HB.out _ A.out.bl) ?_
  (clear hK KK; try simp only [Act.put, List.setIfInBounds_toArray, List.set_cons_zero, List.set_cons_succ])
  (repeat (refine wpSeqE_take (v := ?_) rfl (by rfl) (fun wq hSq => ?_) ?_; rotate_left; (focus ((try dsimp only at hSq); go_simp; try with_reducible rfl)); simp only [Act.put, List.setIfInBounds_toArray, List.set_cons_zero, List.set_cons_succ]))
  (refine wpSeqE_do rfl (by rfl) (fun KK hK => ?_); go_simp)
  refine hK.out _ _ (fun _ => HB.out _ (A.out.on (bl1 _ _)).bl) ?_
  (clear hK KK; try simp only [Act.put, List.setIfInBounds_toArray, List.set_cons_zero, List.set_cons_succ])
  (repeat (refine wpSeqE_take (v := ?_) rfl (by rfl) (fun wq hSq => ?_) ?_; rotate_left; (focus ((try dsimp only at hSq); go_simp; try with_reducible rfl)); simp only [Act.put, List.setIfInBounds_toArray, List.set_cons_zero, List.set_cons_succ]))
  (refine wpSeqE_do rfl (by rfl) (fun KK hK => ?_); go_simp)
  refine (g_store ((A.out.take 1).parts rfl) rfl (Nat.le_of_ble_eq_true rfl) (Nat.le_of_ble_eq_true rfl) (Nat.le_of_ble_eq_true rfl) _ _).mono ?_; rintro e u ⟨g, n, c, rfl, h⟩; replace A := Lib.hid ((A.out.drop 1).over h.out); clear h
  refine hK.out _ _ (fun _ => HB.out _ A.out.bl) ?_
  (clear hK KK; try simp only [Act.put, List.setIfInBounds_toArray, List.set_cons_zero, List.set_cons_succ])
  (repeat (refine wpSeqE_take (v := ?_) rfl (by rfl) (fun wq hSq => ?_) ?_; rotate_left; (focus ((try dsimp only at hSq); go_simp; try with_reducible rfl)); simp only [Act.put, List.setIfInBounds_toArray, List.set_cons_zero, List.set_cons_succ]))
  (refine wpSeqE_do rfl (by rfl) (fun KK hK => ?_); go_simp)
  refine (g_get _ _).mono ?_; rintro e u ⟨g, n, c, rfl, h⟩; replace A := Lib.hid (A.out.more h.out); clear h
  refine hK.out _ _ (fun _ => HB.out _ A.out.bl) ?_
  (clear hK KK; try simp only [Act.put, List.setIfInBounds_toArray, List.set_cons_zero, List.set_cons_succ])
  (repeat (refine wpSeqE_take (v := ?_) rfl (by rfl) (fun wq hSq => ?_) ?_; rotate_left; (focus ((try dsimp only at hSq); go_simp; try with_reducible rfl)); simp only [Act.put, List.setIfInBounds_toArray, List.set_cons_zero, List.set_cons_succ]))
  (refine wpSeqE_do rfl (by rfl) (fun KK hK => ?_); go_simp)
  refine (g_spare hB hR _).mono ?_; rintro e u ⟨rfl, h⟩; replace A := Lib.hid (A.out.on h); clear h
  refine hK.out _ _ (fun _ => HB.out _ A.out.bl) ?_
  (clear hK KK; try simp only [Act.put, List.setIfInBounds_toArray, List.set_cons_zero, List.set_cons_succ])
  (repeat (refine wpSeqE_take (v := ?_) rfl (by rfl) (fun wq hSq => ?_) ?_; rotate_left; (focus ((try dsimp only at hSq); go_simp; try with_reducible rfl)); simp only [Act.put, List.setIfInBounds_toArray, List.set_cons_zero, List.set_cons_succ]))
  (refine wpSeqE_do rfl (by rfl) (fun KK hK => ?_); go_simp)
  refine (g_push _ _).mono ?_; rintro e u ⟨g, n, c, rfl, h⟩; replace A := Lib.hid (A.out.more h.out); clear h
  refine hK.out _ _ (fun _ => HB.out _ A.out.bl) ?_
  (clear hK KK; try simp only [Act.put, List.setIfInBounds_toArray, List.set_cons_zero, List.set_cons_succ])
  (repeat (refine wpSeqE_take (v := ?_) rfl (by rfl) (fun wq hSq => ?_) ?_; rotate_left; (focus ((try dsimp only at hSq); go_simp; try with_reducible rfl)); simp only [Act.put, List.setIfInBounds_toArray, List.set_cons_zero, List.set_cons_succ]))
  (refine wpSeqE_do rfl (by rfl) (fun KK hK => ?_); go_simp)
  refine (g_write _).mono ?_; rintro e u ⟨g, n, c, rfl, h⟩; replace A := Lib.hid (A.out.more h.out); clear h
  refine hK.out _ _ (fun _ => HB.out _ A.out.bl) ?_
  (clear hK KK; try simp only [Act.put, List.setIfInBounds_toArray, List.set_cons_zero, List.set_cons_succ])
  (repeat (refine wpSeqE_take (v := ?_) rfl (by rfl) (fun wq hSq => ?_) ?_; rotate_left; (focus ((try dsimp only at hSq); go_simp; try with_reducible rfl)); simp only [Act.put, List.setIfInBounds_toArray, List.set_cons_zero, List.set_cons_succ]))
  (refine wpSeqE_do rfl (by rfl) (fun KK hK => ?_); go_simp)
  refine (g_grow hB hR _ _).mono ?_; rintro e u ⟨g, n, c, rfl, h⟩; replace A := Lib.hid (A.out.more h.out); clear h
  refine hK.out _ _ (fun _ => HB.out _ A.out.bl) ?_
  (clear hK KK; try simp only [Act.put, List.setIfInBounds_toArray, List.set_cons_zero, List.set_cons_succ])
  (repeat (refine wpSeqE_take (v := ?_) rfl (by rfl) (fun wq hSq => ?_) ?_; rotate_left; (focus ((try dsimp only at hSq); go_simp; try with_reducible rfl)); simp only [Act.put, List.setIfInBounds_toArray, List.set_cons_zero, List.set_cons_succ]))
  (refine wpSeqE_do rfl (by rfl) (fun KK hK => ?_); go_simp)
  refine (g_tell _ _).mono ?_; rintro e u ⟨g, n, c, rfl, h⟩; replace A := Lib.hid (A.out.more h.out); clear h
  refine hK.out _ _ (fun _ => HB.out _ A.out.bl) ?_
  (clear hK KK; try simp only [Act.put, List.setIfInBounds_toArray, List.set_cons_zero, List.set_cons_succ])
  (repeat (refine wpSeqE_take (v := ?_) rfl (by rfl) (fun wq hSq => ?_) ?_; rotate_left; (focus ((try dsimp only at hSq); go_simp; try with_reducible rfl)); simp only [Act.put, List.setIfInBounds_toArray, List.set_cons_zero, List.set_cons_succ]))
  (refine wpSeqE_do rfl (by rfl) (fun KK hK => ?_); go_simp)
  refine hK.out _ _ (fun _ => HB.out _ (A.out.on (bl1 _ _)).bl) ?_
  (clear hK KK; try simp only [Act.put, List.setIfInBounds_toArray, List.set_cons_zero, List.set_cons_succ])
  (repeat (refine wpSeqE_take (v := ?_) rfl (by rfl) (fun wq hSq => ?_) ?_; rotate_left; (focus ((try dsimp only at hSq); go_simp; try with_reducible rfl)); simp only [Act.put, List.setIfInBounds_toArray, List.set_cons_zero, List.set_cons_succ]))
  (refine wpSeqE_do rfl (by rfl) (fun KK hK => ?_); go_simp)
  refine (g_program 2 (A.out.parts rfl) rfl (Nat.le_of_ble_eq_true rfl) (Nat.le_of_ble_eq_true rfl) (Nat.le_of_ble_eq_true rfl) (del_wf B R) (HT.out.on ((pgW_bl w B R).trans (((A.out.on (bl1 _ _)).bl).mono (by rw [pgW_size]; omega)))) (del_ans B R)).mono ?_; rintro e u ⟨p, n, c, rfl, hZ⟩; have HBL := Lib.hid (A.out.bl.trans (((bl1 _ _).trans (hZ.out.2.2.mono (by simp))).mono A.out.bl.size)); obtain ⟨⟨x0, x1⟩, y0, y1, y2, y3, y4⟩ := pg_cells w B R _ HBL.out
  refine hK.out _ _ (fun _ => ⟨x0, x1⟩) ?_
  (clear hK KK; try simp only [Act.put, List.setIfInBounds_toArray, List.set_cons_zero, List.set_cons_succ])
  (repeat (refine wpSeqE_take (v := ?_) rfl (by rfl) (fun wq hSq => ?_) ?_; rotate_left; (focus ((try dsimp only at hSq); go_simp; try with_reducible rfl)); simp only [Act.put, List.setIfInBounds_toArray, List.set_cons_zero, List.set_cons_succ]))
  (refine wpSeqE_do rfl (by rfl) (fun KK hK => ?_); go_simp)
  refine hK.out _ _ (fun hn => absurd rfl hn) ?_
  (clear hK KK; try simp only [Act.put])
  refine wpSeqE_nil ?_
  go_wp2_with fail
  obtain ⟨f1, f2, f3⟩ := hZ.out
  change RowW 86 3 u p c n (codC ((bsOf 2 (delO B R).flatten).filled.map fixI)) at f2
  change n = (bsOf 2 (delO B R).flatten).code.length at f1
  rw [del_code] at f2
  obtain ⟨z1, z2, z3⟩ := pg_end (t := 2) HBL.out f2
  exact pg_back rfl (w.heap.size + 1) 2 p n c rfl z1 rfl ⟨p, n, c, rfl, f1.trans (bs_len (del_code B R)), z2, z3⟩
set_option maxHeartbeats 2000000 in
set_option maxRecDepth 100000 in
theorem g_pleast (hB : 0 ≤ B ∧ B ≤ 256) (hR : 0 ≤ R ∧ R ≤ 16) (hT : Shaped5 w) : Calls Tryz.prog 37 #[.agg #[.int .i64 B, .int .i64 R]] w fun e w' => PgC w 1 (leastC B R) e w' := by
  have HB : Hid (∀ u, Below (pgW w B R).heap.size (pgW w B R) u → u.cell? ⟨w.heap.size, 0, none⟩ = some (.int .i64 B) ∧ u.cell? ⟨w.heap.size, 1, none⟩ = some (.int .i64 R)) := fun u k => (pg_cells w B R u k).1
  have A : Hid (Acc (pgW w B R) ((pgW w B R).drew) []) := acc_nil ((Same.drew _).below _)
  have HT : Hid (Shaped5 w) := hT
  clear hT
  go_enter Tryz.func37, Tryz.ntmps37
  go_wp2_with fail
  refine wp_region_seqE (fun u => u.cell? ⟨w.heap.size, 0, none⟩ = some (.int .i64 B) ∧ u.cell? ⟨w.heap.size, 1, none⟩ = some (.int .i64 R)) ((0, true) :: (2, true) :: (1, false) :: (3, false) :: (4, false) :: (5, false) :: (6, false) :: (7, false) :: (8, false) :: (9, false) :: (10, false) :: (11, false) :: []) follows (by kernel_rfl) (fun _ _ _ _ _ h => h) (HB.out _ ((Same.drew _).below _)) ?_
  (repeat (refine wpSeqE_take (v := ?_) rfl (by rfl) (fun wq hSq => ?_) ?_; rotate_left; (focus ((try dsimp only at hSq); go_simp; try with_reducible rfl)); simp only [Act.put, List.setIfInBounds_toArray, List.set_cons_zero, List.set_cons_succ]))
  (refine wpSeqE_do rfl (by rfl) (fun KK hK => ?_); go_simp)
  refine (g_begin hB hR _).mono ?_; rintro e u ⟨g, n, c, rfl, h⟩; replace A := Lib.hid (A.out.more h.out); clear h
  refine hK.out _ _ (fun _ => HB.out _ A.out.bl) ?_
  (clear hK KK; try simp only [Act.put, List.setIfInBounds_toArray, List.set_cons_zero, List.set_cons_succ])
  (repeat (refine wpSeqE_take (v := ?_) rfl (by rfl) (fun wq hSq => ?_) ?_; rotate_left; (focus ((try dsimp only at hSq); go_simp; try with_reducible rfl)); simp only [Act.put, List.setIfInBounds_toArray, List.set_cons_zero, List.set_cons_succ]))
  (refine wpSeqE_do rfl (by rfl) (fun KK hK => ?_); go_simp)
  refine (g_get _ _).mono ?_; rintro e u ⟨g, n, c, rfl, h⟩; replace A := Lib.hid (A.out.more h.out); clear h
  refine hK.out _ _ (fun _ => HB.out _ A.out.bl) ?_
  (clear hK KK; try simp only [Act.put, List.setIfInBounds_toArray, List.set_cons_zero, List.set_cons_succ])
  (repeat (refine wpSeqE_take (v := ?_) rfl (by rfl) (fun wq hSq => ?_) ?_; rotate_left; (focus ((try dsimp only at hSq); go_simp; try with_reducible rfl)); simp only [Act.put, List.setIfInBounds_toArray, List.set_cons_zero, List.set_cons_succ]))
  (refine wpSeqE_do rfl (by rfl) (fun KK hK => ?_); go_simp)
  refine (g_set _ _).mono ?_; rintro e u ⟨g, n, c, rfl, h⟩; replace A := Lib.hid (A.out.more h.out); clear h
  refine hK.out _ _ (fun _ => HB.out _ A.out.bl) ?_
  (clear hK KK; try simp only [Act.put, List.setIfInBounds_toArray, List.set_cons_zero, List.set_cons_succ])
  (repeat (refine wpSeqE_take (v := ?_) rfl (by rfl) (fun wq hSq => ?_) ?_; rotate_left; (focus ((try dsimp only at hSq); go_simp; try with_reducible rfl)); simp only [Act.put, List.setIfInBounds_toArray, List.set_cons_zero, List.set_cons_succ]))
  (refine wpSeqE_do rfl (by rfl) (fun KK hK => ?_); go_simp)
  refine hK.out _ _ (fun _ => HB.out _ (A.out.on (bl1 _ _)).bl) ?_
  (clear hK KK; try simp only [Act.put, List.setIfInBounds_toArray, List.set_cons_zero, List.set_cons_succ])
  (repeat (refine wpSeqE_take (v := ?_) rfl (by rfl) (fun wq hSq => ?_) ?_; rotate_left; (focus ((try dsimp only at hSq); go_simp; try with_reducible rfl)); simp only [Act.put, List.setIfInBounds_toArray, List.set_cons_zero, List.set_cons_succ]))
  (refine wpSeqE_do rfl (by rfl) (fun KK hK => ?_); go_simp)
  refine (g_walk hB hR ((A.out.take 2).parts rfl) rfl (Nat.le_of_ble_eq_true rfl) (Nat.le_of_ble_eq_true rfl) (Nat.le_of_ble_eq_true rfl) _ _).mono ?_; rintro e u ⟨g, n, c, rfl, h⟩; replace A := Lib.hid ((A.out.drop 2).over h.out); clear h
  refine hK.out _ _ (fun _ => HB.out _ A.out.bl) ?_
  (clear hK KK; try simp only [Act.put, List.setIfInBounds_toArray, List.set_cons_zero, List.set_cons_succ])
  (repeat (refine wpSeqE_take (v := ?_) rfl (by rfl) (fun wq hSq => ?_) ?_; rotate_left; (focus ((try dsimp only at hSq); go_simp; try with_reducible rfl)); simp only [Act.put, List.setIfInBounds_toArray, List.set_cons_zero, List.set_cons_succ]))
  (refine wpSeqE_do rfl (by rfl) (fun KK hK => ?_); go_simp)
  refine (g_mark _ _).mono ?_; rintro e u ⟨g, n, c, rfl, h⟩; replace A := Lib.hid (A.out.more h.out); clear h
  refine hK.out _ _ (fun _ => HB.out _ A.out.bl) ?_
  (clear hK KK; try simp only [Act.put, List.setIfInBounds_toArray, List.set_cons_zero, List.set_cons_succ])
  (repeat (refine wpSeqE_take (v := ?_) rfl (by rfl) (fun wq hSq => ?_) ?_; rotate_left; (focus ((try dsimp only at hSq); go_simp; try with_reducible rfl)); simp only [Act.put, List.setIfInBounds_toArray, List.set_cons_zero, List.set_cons_succ]))
  (refine wpSeqE_do rfl (by rfl) (fun KK hK => ?_); go_simp)
  refine (g_emitKept _).mono ?_; rintro e u ⟨g, n, c, rfl, h⟩; replace A := Lib.hid (A.out.more h.out); clear h
  refine hK.out _ _ (fun _ => HB.out _ A.out.bl) ?_
  (clear hK KK; try simp only [Act.put, List.setIfInBounds_toArray, List.set_cons_zero, List.set_cons_succ])
  (repeat (refine wpSeqE_take (v := ?_) rfl (by rfl) (fun wq hSq => ?_) ?_; rotate_left; (focus ((try dsimp only at hSq); go_simp; try with_reducible rfl)); simp only [Act.put, List.setIfInBounds_toArray, List.set_cons_zero, List.set_cons_succ]))
  (refine wpSeqE_do rfl (by rfl) (fun KK hK => ?_); go_simp)
  refine hK.out _ _ (fun _ => HB.out _ (A.out.on (bl1 _ _)).bl) ?_
  (clear hK KK; try simp only [Act.put, List.setIfInBounds_toArray, List.set_cons_zero, List.set_cons_succ])
  (repeat (refine wpSeqE_take (v := ?_) rfl (by rfl) (fun wq hSq => ?_) ?_; rotate_left; (focus ((try dsimp only at hSq); go_simp; try with_reducible rfl)); simp only [Act.put, List.setIfInBounds_toArray, List.set_cons_zero, List.set_cons_succ]))
  (refine wpSeqE_do rfl (by rfl) (fun KK hK => ?_); go_simp)
  refine (g_program 1 (A.out.parts rfl) rfl (Nat.le_of_ble_eq_true rfl) (Nat.le_of_ble_eq_true rfl) (Nat.le_of_ble_eq_true rfl) (least_wf B R) (HT.out.on ((pgW_bl w B R).trans (((A.out.on (bl1 _ _)).bl).mono (by rw [pgW_size]; omega)))) (least_ans B R)).mono ?_; rintro e u ⟨p, n, c, rfl, hZ⟩; have HBL := Lib.hid (A.out.bl.trans (((bl1 _ _).trans (hZ.out.2.2.mono (by simp))).mono A.out.bl.size)); obtain ⟨⟨x0, x1⟩, y0, y1, y2, y3, y4⟩ := pg_cells w B R _ HBL.out
  refine hK.out _ _ (fun _ => ⟨x0, x1⟩) ?_
  (clear hK KK; try simp only [Act.put, List.setIfInBounds_toArray, List.set_cons_zero, List.set_cons_succ])
  (repeat (refine wpSeqE_take (v := ?_) rfl (by rfl) (fun wq hSq => ?_) ?_; rotate_left; (focus ((try dsimp only at hSq); go_simp; try with_reducible rfl)); simp only [Act.put, List.setIfInBounds_toArray, List.set_cons_zero, List.set_cons_succ]))
  (refine wpSeqE_do rfl (by rfl) (fun KK hK => ?_); go_simp)
  refine hK.out _ _ (fun hn => absurd rfl hn) ?_
  (clear hK KK; try simp only [Act.put])
  refine wpSeqE_nil ?_
  go_wp2_with fail
  obtain ⟨f1, f2, f3⟩ := hZ.out
  change RowW 86 3 u p c n (codC ((bsOf 1 (leastO B R).flatten).filled.map fixI)) at f2
  change n = (bsOf 1 (leastO B R).flatten).code.length at f1
  rw [least_code] at f2
  obtain ⟨z1, z2, z3⟩ := pg_end (t := 1) HBL.out f2
  exact pg_back rfl (w.heap.size + 1) 1 p n c rfl z1 rfl ⟨p, n, c, rfl, f1.trans (bs_len (least_code B R)), z2, z3⟩
set_option maxHeartbeats 2000000 in
set_option maxRecDepth 100000 in
theorem g_pafter (hB : 0 ≤ B ∧ B ≤ 256) (hR : 0 ≤ R ∧ R ≤ 16) (hT : Shaped5 w) : Calls Tryz.prog 38 #[.agg #[.int .i64 B, .int .i64 R]] w fun e w' => PgC w 1 (afterC B R) e w' := by
  have HB : Hid (∀ u, Below (pgW w B R).heap.size (pgW w B R) u → u.cell? ⟨w.heap.size, 0, none⟩ = some (.int .i64 B) ∧ u.cell? ⟨w.heap.size, 1, none⟩ = some (.int .i64 R)) := fun u k => (pg_cells w B R u k).1
  have A : Hid (Acc (pgW w B R) ((pgW w B R).drew) []) := acc_nil ((Same.drew _).below _)
  have HT : Hid (Shaped5 w) := hT
  clear hT
  go_enter Tryz.func38, Tryz.ntmps38
  go_wp2_with fail
  refine wp_region_seqE (fun u => u.cell? ⟨w.heap.size, 0, none⟩ = some (.int .i64 B) ∧ u.cell? ⟨w.heap.size, 1, none⟩ = some (.int .i64 R)) ((0, true) :: (2, true) :: (12, true) :: (1, false) :: (3, false) :: (4, false) :: (5, false) :: (6, false) :: (7, false) :: (8, false) :: (9, false) :: (10, false) :: (11, false) :: (13, false) :: (14, false) :: (15, false) :: (16, false) :: (17, false) :: (18, false) :: (19, false) :: (20, false) :: []) follows (by kernel_rfl) (fun _ _ _ _ _ h => h) (HB.out _ ((Same.drew _).below _)) ?_
  (repeat (refine wpSeqE_take (v := ?_) rfl (by rfl) (fun wq hSq => ?_) ?_; rotate_left; (focus ((try dsimp only at hSq); go_simp; try with_reducible rfl)); simp only [Act.put, List.setIfInBounds_toArray, List.set_cons_zero, List.set_cons_succ]))
  (refine wpSeqE_do rfl (by rfl) (fun KK hK => ?_); go_simp)
  refine (g_begin hB hR _).mono ?_; rintro e u ⟨g, n, c, rfl, h⟩; replace A := Lib.hid (A.out.more h.out); clear h
  refine hK.out _ _ (fun _ => HB.out _ A.out.bl) ?_
  (clear hK KK; try simp only [Act.put, List.setIfInBounds_toArray, List.set_cons_zero, List.set_cons_succ])
  (repeat (refine wpSeqE_take (v := ?_) rfl (by rfl) (fun wq hSq => ?_) ?_; rotate_left; (focus ((try dsimp only at hSq); go_simp; try with_reducible rfl)); simp only [Act.put, List.setIfInBounds_toArray, List.set_cons_zero, List.set_cons_succ]))
  (refine wpSeqE_do rfl (by rfl) (fun KK hK => ?_); go_simp)
  refine (g_arg _ _).mono ?_; rintro e u ⟨g, n, c, rfl, h⟩; replace A := Lib.hid (A.out.more h.out); clear h
  refine hK.out _ _ (fun _ => HB.out _ A.out.bl) ?_
  (clear hK KK; try simp only [Act.put, List.setIfInBounds_toArray, List.set_cons_zero, List.set_cons_succ])
  (repeat (refine wpSeqE_take (v := ?_) rfl (by rfl) (fun wq hSq => ?_) ?_; rotate_left; (focus ((try dsimp only at hSq); go_simp; try with_reducible rfl)); simp only [Act.put, List.setIfInBounds_toArray, List.set_cons_zero, List.set_cons_succ]))
  (refine wpSeqE_do rfl (by rfl) (fun KK hK => ?_); go_simp)
  refine (g_load _ _ _).mono ?_; rintro e u ⟨g, n, c, rfl, h⟩; replace A := Lib.hid (A.out.more h.out); clear h
  refine hK.out _ _ (fun _ => HB.out _ A.out.bl) ?_
  (clear hK KK; try simp only [Act.put, List.setIfInBounds_toArray, List.set_cons_zero, List.set_cons_succ])
  (repeat (refine wpSeqE_take (v := ?_) rfl (by rfl) (fun wq hSq => ?_) ?_; rotate_left; (focus ((try dsimp only at hSq); go_simp; try with_reducible rfl)); simp only [Act.put, List.setIfInBounds_toArray, List.set_cons_zero, List.set_cons_succ]))
  (refine wpSeqE_do rfl (by rfl) (fun KK hK => ?_); go_simp)
  refine (g_two _ _).mono ?_; rintro e u ⟨g, n, c, rfl, h⟩; replace A := Lib.hid (A.out.more h.out); clear h
  refine hK.out _ _ (fun _ => HB.out _ A.out.bl) ?_
  (clear hK KK; try simp only [Act.put, List.setIfInBounds_toArray, List.set_cons_zero, List.set_cons_succ])
  (repeat (refine wpSeqE_take (v := ?_) rfl (by rfl) (fun wq hSq => ?_) ?_; rotate_left; (focus ((try dsimp only at hSq); go_simp; try with_reducible rfl)); simp only [Act.put, List.setIfInBounds_toArray, List.set_cons_zero, List.set_cons_succ]))
  (refine wpSeqE_do rfl (by rfl) (fun KK hK => ?_); go_simp)
  refine (g_do _ _ _).mono ?_; rintro e u ⟨g, n, c, rfl, h⟩; replace A := Lib.hid (A.out.more h.out); clear h
  refine hK.out _ _ (fun _ => HB.out _ A.out.bl) ?_
  (clear hK KK; try simp only [Act.put, List.setIfInBounds_toArray, List.set_cons_zero, List.set_cons_succ])
  (repeat (refine wpSeqE_take (v := ?_) rfl (by rfl) (fun wq hSq => ?_) ?_; rotate_left; (focus ((try dsimp only at hSq); go_simp; try with_reducible rfl)); simp only [Act.put, List.setIfInBounds_toArray, List.set_cons_zero, List.set_cons_succ]))
  (refine wpSeqE_do rfl (by rfl) (fun KK hK => ?_); go_simp)
  refine (g_to _ _ _).mono ?_; rintro e u ⟨g, n, c, rfl, h⟩; replace A := Lib.hid (A.out.more h.out); clear h
  refine hK.out _ _ (fun _ => HB.out _ A.out.bl) ?_
  (clear hK KK; try simp only [Act.put, List.setIfInBounds_toArray, List.set_cons_zero, List.set_cons_succ])
  (repeat (refine wpSeqE_take (v := ?_) rfl (by rfl) (fun wq hSq => ?_) ?_; rotate_left; (focus ((try dsimp only at hSq); go_simp; try with_reducible rfl)); simp only [Act.put, List.setIfInBounds_toArray, List.set_cons_zero, List.set_cons_succ]))
  (refine wpSeqE_do rfl (by rfl) (fun KK hK => ?_); go_simp)
  refine (g_get _ _).mono ?_; rintro e u ⟨g, n, c, rfl, h⟩; replace A := Lib.hid (A.out.more h.out); clear h
  refine hK.out _ _ (fun _ => HB.out _ A.out.bl) ?_
  (clear hK KK; try simp only [Act.put, List.setIfInBounds_toArray, List.set_cons_zero, List.set_cons_succ])
  (repeat (refine wpSeqE_take (v := ?_) rfl (by rfl) (fun wq hSq => ?_) ?_; rotate_left; (focus ((try dsimp only at hSq); go_simp; try with_reducible rfl)); simp only [Act.put, List.setIfInBounds_toArray, List.set_cons_zero, List.set_cons_succ]))
  (refine wpSeqE_do rfl (by rfl) (fun KK hK => ?_); go_simp)
  refine (g_set _ _).mono ?_; rintro e u ⟨g, n, c, rfl, h⟩; replace A := Lib.hid (A.out.more h.out); clear h
  refine hK.out _ _ (fun _ => HB.out _ A.out.bl) ?_
  (clear hK KK; try simp only [Act.put, List.setIfInBounds_toArray, List.set_cons_zero, List.set_cons_succ])
  (repeat (refine wpSeqE_take (v := ?_) rfl (by rfl) (fun wq hSq => ?_) ?_; rotate_left; (focus ((try dsimp only at hSq); go_simp; try with_reducible rfl)); simp only [Act.put, List.setIfInBounds_toArray, List.set_cons_zero, List.set_cons_succ]))
  (refine wpSeqE_do rfl (by rfl) (fun KK hK => ?_); go_simp)
  refine (g_mark _ _).mono ?_; rintro e u ⟨g, n, c, rfl, h⟩; replace A := Lib.hid (A.out.more h.out); clear h
  refine hK.out _ _ (fun _ => HB.out _ A.out.bl) ?_
  (clear hK KK; try simp only [Act.put, List.setIfInBounds_toArray, List.set_cons_zero, List.set_cons_succ])
  (repeat (refine wpSeqE_take (v := ?_) rfl (by rfl) (fun wq hSq => ?_) ?_; rotate_left; (focus ((try dsimp only at hSq); go_simp; try with_reducible rfl)); simp only [Act.put, List.setIfInBounds_toArray, List.set_cons_zero, List.set_cons_succ]))
  (refine wpSeqE_do rfl (by rfl) (fun KK hK => ?_); go_simp)
  refine (g_one _ _).mono ?_; rintro e u ⟨g, n, c, rfl, h⟩; replace A := Lib.hid (A.out.more h.out); clear h
  refine hK.out _ _ (fun _ => HB.out _ A.out.bl) ?_
  (clear hK KK; try simp only [Act.put, List.setIfInBounds_toArray, List.set_cons_zero, List.set_cons_succ])
  (repeat (refine wpSeqE_take (v := ?_) rfl (by rfl) (fun wq hSq => ?_) ?_; rotate_left; (focus ((try dsimp only at hSq); go_simp; try with_reducible rfl)); simp only [Act.put, List.setIfInBounds_toArray, List.set_cons_zero, List.set_cons_succ]))
  (refine wpSeqE_do rfl (by rfl) (fun KK hK => ?_); go_simp)
  refine (g_turn hB hR _).mono ?_; rintro e u ⟨g, n, c, rfl, h⟩; replace A := Lib.hid (A.out.more h.out); clear h
  refine hK.out _ _ (fun _ => HB.out _ A.out.bl) ?_
  (clear hK KK; try simp only [Act.put, List.setIfInBounds_toArray, List.set_cons_zero, List.set_cons_succ])
  (repeat (refine wpSeqE_take (v := ?_) rfl (by rfl) (fun wq hSq => ?_) ?_; rotate_left; (focus ((try dsimp only at hSq); go_simp; try with_reducible rfl)); simp only [Act.put, List.setIfInBounds_toArray, List.set_cons_zero, List.set_cons_succ]))
  (refine wpSeqE_do rfl (by rfl) (fun KK hK => ?_); go_simp)
  refine hK.out _ _ (fun _ => HB.out _ (A.out.on (bl1 _ _)).bl) ?_
  (clear hK KK; try simp only [Act.put, List.setIfInBounds_toArray, List.set_cons_zero, List.set_cons_succ])
  (repeat (refine wpSeqE_take (v := ?_) rfl (by rfl) (fun wq hSq => ?_) ?_; rotate_left; (focus ((try dsimp only at hSq); go_simp; try with_reducible rfl)); simp only [Act.put, List.setIfInBounds_toArray, List.set_cons_zero, List.set_cons_succ]))
  (refine wpSeqE_do rfl (by rfl) (fun KK hK => ?_); go_simp)
  refine (g_walk hB hR ((A.out.take 10).parts rfl) rfl (Nat.le_of_ble_eq_true rfl) (Nat.le_of_ble_eq_true rfl) (Nat.le_of_ble_eq_true rfl) _ _).mono ?_; rintro e u ⟨g, n, c, rfl, h⟩; replace A := Lib.hid ((A.out.drop 10).over h.out); clear h
  refine hK.out _ _ (fun _ => HB.out _ A.out.bl) ?_
  (clear hK KK; try simp only [Act.put, List.setIfInBounds_toArray, List.set_cons_zero, List.set_cons_succ])
  (repeat (refine wpSeqE_take (v := ?_) rfl (by rfl) (fun wq hSq => ?_) ?_; rotate_left; (focus ((try dsimp only at hSq); go_simp; try with_reducible rfl)); simp only [Act.put, List.setIfInBounds_toArray, List.set_cons_zero, List.set_cons_succ]))
  (refine wpSeqE_do rfl (by rfl) (fun KK hK => ?_); go_simp)
  refine (g_mark _ _).mono ?_; rintro e u ⟨g, n, c, rfl, h⟩; replace A := Lib.hid (A.out.more h.out); clear h
  refine hK.out _ _ (fun _ => HB.out _ A.out.bl) ?_
  (clear hK KK; try simp only [Act.put, List.setIfInBounds_toArray, List.set_cons_zero, List.set_cons_succ])
  (repeat (refine wpSeqE_take (v := ?_) rfl (by rfl) (fun wq hSq => ?_) ?_; rotate_left; (focus ((try dsimp only at hSq); go_simp; try with_reducible rfl)); simp only [Act.put, List.setIfInBounds_toArray, List.set_cons_zero, List.set_cons_succ]))
  (refine wpSeqE_do rfl (by rfl) (fun KK hK => ?_); go_simp)
  refine (g_emitKept _).mono ?_; rintro e u ⟨g, n, c, rfl, h⟩; replace A := Lib.hid (A.out.more h.out); clear h
  refine hK.out _ _ (fun _ => HB.out _ A.out.bl) ?_
  (clear hK KK; try simp only [Act.put, List.setIfInBounds_toArray, List.set_cons_zero, List.set_cons_succ])
  (repeat (refine wpSeqE_take (v := ?_) rfl (by rfl) (fun wq hSq => ?_) ?_; rotate_left; (focus ((try dsimp only at hSq); go_simp; try with_reducible rfl)); simp only [Act.put, List.setIfInBounds_toArray, List.set_cons_zero, List.set_cons_succ]))
  (refine wpSeqE_do rfl (by rfl) (fun KK hK => ?_); go_simp)
  refine hK.out _ _ (fun _ => HB.out _ (A.out.on (bl1 _ _)).bl) ?_
  (clear hK KK; try simp only [Act.put, List.setIfInBounds_toArray, List.set_cons_zero, List.set_cons_succ])
  (repeat (refine wpSeqE_take (v := ?_) rfl (by rfl) (fun wq hSq => ?_) ?_; rotate_left; (focus ((try dsimp only at hSq); go_simp; try with_reducible rfl)); simp only [Act.put, List.setIfInBounds_toArray, List.set_cons_zero, List.set_cons_succ]))
  (refine wpSeqE_do rfl (by rfl) (fun KK hK => ?_); go_simp)
  refine (g_program 1 (A.out.parts rfl) rfl (Nat.le_of_ble_eq_true rfl) (Nat.le_of_ble_eq_true rfl) (Nat.le_of_ble_eq_true rfl) (after_wf B R) (HT.out.on ((pgW_bl w B R).trans (((A.out.on (bl1 _ _)).bl).mono (by rw [pgW_size]; omega)))) (after_ans B R)).mono ?_; rintro e u ⟨p, n, c, rfl, hZ⟩; have HBL := Lib.hid (A.out.bl.trans (((bl1 _ _).trans (hZ.out.2.2.mono (by simp))).mono A.out.bl.size)); obtain ⟨⟨x0, x1⟩, y0, y1, y2, y3, y4⟩ := pg_cells w B R _ HBL.out
  refine hK.out _ _ (fun _ => ⟨x0, x1⟩) ?_
  (clear hK KK; try simp only [Act.put, List.setIfInBounds_toArray, List.set_cons_zero, List.set_cons_succ])
  (repeat (refine wpSeqE_take (v := ?_) rfl (by rfl) (fun wq hSq => ?_) ?_; rotate_left; (focus ((try dsimp only at hSq); go_simp; try with_reducible rfl)); simp only [Act.put, List.setIfInBounds_toArray, List.set_cons_zero, List.set_cons_succ]))
  (refine wpSeqE_do rfl (by rfl) (fun KK hK => ?_); go_simp)
  refine hK.out _ _ (fun hn => absurd rfl hn) ?_
  (clear hK KK; try simp only [Act.put])
  refine wpSeqE_nil ?_
  go_wp2_with fail
  obtain ⟨f1, f2, f3⟩ := hZ.out
  change RowW 86 3 u p c n (codC ((bsOf 1 (afterO B R).flatten).filled.map fixI)) at f2
  change n = (bsOf 1 (afterO B R).flatten).code.length at f1
  rw [after_code] at f2
  obtain ⟨z1, z2, z3⟩ := pg_end (t := 1) HBL.out f2
  exact pg_back rfl (w.heap.size + 1) 1 p n c rfl z1 rfl ⟨p, n, c, rfl, f1.trans (bs_len (after_code B R)), z2, z3⟩
set_option maxHeartbeats 2000000 in
set_option maxRecDepth 100000 in
theorem g_plen (hB : 0 ≤ B ∧ B ≤ 256) (hR : 0 ≤ R ∧ R ≤ 16) (hT : Shaped5 w) : Calls Tryz.prog 39 #[.agg #[.int .i64 B, .int .i64 R]] w fun e w' => PgC w 1 (lenC B R) e w' := by
  have HB : Hid (∀ u, Below (pgW w B R).heap.size (pgW w B R) u → u.cell? ⟨w.heap.size, 0, none⟩ = some (.int .i64 B) ∧ u.cell? ⟨w.heap.size, 1, none⟩ = some (.int .i64 R)) := fun u k => (pg_cells w B R u k).1
  have A : Hid (Acc (pgW w B R) ((pgW w B R).drew) []) := acc_nil ((Same.drew _).below _)
  have HT : Hid (Shaped5 w) := hT
  clear hT
  go_enter Tryz.func39, Tryz.ntmps39
  go_wp2_with fail
  refine wp_region_seqE (fun u => u.cell? ⟨w.heap.size, 0, none⟩ = some (.int .i64 B) ∧ u.cell? ⟨w.heap.size, 1, none⟩ = some (.int .i64 R)) ((0, true) :: (1, true) :: (2, false) :: (3, false) :: (4, false) :: (5, false) :: (6, false) :: (7, false) :: (8, false) :: []) follows (by kernel_rfl) (fun _ _ _ _ _ h => h) (HB.out _ ((Same.drew _).below _)) ?_
  (repeat (refine wpSeqE_take (v := ?_) rfl (by rfl) (fun wq hSq => ?_) ?_; rotate_left; (focus ((try dsimp only at hSq); go_simp; try with_reducible rfl)); simp only [Act.put, List.setIfInBounds_toArray, List.set_cons_zero, List.set_cons_succ]))
  (refine wpSeqE_do rfl (by rfl) (fun KK hK => ?_); go_simp)
  refine (g_count hB hR _).mono ?_; rintro e u ⟨rfl, h⟩; replace A := Lib.hid (A.out.on h); clear h
  refine hK.out _ _ (fun _ => HB.out _ A.out.bl) ?_
  (clear hK KK; try simp only [Act.put, List.setIfInBounds_toArray, List.set_cons_zero, List.set_cons_succ])
  (repeat (refine wpSeqE_take (v := ?_) rfl (by rfl) (fun wq hSq => ?_) ?_; rotate_left; (focus ((try dsimp only at hSq); go_simp; try with_reducible rfl)); simp only [Act.put, List.setIfInBounds_toArray, List.set_cons_zero, List.set_cons_succ]))
  (refine wpSeqE_do rfl (by rfl) (fun KK hK => ?_); go_simp)
  refine (g_folded hB hR _ _).mono ?_; rintro e u ⟨g, n, c, rfl, h⟩; replace A := Lib.hid (A.out.more h.out); clear h
  refine hK.out _ _ (fun _ => HB.out _ A.out.bl) ?_
  (clear hK KK; try simp only [Act.put, List.setIfInBounds_toArray, List.set_cons_zero, List.set_cons_succ])
  (repeat (refine wpSeqE_take (v := ?_) rfl (by rfl) (fun wq hSq => ?_) ?_; rotate_left; (focus ((try dsimp only at hSq); go_simp; try with_reducible rfl)); simp only [Act.put, List.setIfInBounds_toArray, List.set_cons_zero, List.set_cons_succ]))
  (refine wpSeqE_do rfl (by rfl) (fun KK hK => ?_); go_simp)
  refine (g_emit _).mono ?_; rintro e u ⟨g, n, c, rfl, h⟩; replace A := Lib.hid (A.out.more h.out); clear h
  refine hK.out _ _ (fun _ => HB.out _ A.out.bl) ?_
  (clear hK KK; try simp only [Act.put, List.setIfInBounds_toArray, List.set_cons_zero, List.set_cons_succ])
  (repeat (refine wpSeqE_take (v := ?_) rfl (by rfl) (fun wq hSq => ?_) ?_; rotate_left; (focus ((try dsimp only at hSq); go_simp; try with_reducible rfl)); simp only [Act.put, List.setIfInBounds_toArray, List.set_cons_zero, List.set_cons_succ]))
  (refine wpSeqE_do rfl (by rfl) (fun KK hK => ?_); go_simp)
  refine (g_halt _).mono ?_; rintro e u ⟨g, n, c, rfl, h⟩; replace A := Lib.hid (A.out.more h.out); clear h
  refine hK.out _ _ (fun _ => HB.out _ A.out.bl) ?_
  (clear hK KK; try simp only [Act.put, List.setIfInBounds_toArray, List.set_cons_zero, List.set_cons_succ])
  (repeat (refine wpSeqE_take (v := ?_) rfl (by rfl) (fun wq hSq => ?_) ?_; rotate_left; (focus ((try dsimp only at hSq); go_simp; try with_reducible rfl)); simp only [Act.put, List.setIfInBounds_toArray, List.set_cons_zero, List.set_cons_succ]))
  (refine wpSeqE_do rfl (by rfl) (fun KK hK => ?_); go_simp)
  refine hK.out _ _ (fun _ => HB.out _ (A.out.on (bl1 _ _)).bl) ?_
  (clear hK KK; try simp only [Act.put, List.setIfInBounds_toArray, List.set_cons_zero, List.set_cons_succ])
  (repeat (refine wpSeqE_take (v := ?_) rfl (by rfl) (fun wq hSq => ?_) ?_; rotate_left; (focus ((try dsimp only at hSq); go_simp; try with_reducible rfl)); simp only [Act.put, List.setIfInBounds_toArray, List.set_cons_zero, List.set_cons_succ]))
  (refine wpSeqE_do rfl (by rfl) (fun KK hK => ?_); go_simp)
  refine (g_program 1 (A.out.parts rfl) rfl (Nat.le_of_ble_eq_true rfl) (Nat.le_of_ble_eq_true rfl) (Nat.le_of_ble_eq_true rfl) (len_wf B R) (HT.out.on ((pgW_bl w B R).trans (((A.out.on (bl1 _ _)).bl).mono (by rw [pgW_size]; omega)))) (len_ans B R)).mono ?_; rintro e u ⟨p, n, c, rfl, hZ⟩; have HBL := Lib.hid (A.out.bl.trans (((bl1 _ _).trans (hZ.out.2.2.mono (by simp))).mono A.out.bl.size)); obtain ⟨⟨x0, x1⟩, y0, y1, y2, y3, y4⟩ := pg_cells w B R _ HBL.out
  refine hK.out _ _ (fun _ => ⟨x0, x1⟩) ?_
  (clear hK KK; try simp only [Act.put, List.setIfInBounds_toArray, List.set_cons_zero, List.set_cons_succ])
  (repeat (refine wpSeqE_take (v := ?_) rfl (by rfl) (fun wq hSq => ?_) ?_; rotate_left; (focus ((try dsimp only at hSq); go_simp; try with_reducible rfl)); simp only [Act.put, List.setIfInBounds_toArray, List.set_cons_zero, List.set_cons_succ]))
  (refine wpSeqE_do rfl (by rfl) (fun KK hK => ?_); go_simp)
  refine hK.out _ _ (fun hn => absurd rfl hn) ?_
  (clear hK KK; try simp only [Act.put])
  refine wpSeqE_nil ?_
  go_wp2_with fail
  obtain ⟨f1, f2, f3⟩ := hZ.out
  change RowW 86 3 u p c n (codC ((bsOf 1 (lenO B R).flatten).filled.map fixI)) at f2
  change n = (bsOf 1 (lenO B R).flatten).code.length at f1
  rw [len_code] at f2
  obtain ⟨z1, z2, z3⟩ := pg_end (t := 1) HBL.out f2
  exact pg_back rfl (w.heap.size + 1) 1 p n c rfl z1 rfl ⟨p, n, c, rfl, f1.trans (bs_len (len_code B R)), z2, z3⟩
set_option maxHeartbeats 2000000 in
set_option maxRecDepth 100000 in
theorem g_pall (hB : 0 ≤ B ∧ B ≤ 256) (hR : 0 ≤ R ∧ R ≤ 16) (hT : Shaped5 w) : Calls Tryz.prog 40 #[.agg #[.int .i64 B, .int .i64 R]] w fun e w' => PgC w 1 (allC B R) e w' := by
  have HB : Hid (∀ u, Below (pgW w B R).heap.size (pgW w B R) u → u.cell? ⟨w.heap.size, 0, none⟩ = some (.int .i64 B) ∧ u.cell? ⟨w.heap.size, 1, none⟩ = some (.int .i64 R)) := fun u k => (pg_cells w B R u k).1
  have A : Hid (Acc (pgW w B R) ((pgW w B R).drew) []) := acc_nil ((Same.drew _).below _)
  have HT : Hid (Shaped5 w) := hT
  clear hT
  go_enter Tryz.func40, Tryz.ntmps40
  go_wp2_with fail
  refine wp_region_seqE (fun u => u.cell? ⟨w.heap.size, 0, none⟩ = some (.int .i64 B) ∧ u.cell? ⟨w.heap.size, 1, none⟩ = some (.int .i64 R)) ((1, true) :: (3, true) :: (16, true) :: (0, false) :: (2, false) :: (4, false) :: (5, false) :: (6, false) :: (7, false) :: (8, false) :: (9, false) :: (10, false) :: (11, false) :: (12, false) :: (13, false) :: (14, false) :: (15, false) :: (17, false) :: (18, false) :: (19, false) :: (20, false) :: (21, false) :: (22, false) :: (23, false) :: (24, false) :: (25, false) :: []) follows (by kernel_rfl) (fun _ _ _ _ _ h => h) (HB.out _ ((Same.drew _).below _)) ?_
  (repeat (refine wpSeqE_take (v := ?_) rfl (by rfl) (fun wq hSq => ?_) ?_; rotate_left; (focus ((try dsimp only at hSq); go_simp; try with_reducible rfl)); simp only [Act.put, List.setIfInBounds_toArray, List.set_cons_zero, List.set_cons_succ]))
  (refine wpSeqE_do rfl (by rfl) (fun KK hK => ?_); go_simp)
  refine (g_push _ _).mono ?_; rintro e u ⟨g, n, c, rfl, h⟩; replace A := Lib.hid (A.out.more h.out); clear h
  refine hK.out _ _ (fun _ => HB.out _ A.out.bl) ?_
  (clear hK KK; try simp only [Act.put, List.setIfInBounds_toArray, List.set_cons_zero, List.set_cons_succ])
  (repeat (refine wpSeqE_take (v := ?_) rfl (by rfl) (fun wq hSq => ?_) ?_; rotate_left; (focus ((try dsimp only at hSq); go_simp; try with_reducible rfl)); simp only [Act.put, List.setIfInBounds_toArray, List.set_cons_zero, List.set_cons_succ]))
  (refine wpSeqE_do rfl (by rfl) (fun KK hK => ?_); go_simp)
  refine (g_begin hB hR _).mono ?_; rintro e u ⟨g, n, c, rfl, h⟩; replace A := Lib.hid (A.out.more h.out); clear h
  refine hK.out _ _ (fun _ => HB.out _ A.out.bl) ?_
  (clear hK KK; try simp only [Act.put, List.setIfInBounds_toArray, List.set_cons_zero, List.set_cons_succ])
  (repeat (refine wpSeqE_take (v := ?_) rfl (by rfl) (fun wq hSq => ?_) ?_; rotate_left; (focus ((try dsimp only at hSq); go_simp; try with_reducible rfl)); simp only [Act.put, List.setIfInBounds_toArray, List.set_cons_zero, List.set_cons_succ]))
  (refine wpSeqE_do rfl (by rfl) (fun KK hK => ?_); go_simp)
  refine (g_get _ _).mono ?_; rintro e u ⟨g, n, c, rfl, h⟩; replace A := Lib.hid (A.out.more h.out); clear h
  refine hK.out _ _ (fun _ => HB.out _ A.out.bl) ?_
  (clear hK KK; try simp only [Act.put, List.setIfInBounds_toArray, List.set_cons_zero, List.set_cons_succ])
  (repeat (refine wpSeqE_take (v := ?_) rfl (by rfl) (fun wq hSq => ?_) ?_; rotate_left; (focus ((try dsimp only at hSq); go_simp; try with_reducible rfl)); simp only [Act.put, List.setIfInBounds_toArray, List.set_cons_zero, List.set_cons_succ]))
  (refine wpSeqE_do rfl (by rfl) (fun KK hK => ?_); go_simp)
  refine (g_push _ _).mono ?_; rintro e u ⟨g, n, c, rfl, h⟩; replace A := Lib.hid (A.out.more h.out); clear h
  refine hK.out _ _ (fun _ => HB.out _ A.out.bl) ?_
  (clear hK KK; try simp only [Act.put, List.setIfInBounds_toArray, List.set_cons_zero, List.set_cons_succ])
  (repeat (refine wpSeqE_take (v := ?_) rfl (by rfl) (fun wq hSq => ?_) ?_; rotate_left; (focus ((try dsimp only at hSq); go_simp; try with_reducible rfl)); simp only [Act.put, List.setIfInBounds_toArray, List.set_cons_zero, List.set_cons_succ]))
  (refine wpSeqE_do rfl (by rfl) (fun KK hK => ?_); go_simp)
  refine (g_set _ _).mono ?_; rintro e u ⟨g, n, c, rfl, h⟩; replace A := Lib.hid (A.out.more h.out); clear h
  refine hK.out _ _ (fun _ => HB.out _ A.out.bl) ?_
  (clear hK KK; try simp only [Act.put, List.setIfInBounds_toArray, List.set_cons_zero, List.set_cons_succ])
  (repeat (refine wpSeqE_take (v := ?_) rfl (by rfl) (fun wq hSq => ?_) ?_; rotate_left; (focus ((try dsimp only at hSq); go_simp; try with_reducible rfl)); simp only [Act.put, List.setIfInBounds_toArray, List.set_cons_zero, List.set_cons_succ]))
  (refine wpSeqE_do rfl (by rfl) (fun KK hK => ?_); go_simp)
  refine hK.out _ _ (fun _ => HB.out _ (A.out.on (bl1 _ _)).bl) ?_
  (clear hK KK; try simp only [Act.put, List.setIfInBounds_toArray, List.set_cons_zero, List.set_cons_succ])
  (repeat (refine wpSeqE_take (v := ?_) rfl (by rfl) (fun wq hSq => ?_) ?_; rotate_left; (focus ((try dsimp only at hSq); go_simp; try with_reducible rfl)); simp only [Act.put, List.setIfInBounds_toArray, List.set_cons_zero, List.set_cons_succ]))
  (refine wpSeqE_do rfl (by rfl) (fun KK hK => ?_); go_simp)
  refine (g_walk hB hR ((A.out.take 3).parts rfl) rfl (Nat.le_of_ble_eq_true rfl) (Nat.le_of_ble_eq_true rfl) (Nat.le_of_ble_eq_true rfl) _ _).mono ?_; rintro e u ⟨g, n, c, rfl, h⟩; replace A := Lib.hid ((A.out.drop 3).over h.out); clear h
  refine hK.out _ _ (fun _ => HB.out _ A.out.bl) ?_
  (clear hK KK; try simp only [Act.put, List.setIfInBounds_toArray, List.set_cons_zero, List.set_cons_succ])
  (repeat (refine wpSeqE_take (v := ?_) rfl (by rfl) (fun wq hSq => ?_) ?_; rotate_left; (focus ((try dsimp only at hSq); go_simp; try with_reducible rfl)); simp only [Act.put, List.setIfInBounds_toArray, List.set_cons_zero, List.set_cons_succ]))
  (refine wpSeqE_do rfl (by rfl) (fun KK hK => ?_); go_simp)
  refine (g_mark _ _).mono ?_; rintro e u ⟨g, n, c, rfl, h⟩; replace A := Lib.hid (A.out.more h.out); clear h
  refine hK.out _ _ (fun _ => HB.out _ A.out.bl) ?_
  (clear hK KK; try simp only [Act.put, List.setIfInBounds_toArray, List.set_cons_zero, List.set_cons_succ])
  (repeat (refine wpSeqE_take (v := ?_) rfl (by rfl) (fun wq hSq => ?_) ?_; rotate_left; (focus ((try dsimp only at hSq); go_simp; try with_reducible rfl)); simp only [Act.put, List.setIfInBounds_toArray, List.set_cons_zero, List.set_cons_succ]))
  (refine wpSeqE_do rfl (by rfl) (fun KK hK => ?_); go_simp)
  refine (g_do _ _ _).mono ?_; rintro e u ⟨g, n, c, rfl, h⟩; replace A := Lib.hid (A.out.more h.out); clear h
  refine hK.out _ _ (fun _ => HB.out _ A.out.bl) ?_
  (clear hK KK; try simp only [Act.put, List.setIfInBounds_toArray, List.set_cons_zero, List.set_cons_succ])
  (repeat (refine wpSeqE_take (v := ?_) rfl (by rfl) (fun wq hSq => ?_) ?_; rotate_left; (focus ((try dsimp only at hSq); go_simp; try with_reducible rfl)); simp only [Act.put, List.setIfInBounds_toArray, List.set_cons_zero, List.set_cons_succ]))
  (refine wpSeqE_do rfl (by rfl) (fun KK hK => ?_); go_simp)
  refine (g_to _ _ _).mono ?_; rintro e u ⟨g, n, c, rfl, h⟩; replace A := Lib.hid (A.out.more h.out); clear h
  refine hK.out _ _ (fun _ => HB.out _ A.out.bl) ?_
  (clear hK KK; try simp only [Act.put, List.setIfInBounds_toArray, List.set_cons_zero, List.set_cons_succ])
  (repeat (refine wpSeqE_take (v := ?_) rfl (by rfl) (fun wq hSq => ?_) ?_; rotate_left; (focus ((try dsimp only at hSq); go_simp; try with_reducible rfl)); simp only [Act.put, List.setIfInBounds_toArray, List.set_cons_zero, List.set_cons_succ]))
  (refine wpSeqE_do rfl (by rfl) (fun KK hK => ?_); go_simp)
  refine (g_set _ _).mono ?_; rintro e u ⟨g, n, c, rfl, h⟩; replace A := Lib.hid (A.out.more h.out); clear h
  refine hK.out _ _ (fun _ => HB.out _ A.out.bl) ?_
  (clear hK KK; try simp only [Act.put, List.setIfInBounds_toArray, List.set_cons_zero, List.set_cons_succ])
  (repeat (refine wpSeqE_take (v := ?_) rfl (by rfl) (fun wq hSq => ?_) ?_; rotate_left; (focus ((try dsimp only at hSq); go_simp; try with_reducible rfl)); simp only [Act.put, List.setIfInBounds_toArray, List.set_cons_zero, List.set_cons_succ]))
  (refine wpSeqE_do rfl (by rfl) (fun KK hK => ?_); go_simp)
  refine (g_emitPair _ _).mono ?_; rintro e u ⟨g, n, c, rfl, h⟩; replace A := Lib.hid (A.out.more h.out); clear h
  refine hK.out _ _ (fun _ => HB.out _ A.out.bl) ?_
  (clear hK KK; try simp only [Act.put, List.setIfInBounds_toArray, List.set_cons_zero, List.set_cons_succ])
  (repeat (refine wpSeqE_take (v := ?_) rfl (by rfl) (fun wq hSq => ?_) ?_; rotate_left; (focus ((try dsimp only at hSq); go_simp; try with_reducible rfl)); simp only [Act.put, List.setIfInBounds_toArray, List.set_cons_zero, List.set_cons_succ]))
  (refine wpSeqE_do rfl (by rfl) (fun KK hK => ?_); go_simp)
  refine (g_cell _ _ _).mono ?_; rintro e u ⟨g, n, c, rfl, h⟩; replace A := Lib.hid (A.out.more h.out); clear h
  refine hK.out _ _ (fun _ => HB.out _ A.out.bl) ?_
  (clear hK KK; try simp only [Act.put, List.setIfInBounds_toArray, List.set_cons_zero, List.set_cons_succ])
  (repeat (refine wpSeqE_take (v := ?_) rfl (by rfl) (fun wq hSq => ?_) ?_; rotate_left; (focus ((try dsimp only at hSq); go_simp; try with_reducible rfl)); simp only [Act.put, List.setIfInBounds_toArray, List.set_cons_zero, List.set_cons_succ]))
  (refine wpSeqE_do rfl (by rfl) (fun KK hK => ?_); go_simp)
  refine (g_set _ _).mono ?_; rintro e u ⟨g, n, c, rfl, h⟩; replace A := Lib.hid (A.out.more h.out); clear h
  refine hK.out _ _ (fun _ => HB.out _ A.out.bl) ?_
  (clear hK KK; try simp only [Act.put, List.setIfInBounds_toArray, List.set_cons_zero, List.set_cons_succ])
  (repeat (refine wpSeqE_take (v := ?_) rfl (by rfl) (fun wq hSq => ?_) ?_; rotate_left; (focus ((try dsimp only at hSq); go_simp; try with_reducible rfl)); simp only [Act.put, List.setIfInBounds_toArray, List.set_cons_zero, List.set_cons_succ]))
  (refine wpSeqE_do rfl (by rfl) (fun KK hK => ?_); go_simp)
  refine (g_wide hB hR _).mono ?_; rintro e u ⟨rfl, h⟩; replace A := Lib.hid (A.out.on h); clear h
  refine hK.out _ _ (fun _ => HB.out _ A.out.bl) ?_
  (clear hK KK; try simp only [Act.put, List.setIfInBounds_toArray, List.set_cons_zero, List.set_cons_succ])
  (repeat (refine wpSeqE_take (v := ?_) rfl (by rfl) (fun wq hSq => ?_) ?_; rotate_left; (focus ((try dsimp only at hSq); go_simp; try with_reducible rfl)); simp only [Act.put, List.setIfInBounds_toArray, List.set_cons_zero, List.set_cons_succ]))
  (refine wpSeqE_do rfl (by rfl) (fun KK hK => ?_); go_simp)
  refine (g_push _ _).mono ?_; rintro e u ⟨g, n, c, rfl, h⟩; replace A := Lib.hid (A.out.more h.out); clear h
  refine hK.out _ _ (fun _ => HB.out _ A.out.bl) ?_
  (clear hK KK; try simp only [Act.put, List.setIfInBounds_toArray, List.set_cons_zero, List.set_cons_succ])
  (repeat (refine wpSeqE_take (v := ?_) rfl (by rfl) (fun wq hSq => ?_) ?_; rotate_left; (focus ((try dsimp only at hSq); go_simp; try with_reducible rfl)); simp only [Act.put, List.setIfInBounds_toArray, List.set_cons_zero, List.set_cons_succ]))
  (refine wpSeqE_do rfl (by rfl) (fun KK hK => ?_); go_simp)
  refine (g_set _ _).mono ?_; rintro e u ⟨g, n, c, rfl, h⟩; replace A := Lib.hid (A.out.more h.out); clear h
  refine hK.out _ _ (fun _ => HB.out _ A.out.bl) ?_
  (clear hK KK; try simp only [Act.put, List.setIfInBounds_toArray, List.set_cons_zero, List.set_cons_succ])
  (repeat (refine wpSeqE_take (v := ?_) rfl (by rfl) (fun wq hSq => ?_) ?_; rotate_left; (focus ((try dsimp only at hSq); go_simp; try with_reducible rfl)); simp only [Act.put, List.setIfInBounds_toArray, List.set_cons_zero, List.set_cons_succ]))
  (refine wpSeqE_do rfl (by rfl) (fun KK hK => ?_); go_simp)
  refine (g_to _ _ _).mono ?_; rintro e u ⟨g, n, c, rfl, h⟩; replace A := Lib.hid (A.out.more h.out); clear h
  refine hK.out _ _ (fun _ => HB.out _ A.out.bl) ?_
  (clear hK KK; try simp only [Act.put, List.setIfInBounds_toArray, List.set_cons_zero, List.set_cons_succ])
  (repeat (refine wpSeqE_take (v := ?_) rfl (by rfl) (fun wq hSq => ?_) ?_; rotate_left; (focus ((try dsimp only at hSq); go_simp; try with_reducible rfl)); simp only [Act.put, List.setIfInBounds_toArray, List.set_cons_zero, List.set_cons_succ]))
  (refine wpSeqE_do rfl (by rfl) (fun KK hK => ?_); go_simp)
  refine (g_mark _ _).mono ?_; rintro e u ⟨g, n, c, rfl, h⟩; replace A := Lib.hid (A.out.more h.out); clear h
  refine hK.out _ _ (fun _ => HB.out _ A.out.bl) ?_
  (clear hK KK; try simp only [Act.put, List.setIfInBounds_toArray, List.set_cons_zero, List.set_cons_succ])
  (repeat (refine wpSeqE_take (v := ?_) rfl (by rfl) (fun wq hSq => ?_) ?_; rotate_left; (focus ((try dsimp only at hSq); go_simp; try with_reducible rfl)); simp only [Act.put, List.setIfInBounds_toArray, List.set_cons_zero, List.set_cons_succ]))
  (refine wpSeqE_do rfl (by rfl) (fun KK hK => ?_); go_simp)
  refine (g_halt _).mono ?_; rintro e u ⟨g, n, c, rfl, h⟩; replace A := Lib.hid (A.out.more h.out); clear h
  refine hK.out _ _ (fun _ => HB.out _ A.out.bl) ?_
  (clear hK KK; try simp only [Act.put, List.setIfInBounds_toArray, List.set_cons_zero, List.set_cons_succ])
  (repeat (refine wpSeqE_take (v := ?_) rfl (by rfl) (fun wq hSq => ?_) ?_; rotate_left; (focus ((try dsimp only at hSq); go_simp; try with_reducible rfl)); simp only [Act.put, List.setIfInBounds_toArray, List.set_cons_zero, List.set_cons_succ]))
  (refine wpSeqE_do rfl (by rfl) (fun KK hK => ?_); go_simp)
  refine hK.out _ _ (fun _ => HB.out _ (A.out.on (bl1 _ _)).bl) ?_
  (clear hK KK; try simp only [Act.put, List.setIfInBounds_toArray, List.set_cons_zero, List.set_cons_succ])
  (repeat (refine wpSeqE_take (v := ?_) rfl (by rfl) (fun wq hSq => ?_) ?_; rotate_left; (focus ((try dsimp only at hSq); go_simp; try with_reducible rfl)); simp only [Act.put, List.setIfInBounds_toArray, List.set_cons_zero, List.set_cons_succ]))
  (refine wpSeqE_do rfl (by rfl) (fun KK hK => ?_); go_simp)
  refine (g_program 1 (A.out.parts rfl) rfl (Nat.le_of_ble_eq_true rfl) (Nat.le_of_ble_eq_true rfl) (Nat.le_of_ble_eq_true rfl) (all_wf B R) (HT.out.on ((pgW_bl w B R).trans (((A.out.on (bl1 _ _)).bl).mono (by rw [pgW_size]; omega)))) (all_ans B R)).mono ?_; rintro e u ⟨p, n, c, rfl, hZ⟩; have HBL := Lib.hid (A.out.bl.trans (((bl1 _ _).trans (hZ.out.2.2.mono (by simp))).mono A.out.bl.size)); obtain ⟨⟨x0, x1⟩, y0, y1, y2, y3, y4⟩ := pg_cells w B R _ HBL.out
  refine hK.out _ _ (fun _ => ⟨x0, x1⟩) ?_
  (clear hK KK; try simp only [Act.put, List.setIfInBounds_toArray, List.set_cons_zero, List.set_cons_succ])
  (repeat (refine wpSeqE_take (v := ?_) rfl (by rfl) (fun wq hSq => ?_) ?_; rotate_left; (focus ((try dsimp only at hSq); go_simp; try with_reducible rfl)); simp only [Act.put, List.setIfInBounds_toArray, List.set_cons_zero, List.set_cons_succ]))
  (refine wpSeqE_do rfl (by rfl) (fun KK hK => ?_); go_simp)
  refine hK.out _ _ (fun hn => absurd rfl hn) ?_
  (clear hK KK; try simp only [Act.put])
  refine wpSeqE_nil ?_
  go_wp2_with fail
  obtain ⟨f1, f2, f3⟩ := hZ.out
  change RowW 86 3 u p c n (codC ((bsOf 1 (allO B R).flatten).filled.map fixI)) at f2
  change n = (bsOf 1 (allO B R).flatten).code.length at f1
  rw [all_code] at f2
  obtain ⟨z1, z2, z3⟩ := pg_end (t := 1) HBL.out f2
  exact pg_back rfl (w.heap.size + 1) 1 p n c rfl z1 rfl ⟨p, n, c, rfl, f1.trans (bs_len (all_code B R)), z2, z3⟩
end
end Go.Proofs.YtpboiggakehpoaaGreatDoor.Tr
namespace Go.Proofs.YtpboiggakehpoaaGreatDoor.Tr
open Go.ChangeShapes Go.WideShapes Go.ChangeAt Go.RowKit Num Go.Maps As
open Go.ChangeMaps Go.MapKept
attribute [local go_sem] run_store_float frombits_run bits_run
def roomV (c : Int) : Int := if c < 7 then 0 else if 52 ≤ c then 16 else (c - 4) / 3
theorem roomV_in (c : Int) : 0 ≤ roomV c ∧ roomV c ≤ 16 := by
  unfold roomV
  split
  · omega
  · split <;> omega
set_option maxRecDepth 100000 in
theorem room_any (c : Int) (hc : c ≤ 9223372036854775807) (w : World) : Calls Tryz.prog 13 #[.int .i64 c] w fun e w' => e = .returned (.int .i64 (roomV c)) ∧ w' = w := by
  unfold roomV
  by_cases h : c < 7
  · rw [if_pos h]
    go_enter Tryz.func13, Tryz.ntmps13
    go_wp2
    go_ret
    exact ⟨rfl, rfl⟩
  · rw [if_neg h]
    have h1 : wrap64 (c - 4) = c - 4 := by unfold wrap64; omega
    have h2 : wrap64 ((c - 4).tdiv 3) = (c - 4) / 3 := by rw [Int.tdiv_eq_ediv_of_nonneg (by omega)]; unfold wrap64; omega
    go_enter Tryz.func13, Tryz.ntmps13
    go_wp2
    all_goals go_ret
    all_goals refine ⟨?_, rfl⟩
    all_goals first | rfl | (exfalso; omega)
def treeO : Obj := .cells #[.int .i64 0, .slice none 0 0, .int .i64 0, .slice none 0 0, .int .i64 0, .slice none 0 0, .int .i64 0, .slice none 0 0, .int .i64 0, .slice none 0 0, .int .i64 0, .slice none 0 0, .int .i64 0, .slice none 0 0] 28
def mkW (w : World) (B R : Int) : World := (w.alloc treeO).alloc (plotO B R)
theorem mkW_size (w : World) (B R : Int) : (mkW w B R).heap.size = w.heap.size + 2 := by simp [mkW]
theorem mkW_bl (w : World) (B R : Int) : Below w.heap.size w (mkW w B R) := (bl1 w _).trans ((bl1 _ _).mono (by simp))
theorem mk_cells (w : World) (B R : Int) (u : World) (k : Below (mkW w B R).heap.size (mkW w B R) u) : (u.cell? ⟨w.heap.size + 1, 0, none⟩ = some (.int .i64 B) ∧ u.cell? ⟨w.heap.size + 1, 1, none⟩ = some (.int .i64 R)) ∧ u.heap[w.heap.size]? = some treeO := by
  have h1 : (mkW w B R).heap[w.heap.size + 1]? = some (plotO B R) := by
    have := heap_alloc_new (w.alloc treeO) (plotO B R)
    simpa [mkW] using this
  have h0 : (mkW w B R).heap[w.heap.size]? = some treeO := (Below.heap_alloc _ _ _ (by simp)).trans (heap_alloc_new w _)
  have hs := mkW_size w B R
  have a := cells2_of ((k.block _ (by omega)).trans h1)
  exact ⟨⟨a.1, a.2.1⟩, (k.block _ (by omega)).trans h0⟩
structure PAcc (W u : World) (L : List (Option Addr × Nat × Nat × List Ins)) : Prop where
  bl : Below W.heap.size W u
  it : ∀ q ∈ L, q.2.1 = q.2.2.2.length ∧ RowW 86 3 u q.1 q.2.2.1 q.2.1 (codC q.2.2.2)
theorem PAcc.more {W u u' : World} {L : List (Option Addr × Nat × Nat × List Ins)} {cs : List Ins} (h : PAcc W u L) (q : Option Addr × Nat × Nat) (k : q.2.1 = cs.length ∧ RowW 86 3 u' q.1 q.2.2 q.2.1 (codC cs) ∧ Below u.heap.size u u') : PAcc W u' ((q.1, q.2.1, q.2.2, cs) :: L) :=
  ⟨h.bl.trans (k.2.2.mono h.bl.size), fun x hx => by
    rcases List.mem_cons.1 hx with rfl | hx
    · exact ⟨k.1, k.2.1⟩
    · exact ⟨(h.it x hx).1, (h.it x hx).2.keep (kept_below k.2.2 (h.it x hx).2.blw)⟩⟩
section
variable {w : World}
set_option maxHeartbeats 4000000 in
theorem set14 (w u : World) (x0 x1 x2 x3 x4 x5 x6 x7 x8 x9 x10 x11 x12 x13 : Value) (hb : u.heap[w.heap.size]? = some treeO) :
    ((((((((((((((u.setCell ⟨w.heap.size, 0, none⟩ x0).setCell ⟨w.heap.size, 1, none⟩ x1).setCell ⟨w.heap.size, 2, none⟩ x2).setCell ⟨w.heap.size, 3, none⟩ x3).setCell ⟨w.heap.size, 4, none⟩ x4).setCell ⟨w.heap.size, 5, none⟩ x5).setCell ⟨w.heap.size, 6, none⟩ x6).setCell ⟨w.heap.size, 7, none⟩ x7).setCell ⟨w.heap.size, 8, none⟩ x8).setCell ⟨w.heap.size, 9, none⟩ x9).setCell ⟨w.heap.size, 10, none⟩ x10).setCell ⟨w.heap.size, 11, none⟩ x11).setCell ⟨w.heap.size, 12, none⟩ x12).setCell ⟨w.heap.size, 13, none⟩ x13).heap[w.heap.size]? = some (.cells #[x0, x1, x2, x3, x4, x5, x6, x7, x8, x9, x10, x11, x12, x13] 28 (0, 0)) ∧ Turn [w.heap.size] [w.heap.size] u ((((((((((((((u.setCell ⟨w.heap.size, 0, none⟩ x0).setCell ⟨w.heap.size, 1, none⟩ x1).setCell ⟨w.heap.size, 2, none⟩ x2).setCell ⟨w.heap.size, 3, none⟩ x3).setCell ⟨w.heap.size, 4, none⟩ x4).setCell ⟨w.heap.size, 5, none⟩ x5).setCell ⟨w.heap.size, 6, none⟩ x6).setCell ⟨w.heap.size, 7, none⟩ x7).setCell ⟨w.heap.size, 8, none⟩ x8).setCell ⟨w.heap.size, 9, none⟩ x9).setCell ⟨w.heap.size, 10, none⟩ x10).setCell ⟨w.heap.size, 11, none⟩ x11).setCell ⟨w.heap.size, 12, none⟩ x12).setCell ⟨w.heap.size, 13, none⟩ x13) := by
  unfold treeO at hb
  exact ⟨(heap_setCell_same _ _ 13 _ _ _ (heap_setCell_same _ _ 12 _ _ _ (heap_setCell_same _ _ 11 _ _ _ (heap_setCell_same _ _ 10 _ _ _ (heap_setCell_same _ _ 9 _ _ _ (heap_setCell_same _ _ 8 _ _ _ (heap_setCell_same _ _ 7 _ _ _ (heap_setCell_same _ _ 6 _ _ _ (heap_setCell_same _ _ 5 _ _ _ (heap_setCell_same _ _ 4 _ _ _ (heap_setCell_same _ _ 3 _ _ _ (heap_setCell_same _ _ 2 _ _ _ (heap_setCell_same _ _ 1 _ _ _ (heap_setCell_same _ _ 0 _ _ _ hb)))))))))))))).trans (by simp), ((((((((((((((As.turn_set w.heap.size 0 x0 u).trans (As.turn_set w.heap.size 1 x1 _)).trans (As.turn_set w.heap.size 2 x2 _)).trans (As.turn_set w.heap.size 3 x3 _)).trans (As.turn_set w.heap.size 4 x4 _)).trans (As.turn_set w.heap.size 5 x5 _)).trans (As.turn_set w.heap.size 6 x6 _)).trans (As.turn_set w.heap.size 7 x7 _)).trans (As.turn_set w.heap.size 8 x8 _)).trans (As.turn_set w.heap.size 9 x9 _)).trans (As.turn_set w.heap.size 10 x10 _)).trans (As.turn_set w.heap.size 11 x11 _)).trans (As.turn_set w.heap.size 12 x12 _)).trans (As.turn_set w.heap.size 13 x13 _))⟩
theorem tree_back {fn : Func} {p r : Tmp} (h : fn.results = #[.cell p 28, .tmp r]) {Q : Ending → World → Prop} {a : Act} {w : World} (g : Nat) (e : Int) {arr : Array Value} (hp : a.tmps.getD p undef = .pointer (some ⟨g, 0, none⟩)) (hu : a.tmps.getD r undef = .int .i64 e)
    (hg : w.heap[g]? = some (.cells arr 28 (0, 0))) (ha : arr.size = 14) (hd : a.defers = []) (hR : Q (.returned (.tuple #[.agg arr, .int .i64 e])) w) : bodyPost Tryz.prog fn Q .ret a w := by
  refine bodyPost_ret (v := .tuple #[.agg arr, .int .i64 e]) ?_ hd hR
  rw [results_cell_tmp h, hp, hu]
  have hl := run_loadVar_row (P := Tryz.prog) w g 28 28 arr (0, 0) _ hg Tryz.underlying28 rfl (by rw [ha]; kernel_rfl)
  simp [asAddr, hl, Result.andThen]
structure Ptr where
  p : Option Addr
  n : Nat
  c : Nat
def treeV (q : Nat → Ptr) : Value := .agg #[.int .i64 1, .slice (q 0).p (q 0).n (q 0).c, .int .i64 2, .slice (q 1).p (q 1).n (q 1).c, .int .i64 2, .slice (q 2).p (q 2).n (q 2).c, .int .i64 1, .slice (q 3).p (q 3).n (q 3).c, .int .i64 1, .slice (q 4).p (q 4).n (q 4).c, .int .i64 1, .slice (q 5).p (q 5).n (q 5).c, .int .i64 1, .slice (q 6).p (q 6).n (q 6).c]
def codeOf (B R : Int) (k : Nat) : List Ins := [getC B R, putCd B R, delC B R, leastC B R, afterC B R, lenC B R, allC B R].getD k []
structure TrAt (w : World) (B R : Int) (q : Nat → Ptr) : Prop where
  row : ∀ k, k < 7 → (q k).n = (codeOf B R k).length ∧ RowW 86 3 w (q k).p (q k).c (q k).n (codC (codeOf B R k))
theorem TrAt.on {w w' : World} {B R : Int} {q : Nat → Ptr} (h : TrAt w B R q) (k : Below w.heap.size w w') : TrAt w' B R q := ⟨fun i hi => ⟨(h.row i hi).1, (h.row i hi).2.keep (kept_below k (h.row i hi).2.blw)⟩⟩
def tree0 : Value := .agg #[.int .i64 0, .slice none 0 0, .int .i64 0, .slice none 0 0, .int .i64 0, .slice none 0 0, .int .i64 0, .slice none 0 0, .int .i64 0, .slice none 0 0, .int .i64 0, .slice none 0 0, .int .i64 0, .slice none 0 0]
theorem make_yes (hT : Shaped5 w) {b c : Int} (hc : c ≤ 9223372036854775807) (h7 : 7 ≤ c) (h0 : 0 ≤ b) (hf : b + c ≤ 256) : Calls Tryz.prog 11 #[.int .i64 b, .int .i64 c] w fun e w' => ∃ q, e = .returned (.tuple #[treeV q, .int .i64 0]) ∧ Hid (TrAt w' b (roomV c) q ∧ Below w.heap.size w w') := by
  have HT := Lib.hid hT
  have HR := Lib.hid (room_any c hc)
  have hr0 := roomV_in c
  have hr1 : roomV c ≠ 0 := by unfold roomV; rw [if_neg (by omega)]; split <;> omega
  obtain ⟨r, hr⟩ : ∃ r, roomV c = r := ⟨_, rfl⟩
  rw [hr] at HR hr0 hr1
  have hB : 0 ≤ b ∧ b ≤ 256 := by omega
  have hR : 0 ≤ r ∧ r ≤ 16 := hr0
  have e0 : (r == 0) = false := by simpa using hr1
  have e1 : ¬ b < 0 := by omega
  have e2 : wrap64 (256 - c) = 256 - c := by unfold wrap64; omega
  have e3 : ¬ 256 - c < b := by omega
  have A : Hid (PAcc (mkW w b r) (mkW w b r).drew []) := ⟨(Same.drew _).below _, fun q hq => by cases hq⟩
  rw [hr]
  clear hT hr hr0 hr1 h7 h0 hf hc
  go_enter Tryz.func11, Tryz.ntmps11
  go_wp2_with (go_at_call 13; refine (HR.out _).mono ?_; rintro e u ⟨rfl, hu⟩; subst u)
  refine wp_region_seq (fun u => u.cell? ⟨w.heap.size + 1, 0, none⟩ = some (.int .i64 b) ∧ u.cell? ⟨w.heap.size + 1, 1, none⟩ = some (.int .i64 r)) ((0, true) :: (2, true) :: (4, true) :: (6, true) :: (8, true) :: (10, true) :: (12, true) :: (1, false) :: (3, false) :: (5, false) :: (7, false) :: (9, false) :: (11, false) :: (13, false) :: (14, true) :: (15, false) :: (16, true) :: []) follows (by kernel_rfl) (fun _ _ _ _ _ h => h) (mk_cells w b r _ ((Same.drew _).below _)).1 ?_
  (repeat ((first | (refine wpSeq_take (v := ?_) rfl (by rfl) (fun wq hSq => ?_) ?_; rotate_left; (focus ((try dsimp only at hSq); go_simp; try with_reducible rfl))) | refine wpSeq_skip rfl (by rfl) ?_); simp only [Act.put, List.setIfInBounds_toArray, List.set_cons_zero, List.set_cons_succ]))
  (refine wpSeq_do rfl (by rfl) (fun KK hK => ?_); go_simp)
  refine (g_pget (B := b) (R := r) hB hR (HT.out.on ((mkW_bl w b r).trans (A.out.bl.mono (by rw [mkW_size]; omega))))).mono ?_; rintro e u0 ⟨p0, n0, c0, rfl, h⟩; replace A := Lib.hid (A.out.more ⟨p0, n0, c0⟩ h.out); clear h
  refine hK.out _ _ (mk_cells w b r _ A.out.bl).1 ?_
  (clear hK KK; try simp only [Act.put, List.setIfInBounds_toArray, List.set_cons_zero, List.set_cons_succ])
  (repeat ((first | (refine wpSeq_take (v := ?_) rfl (by rfl) (fun wq hSq => ?_) ?_; rotate_left; (focus ((try dsimp only at hSq); go_simp; try with_reducible rfl))) | refine wpSeq_skip rfl (by rfl) ?_); simp only [Act.put, List.setIfInBounds_toArray, List.set_cons_zero, List.set_cons_succ]))
  (refine wpSeq_do rfl (by rfl) (fun KK hK => ?_); go_simp)
  refine (g_pput (B := b) (R := r) hB hR (HT.out.on ((mkW_bl w b r).trans (A.out.bl.mono (by rw [mkW_size]; omega))))).mono ?_; rintro e u1 ⟨p1, n1, c1, rfl, h⟩; replace A := Lib.hid (A.out.more ⟨p1, n1, c1⟩ h.out); clear h
  refine hK.out _ _ (mk_cells w b r _ A.out.bl).1 ?_
  (clear hK KK; try simp only [Act.put, List.setIfInBounds_toArray, List.set_cons_zero, List.set_cons_succ])
  (repeat ((first | (refine wpSeq_take (v := ?_) rfl (by rfl) (fun wq hSq => ?_) ?_; rotate_left; (focus ((try dsimp only at hSq); go_simp; try with_reducible rfl))) | refine wpSeq_skip rfl (by rfl) ?_); simp only [Act.put, List.setIfInBounds_toArray, List.set_cons_zero, List.set_cons_succ]))
  (refine wpSeq_do rfl (by rfl) (fun KK hK => ?_); go_simp)
  refine (g_pdel (B := b) (R := r) hB hR (HT.out.on ((mkW_bl w b r).trans (A.out.bl.mono (by rw [mkW_size]; omega))))).mono ?_; rintro e u2 ⟨p2, n2, c2, rfl, h⟩; replace A := Lib.hid (A.out.more ⟨p2, n2, c2⟩ h.out); clear h
  refine hK.out _ _ (mk_cells w b r _ A.out.bl).1 ?_
  (clear hK KK; try simp only [Act.put, List.setIfInBounds_toArray, List.set_cons_zero, List.set_cons_succ])
  (repeat ((first | (refine wpSeq_take (v := ?_) rfl (by rfl) (fun wq hSq => ?_) ?_; rotate_left; (focus ((try dsimp only at hSq); go_simp; try with_reducible rfl))) | refine wpSeq_skip rfl (by rfl) ?_); simp only [Act.put, List.setIfInBounds_toArray, List.set_cons_zero, List.set_cons_succ]))
  (refine wpSeq_do rfl (by rfl) (fun KK hK => ?_); go_simp)
  refine (g_pleast (B := b) (R := r) hB hR (HT.out.on ((mkW_bl w b r).trans (A.out.bl.mono (by rw [mkW_size]; omega))))).mono ?_; rintro e u3 ⟨p3, n3, c3, rfl, h⟩; replace A := Lib.hid (A.out.more ⟨p3, n3, c3⟩ h.out); clear h
  refine hK.out _ _ (mk_cells w b r _ A.out.bl).1 ?_
  (clear hK KK; try simp only [Act.put, List.setIfInBounds_toArray, List.set_cons_zero, List.set_cons_succ])
  (repeat ((first | (refine wpSeq_take (v := ?_) rfl (by rfl) (fun wq hSq => ?_) ?_; rotate_left; (focus ((try dsimp only at hSq); go_simp; try with_reducible rfl))) | refine wpSeq_skip rfl (by rfl) ?_); simp only [Act.put, List.setIfInBounds_toArray, List.set_cons_zero, List.set_cons_succ]))
  (refine wpSeq_do rfl (by rfl) (fun KK hK => ?_); go_simp)
  refine (g_pafter (B := b) (R := r) hB hR (HT.out.on ((mkW_bl w b r).trans (A.out.bl.mono (by rw [mkW_size]; omega))))).mono ?_; rintro e u4 ⟨p4, n4, c4, rfl, h⟩; replace A := Lib.hid (A.out.more ⟨p4, n4, c4⟩ h.out); clear h
  refine hK.out _ _ (mk_cells w b r _ A.out.bl).1 ?_
  (clear hK KK; try simp only [Act.put, List.setIfInBounds_toArray, List.set_cons_zero, List.set_cons_succ])
  (repeat ((first | (refine wpSeq_take (v := ?_) rfl (by rfl) (fun wq hSq => ?_) ?_; rotate_left; (focus ((try dsimp only at hSq); go_simp; try with_reducible rfl))) | refine wpSeq_skip rfl (by rfl) ?_); simp only [Act.put, List.setIfInBounds_toArray, List.set_cons_zero, List.set_cons_succ]))
  (refine wpSeq_do rfl (by rfl) (fun KK hK => ?_); go_simp)
  refine (g_plen (B := b) (R := r) hB hR (HT.out.on ((mkW_bl w b r).trans (A.out.bl.mono (by rw [mkW_size]; omega))))).mono ?_; rintro e u5 ⟨p5, n5, c5, rfl, h⟩; replace A := Lib.hid (A.out.more ⟨p5, n5, c5⟩ h.out); clear h
  refine hK.out _ _ (mk_cells w b r _ A.out.bl).1 ?_
  (clear hK KK; try simp only [Act.put, List.setIfInBounds_toArray, List.set_cons_zero, List.set_cons_succ])
  (repeat ((first | (refine wpSeq_take (v := ?_) rfl (by rfl) (fun wq hSq => ?_) ?_; rotate_left; (focus ((try dsimp only at hSq); go_simp; try with_reducible rfl))) | refine wpSeq_skip rfl (by rfl) ?_); simp only [Act.put, List.setIfInBounds_toArray, List.set_cons_zero, List.set_cons_succ]))
  (refine wpSeq_do rfl (by rfl) (fun KK hK => ?_); go_simp)
  refine (g_pall (B := b) (R := r) hB hR (HT.out.on ((mkW_bl w b r).trans (A.out.bl.mono (by rw [mkW_size]; omega))))).mono ?_; rintro e u6 ⟨p6, n6, c6, rfl, h⟩; replace A := Lib.hid (A.out.more ⟨p6, n6, c6⟩ h.out); clear h
  refine hK.out _ _ (mk_cells w b r _ A.out.bl).1 ?_
  (clear hK KK; try simp only [Act.put, List.setIfInBounds_toArray, List.set_cons_zero, List.set_cons_succ])
  (repeat ((first | (refine wpSeq_take (v := ?_) rfl (by rfl) (fun wq hSq => ?_) ?_; rotate_left; (focus ((try dsimp only at hSq); go_simp; try with_reducible rfl))) | refine wpSeq_skip rfl (by rfl) ?_); simp only [Act.put, List.setIfInBounds_toArray, List.set_cons_zero, List.set_cons_succ]))
  have HX := mk_cells w b r _ A.out.bl
  obtain ⟨⟨x0, x1⟩, xs⟩ := HX
  have hlt := lt_of_block xs
  have a0 := (cell_of_row _ _ 0 _ _ _ xs).trans rfl
  have f0 := frozen_of_row _ _ 0 _ _ xs
  have a1 := (cell_of_row _ _ 1 _ _ _ xs).trans rfl
  have f1 := frozen_of_row _ _ 1 _ _ xs
  have a2 := (cell_of_row _ _ 2 _ _ _ xs).trans rfl
  have f2 := frozen_of_row _ _ 2 _ _ xs
  have a3 := (cell_of_row _ _ 3 _ _ _ xs).trans rfl
  have f3 := frozen_of_row _ _ 3 _ _ xs
  have a4 := (cell_of_row _ _ 4 _ _ _ xs).trans rfl
  have f4 := frozen_of_row _ _ 4 _ _ xs
  have a5 := (cell_of_row _ _ 5 _ _ _ xs).trans rfl
  have f5 := frozen_of_row _ _ 5 _ _ xs
  have a6 := (cell_of_row _ _ 6 _ _ _ xs).trans rfl
  have f6 := frozen_of_row _ _ 6 _ _ xs
  have a7 := (cell_of_row _ _ 7 _ _ _ xs).trans rfl
  have f7 := frozen_of_row _ _ 7 _ _ xs
  have a8 := (cell_of_row _ _ 8 _ _ _ xs).trans rfl
  have f8 := frozen_of_row _ _ 8 _ _ xs
  have a9 := (cell_of_row _ _ 9 _ _ _ xs).trans rfl
  have f9 := frozen_of_row _ _ 9 _ _ xs
  have a10 := (cell_of_row _ _ 10 _ _ _ xs).trans rfl
  have f10 := frozen_of_row _ _ 10 _ _ xs
  have a11 := (cell_of_row _ _ 11 _ _ _ xs).trans rfl
  have f11 := frozen_of_row _ _ 11 _ _ xs
  have a12 := (cell_of_row _ _ 12 _ _ _ xs).trans rfl
  have f12 := frozen_of_row _ _ 12 _ _ xs
  have a13 := (cell_of_row _ _ 13 _ _ _ xs).trans rfl
  have f13 := frozen_of_row _ _ 13 _ _ xs
  have HS := Lib.hid (set14 w u6 (.int .i64 1) (.slice p0 n0 c0) (.int .i64 2) (.slice p1 n1 c1) (.int .i64 2) (.slice p2 n2 c2) (.int .i64 1) (.slice p3 n3 c3) (.int .i64 1) (.slice p4 n4 c4) (.int .i64 1) (.slice p5 n5 c5) (.int .i64 1) (.slice p6 n6 c6) xs)
  have HX := Lib.hid (mk_cells w b r u6 A.out.bl)
  have hl2 : w.heap.size + 1 < u6.heap.size := by
    have := A.out.bl.size
    rw [mkW_size] at this
    omega
  clear x0 x1 xs
  (refine wpSeq_do rfl (by rfl) (fun KK hK => ?_); go_simp)
  refine hK.out _ _ ⟨(World.cell?_of_block (a := ⟨w.heap.size + 1, 0, none⟩) (HS.out.2.block _ hl2 (by simp))).trans HX.out.1.1, (World.cell?_of_block (a := ⟨w.heap.size + 1, 1, none⟩) (HS.out.2.block _ hl2 (by simp))).trans HX.out.1.2⟩ ?_
  (clear hK KK; try simp only [Act.put, List.setIfInBounds_toArray, List.set_cons_zero, List.set_cons_succ])
  (repeat ((first | (refine wpSeq_take (v := ?_) rfl (by rfl) (fun wq hSq => ?_) ?_; rotate_left; (focus ((try dsimp only at hSq); go_simp; try with_reducible rfl))) | refine wpSeq_skip rfl (by rfl) ?_); simp only [Act.put, List.setIfInBounds_toArray, List.set_cons_zero, List.set_cons_succ]))
  refine wpSeq_nil ?_
  go_wp2_with fail
  have hbw : Below w.heap.size w u6 := (mkW_bl w b r).trans (A.out.bl.mono (by rw [mkW_size]; omega))
  have hrow : ∀ q ∈ ([(p6, n6, c6, allC b r), (p5, n5, c5, lenC b r), (p4, n4, c4, afterC b r), (p3, n3, c3, leastC b r), (p2, n2, c2, delC b r), (p1, n1, c1, putCd b r), (p0, n0, c0, getC b r)] : List (Option Addr × Nat × Nat × List Ins)), q.2.1 = q.2.2.2.length ∧ RowW 86 3 _ q.1 q.2.2.1 q.2.1 (codC q.2.2.2) := fun q hq => ⟨(A.out.it q hq).1, (A.out.it q hq).2.keep (HS.out.2.kept (fun x hx z => by
    obtain ⟨arr, e⟩ := (A.out.it q hq).2.blk hx
    rw [show x = w.heap.size by simpa using z] at e
    exact ne_ty e HX.out.2 (by decide) rfl) (A.out.it q hq).2.blw)⟩
  refine tree_back rfl w.heap.size 0 rfl rfl HS.out.1 rfl rfl ⟨fun k => [⟨p0, n0, c0⟩, ⟨p1, n1, c1⟩, ⟨p2, n2, c2⟩, ⟨p3, n3, c3⟩, ⟨p4, n4, c4⟩, ⟨p5, n5, c5⟩, ⟨p6, n6, c6⟩].getD k ⟨none, 0, 0⟩, rfl, ⟨fun k hk => ?_⟩, hbw.trans (HS.out.2.below (fun x hx => by simp at hx; omega) hbw.size)⟩
  match k, hk with
  | 0, _ => exact hrow (p0, n0, c0, getC b r) (by simp)
  | 1, _ => exact hrow (p1, n1, c1, putCd b r) (by simp)
  | 2, _ => exact hrow (p2, n2, c2, delC b r) (by simp)
  | 3, _ => exact hrow (p3, n3, c3, leastC b r) (by simp)
  | 4, _ => exact hrow (p4, n4, c4, afterC b r) (by simp)
  | 5, _ => exact hrow (p5, n5, c5, lenC b r) (by simp)
  | 6, _ => exact hrow (p6, n6, c6, allC b r) (by simp)
set_option maxHeartbeats 1000000 in
theorem make_no {b c : Int} (hc : c ≤ 9223372036854775807) (hc0 : -9223372036854775808 ≤ c) (hf : ¬ (7 ≤ c ∧ 0 ≤ b ∧ b + c ≤ 256)) : Calls Tryz.prog 11 #[.int .i64 b, .int .i64 c] w fun e w' => e = .returned (.tuple #[tree0, .int .i64 200]) ∧ Below w.heap.size w w' := by
  have HR := Lib.hid (room_any c hc)
  by_cases h7 : c < 7
  · have hr : roomV c = 0 := by unfold roomV; rw [if_pos h7]
    rw [hr] at HR
    have HS := Lib.hid (heap_alloc_new w treeO)
    clear hf hc0
    go_enter Tryz.func11, Tryz.ntmps11
    go_wp2_with (go_at_call 13; refine (HR.out _).mono ?_; rintro e u ⟨rfl, hu⟩; subst u)
    exact tree_back rfl w.heap.size 200 rfl rfl HS.out rfl rfl ⟨rfl, bl1 _ _⟩
  · have hr := roomV_in c
    have hr1 : roomV c ≠ 0 := by unfold roomV; rw [if_neg h7]; split <;> omega
    obtain ⟨r, hr2⟩ : ∃ r, roomV c = r := ⟨_, rfl⟩
    rw [hr2] at HR hr hr1
    have e0 : (r == 0) = false := by simpa using hr1
    have e2 : wrap64 (256 - c) = 256 - c := by unfold wrap64; omega
    have HS := Lib.hid (heap_alloc_new w treeO)
    by_cases hb : b < 0
    · clear hf hc0 hr hr1 hr2 h7
      go_enter Tryz.func11, Tryz.ntmps11
      go_wp2_with (go_at_call 13; refine (HR.out _).mono ?_; rintro e u ⟨rfl, hu⟩; subst u)
      exact tree_back rfl w.heap.size 200 rfl rfl HS.out rfl rfl ⟨rfl, bl1 _ _⟩
    · have e3 : 256 - c < b := by omega
      clear hf hc0 hr hr1 hr2 h7
      go_enter Tryz.func11, Tryz.ntmps11
      go_wp2_with (go_at_call 13; refine (HR.out _).mono ?_; rintro e u ⟨rfl, hu⟩; subst u)
      exact tree_back rfl w.heap.size 200 rfl rfl HS.out rfl rfl ⟨rfl, bl1 _ _⟩
end
end Go.Proofs.YtpboiggakehpoaaGreatDoor.Tr
namespace Go.Proofs.YtpboiggakehpoaaGreatDoor.Tr
open Go.ChangeShapes Go.WideShapes Go.ChangeAt Go.RowKit Num Go.Maps As
open Go.ChangeMaps Go.MapKept
theorem cell_sm {w u : World} (h : Same w u) (p : Addr) : u.cell? p = w.cell? p := by unfold World.cell?; rw [h.heap]
section
variable {w : World}
attribute [local go_sem] bits_run
set_option maxRecDepth 100000 in
set_option maxHeartbeats 2000000 in
theorem exact_any {pa pb : Option Addr} {ca cb n : Nat} {l : List Nat} (hn : l.length = n) (hm : n ≤ 9223372036854775807) (ha : FlAt w pa l) (hb : FlAt w pb l) : Calls Tryz.prog 25 #[.slice pa n ca, .slice pb n cb] w fun e w' => e = .returned (.bool true) ∧ Same w w' := by
  have HA := Lib.hid ha
  have HB := Lib.hid hb
  have HN := Lib.hid hn
  have hmi : (n : Int) ≤ 9223372036854775807 := by omega
  clear ha hb hn
  go_enter Tryz.func25, Tryz.ntmps25
  go_wp2_with fail
  go_loopw [4, 5] (fun v4 v13 u => ∃ k : Nat, v13 = .int .i64 (k : Int) ∧ v4 = .bool false ∧ k ≤ n ∧ Hid (Same w u)) (fun _ v13 _ => n - (intOf v13).toNat)
  case atStart => exact ⟨0, rfl, rfl, Nat.zero_le _, Same.refl w⟩
  case round =>
    obtain ⟨k, rfl, rfl, hk, HR⟩ := hrel
    by_cases hlt : k < n
    · have hlt' : (k : Int) < (n : Int) := by omega
      obtain ⟨g1, o1, e1, l1, c1⟩ := HA.out k (by rw [HN.out]; exact hlt)
      obtain ⟨g2, o2, e2, l2, c2⟩ := HB.out k (by rw [HN.out]; exact hlt)
      obtain ⟨x, hx⟩ : ∃ x, l.getD k 0 = x := ⟨_, rfl⟩
      rw [hx] at c1 c2
      clear hx
      replace c1 := (cell_sm HR.out _).trans c1
      replace c2 := (cell_sm HR.out _).trans c2
      rw [← HR.out.heap] at l1 l2
      subst e1 e2
      clear HA HB HN
      go_upto_region 6 with fail
      refine wp_region_seq (fun u => u.cell? ⟨g1, o1 + k, none⟩ = some (.float .f64 x) ∧ u.cell? ⟨g2, o2 + k, none⟩ = some (.float .f64 x) )  ((0, true) :: (1, true) :: (2, true) :: (3, true) :: (5, true) :: (6, true) :: (7, true) :: (8, true) :: (4, false) :: (9, false) :: (10, true) :: [])  follows (by kernel_rfl) (fun _ _ _ _ _ h => h)  ⟨c1, c2⟩ ?_
      (repeat ((first | (refine wpSeq_take (v := ?_) rfl (by rfl) (fun wq hSq => ?_) ?_; rotate_left; (focus ((try dsimp only at hSq); go_simp; try with_reducible rfl))) | refine wpSeq_skip rfl (by rfl) ?_); simp only [Act.put, List.setIfInBounds_toArray, List.set_cons_zero, List.set_cons_succ]))
      (refine wpSeq_do rfl (by rfl) (fun KK hK => ?_); go_simp)
      refine hK.out _ _ ⟨c1, c2⟩ ?_
      (clear hK KK; try simp only [Act.put, List.setIfInBounds_toArray, List.set_cons_zero, List.set_cons_succ])
      (repeat ((first | (refine wpSeq_take (v := ?_) rfl (by rfl) (fun wq hSq => ?_) ?_; rotate_left; (focus ((try dsimp only at hSq); go_simp; try with_reducible rfl))) | refine wpSeq_skip rfl (by rfl) ?_); simp only [Act.put, List.setIfInBounds_toArray, List.set_cons_zero, List.set_cons_succ]))
      (refine wpSeq_do rfl (by rfl) (fun KK hK => ?_); go_simp)
      refine hK.out _ _ ⟨c1, c2⟩ ?_
      (clear hK KK; try simp only [Act.put, List.setIfInBounds_toArray, List.set_cons_zero, List.set_cons_succ])
      (repeat ((first | (refine wpSeq_take (v := ?_) rfl (by rfl) (fun wq hSq => ?_) ?_; rotate_left; (focus ((try dsimp only at hSq); go_simp; try with_reducible rfl))) | refine wpSeq_skip rfl (by rfl) ?_); simp only [Act.put, List.setIfInBounds_toArray, List.set_cons_zero, List.set_cons_succ]))
      refine wpSeq_nil ?_
      go_wp2_with fail
      exact ⟨⟨k + 1, by first | rfl | (congr 1), rfl, by omega, HR.out.trans (Same.drew _)⟩, by simp [intOf]; omega⟩
    · have hlt' : ¬ (k : Int) < (n : Int) := by omega
      go_wp2_with fail
      go_ret
      exact ⟨rfl, HR.out⟩
end
abbrev five : Nat := 4617315517961601024
abbrev fifty : Nat := 4632233691727265792
abbrev one1 : Nat := 4607182418800017408
def z24 : List Nat := List.replicate 24 0
theorem z24_ok : okS z24 := fun x hx => by
  have : x = 0 := (List.mem_replicate.1 hx).2
  exact this ▸ okN_zero
theorem lies5 : Lies 24 1 8 2 5 20 24 := ⟨by decide, by decide, by decide, by decide, by decide, by decide⟩
theorem has5 : Has 2 5 z24 [] := has_new (s := z24) lies5 fun i h1 h2 => by
  unfold z24
  rw [List.getD_eq_getElem?_getD, List.getElem?_replicate]
  split <;> rfl
theorem l2 : ∀ x ∈ [five, fifty], x < 18446744073709551616 := by decide
theorem l1 : ∀ x ∈ [five], x < 18446744073709551616 := by decide
structure Aft5 (s : List Nat) : Prop where
  len : s.length = 24
  ok : okS s
  has : Has 2 5 s [(five, fifty)]
theorem put5 : Ran z24 (runR 24 1 1024 8 2 (putCd 2 5) [five, fifty] z24) 2 20 1 0 [one1] ∧ Aft5 (aftS z24 (runR 24 1 1024 8 2 (putCd 2 5) [five, fifty] z24)) := by
  rcases put_ran (a := 24) (b := 1) (e := 8) (l := [five, fifty]) lies5 z24_ok has5 (by decide) l2 with ⟨_, h, _⟩ | ⟨_, h1, h2, h3⟩
  · exact absurd h (by decide)
  · rw [show X ((if isK [] (argF [five, fifty] 0) then 0 else 1 : Nat) : Int) = one1 from X_one] at h1
    exact ⟨h1, h3.1, aftS_ok z24_ok h1.rest, h2⟩
theorem get5 {s : List Nat} (h : Aft5 s) : Ran s (runR 24 1 1024 8 1 (getC 2 5) [five] s) 2 20 1 0 [fifty] ∧ aftS s (runR 24 1 1024 8 1 (getC 2 5) [five] s) = s := by
  have q := get_ran (a := 24) (b := 1) (e := 8) (l := [five]) (s := s) (h.len.symm ▸ lies5) h.ok h.has (by decide) l1
  rwa [show getS [(five, fifty)] (argF [five] 0) = [fifty] by decide +kernel] at q
theorem len5 {s : List Nat} (h : Aft5 s) : Ran s (runR 24 1 1024 8 1 (lenC 2 5) [] s) 2 20 1 0 [one1] ∧ aftS s (runR 24 1 1024 8 1 (lenC 2 5) [] s) = s := by
  have q := len_ran (a := 24) (b := 1) (e := 8) (l := []) (s := s) (h.len.symm ▸ lies5) h.ok h.has (by decide) (fun x hx => by cases hx)
  rwa [show X (([(five, fifty)] : Prs).length : Nat) = one1 from X_one] at q
theorem runs5 {u : World} {n k bs : Nat} {c co : Nat} {t : Int} {cs : List Ins} {po qo : Option Addr} {F s l : List Nat} {o : Nat} {B cells : Nat} (hT : Shaped5 u) (hn : n = cs.length) (hR : RowW 86 3 u qo c n (codC cs)) (hx : ∀ i ∈ cs, i.x < 18446744073709551616) (hm : cs.length ≤ 1000) (hk : l.length = k) (hL : FlAt u po l) (hl : ∀ x ∈ l, x < 18446744073709551616) (hS : Sx.Cel 94 u bs F s) (hs : okS s) (hr : Ran s (runR 24 1 1024 8 t cs l s) B cells 1 0 [o]) (hg : goodB 24 1 1024 8 s.length l.length = true) : Calls Tryz.prog 24 #[cfgV 24 1 1024 8, .agg #[.int .i64 t, .slice qo n c], .slice po k co, .pointer (some ⟨bs, 0, none⟩)] u fun r w' => ∃ (p3 : Option Addr) (c3 : Nat) (p4 : Option Addr) (n4 c4 : Nat) (p5 : Option Addr) (n5 c5 : Nat) (us : Int), r = .returned (.tuple #[.agg #[.int .i64 1, .int .i64 0, .int .i64 0, .slice p3 1 c3, .slice p4 n4 c4, .slice p5 n5 c5, .int .i64 us], .int .i64 0]) ∧ Hid ((RowAt 74 w' p3 c3 (fls [o]) ∧ Abv u.heap.size (fpR p3)) ∧ Sx.Cel 94 w' bs F (aftS s (runR 24 1 1024 8 t cs l s)) ∧ Turn F F u w') := by
  refine (run_any (a := 24) (b := 1) (c := 1024) (e := 8) (t := t) (cap := c) (co := co) hT hn.symm hk (hR.code hn.symm) hx hL hl (by omega) hS hs).mono fun r w' ⟨R, q1, q2, q3, q4⟩ => ?_
  have ho := q2.out
  have hao := q2.ao
  unfold resV resC at q1
  have e0 : runE 24 1 1024 8 s.length k = 0 := by unfold runE; rw [← hk, hg]; rfl
  rw [hr.how, hr.cod, hr.err, hr.out, e0] at q1
  rw [hr.out] at ho
  exact ⟨_, _, _, _, _, _, _, _, _, q1, ⟨ho, hao⟩, q3, q4⟩
end Go.Proofs.YtpboiggakehpoaaGreatDoor.Tr
namespace Go.Proofs.YtpboiggakehpoaaGreatDoor.Tr
open Go.ChangeShapes Go.WideShapes Go.ChangeAt Go.RowKit Num Go.Maps As
open Go.ChangeMaps Go.MapKept
attribute [local go_sem] run_store_float
theorem put_run {u : World} {q : Nat → Ptr} {bs co : Nat} {po : Option Addr} {F : List Nat} (hT : Shaped5 u) (hq : TrAt u 2 5 q) (hL : FlAt u po [five, fifty]) (hS : Sx.Cel 94 u bs F z24) : Calls Tryz.prog 24 #[cfgV 24 1 1024 8, .agg #[.int .i64 2, .slice (q 1).p (q 1).n (q 1).c], .slice po 2 co, .pointer (some ⟨bs, 0, none⟩)] u fun r w' => ∃ (s : List Nat) (p3 : Option Addr) (c3 : Nat) (p4 : Option Addr) (n4 c4 : Nat) (p5 : Option Addr) (n5 c5 : Nat) (us : Int), r = .returned (.tuple #[.agg #[.int .i64 1, .int .i64 0, .int .i64 0, .slice p3 1 c3, .slice p4 n4 c4, .slice p5 n5 c5, .int .i64 us], .int .i64 0]) ∧ Hid (((RowAt 74 w' p3 c3 (fls [one1]) ∧ Abv u.heap.size (fpR p3)) ∧ Sx.Cel 94 w' bs F s ∧ Turn F F u w') ∧ Aft5 s) := by
  have hr := hq.row 1 (by decide)
  refine (runs5 (t := 2) (cs := putCd 2 5) (l := [five, fifty]) (s := z24) hT hr.1 hr.2 (by decide +kernel) (by decide +kernel) rfl hL l2 hS z24_ok put5.1 (lies5.good (s := z24) (l := [five, fifty]) (by decide))).mono fun r w' ⟨p3, c3, p4, n4, c4, p5, n5, c5, us, q1, q2⟩ => ?_
  exact ⟨_, p3, c3, p4, n4, c4, p5, n5, c5, us, q1, q2.out, put5.2⟩
theorem get_run {u : World} {q : Nat → Ptr} {bs co : Nat} {po : Option Addr} {F s : List Nat} (hT : Shaped5 u) (hq : TrAt u 2 5 q) (hL : FlAt u po [five]) (hS : Sx.Cel 94 u bs F s) (hs : Aft5 s) : Calls Tryz.prog 24 #[cfgV 24 1 1024 8, .agg #[.int .i64 1, .slice (q 0).p (q 0).n (q 0).c], .slice po 1 co, .pointer (some ⟨bs, 0, none⟩)] u fun r w' => ∃ (p3 : Option Addr) (c3 : Nat) (p4 : Option Addr) (n4 c4 : Nat) (p5 : Option Addr) (n5 c5 : Nat) (us : Int), r = .returned (.tuple #[.agg #[.int .i64 1, .int .i64 0, .int .i64 0, .slice p3 1 c3, .slice p4 n4 c4, .slice p5 n5 c5, .int .i64 us], .int .i64 0]) ∧ Hid ((RowAt 74 w' p3 c3 (fls [fifty]) ∧ Abv u.heap.size (fpR p3)) ∧ Sx.Cel 94 w' bs F s ∧ Turn F F u w') := by
  have hr := hq.row 0 (by decide)
  have hl := lies5
  rw [← hs.len] at hl
  refine (runs5 (t := 1) (cs := getC 2 5) (l := [five]) (s := s) hT hr.1 hr.2 (by decide +kernel) (by decide +kernel) rfl hL l1 hS hs.ok (get5 hs).1 (hl.good (by decide))).mono fun r w' ⟨p3, c3, p4, n4, c4, p5, n5, c5, us, q1, q2⟩ => ?_
  have q3 := q2.out
  rw [(get5 hs).2] at q3
  exact ⟨p3, c3, p4, n4, c4, p5, n5, c5, us, q1, q3⟩
theorem len_run {u : World} {q : Nat → Ptr} {bs : Nat} {F s : List Nat} (hT : Shaped5 u) (hq : TrAt u 2 5 q) (hS : Sx.Cel 94 u bs F s) (hs : Aft5 s) : Calls Tryz.prog 24 #[cfgV 24 1 1024 8, .agg #[.int .i64 1, .slice (q 5).p (q 5).n (q 5).c], .slice none 0 0, .pointer (some ⟨bs, 0, none⟩)] u fun r w' => ∃ (p3 : Option Addr) (c3 : Nat) (p4 : Option Addr) (n4 c4 : Nat) (p5 : Option Addr) (n5 c5 : Nat) (us : Int), r = .returned (.tuple #[.agg #[.int .i64 1, .int .i64 0, .int .i64 0, .slice p3 1 c3, .slice p4 n4 c4, .slice p5 n5 c5, .int .i64 us], .int .i64 0]) ∧ Hid ((RowAt 74 w' p3 c3 (fls [one1]) ∧ Abv u.heap.size (fpR p3)) ∧ Sx.Cel 94 w' bs F s ∧ Turn F F u w') := by
  have hr := hq.row 5 (by decide)
  have hl := lies5
  rw [← hs.len] at hl
  refine (runs5 (t := 1) (cs := lenC 2 5) (l := []) (co := 0) (s := s) hT hr.1 hr.2 (by decide +kernel) (by decide +kernel) rfl (fun k hk => absurd hk (Nat.not_lt_zero k)) (fun x hx => by cases hx) hS hs.ok (len5 hs).1 (hl.good (by decide))).mono fun r w' ⟨p3, c3, p4, n4, c4, p5, n5, c5, us, q1, q2⟩ => ?_
  have q3 := q2.out
  rw [(len5 hs).2] at q3
  exact ⟨p3, c3, p4, n4, c4, p5, n5, c5, us, q1, q3⟩
theorem config_any (a b c : Int) (w : World) : Calls Tryz.prog 18 #[.int .i64 a, .int .i64 b, .int .i64 c] w fun e w' => e = .returned (cfgV a 1 b c) ∧ Below w.heap.size w w' := by
  go_enter Tryz.func18, Tryz.ntmps18
  go_wp2
  exact bodyPost_ret (results_cell_row rfl _ _ w.heap.size _ _ _ _ rfl (heap_alloc_new w (cfgO a 1 b c)) Tryz.underlying48 rfl (by kernel_rfl)) rfl ⟨rfl, below_alloc w _⟩
theorem cells14 {w : World} {x : Nat} {v0 v1 v2 v3 v4 v5 v6 v7 v8 v9 v10 v11 v12 v13 : Value} {T : TypeId} (h : w.heap[x]? = some (.cells #[v0, v1, v2, v3, v4, v5, v6, v7, v8, v9, v10, v11, v12, v13] T (0, 0))) : w.cell? ⟨x, 0, none⟩ = some v0 ∧ w.cell? ⟨x, 1, none⟩ = some v1 ∧ w.cell? ⟨x, 2, none⟩ = some v2 ∧ w.cell? ⟨x, 3, none⟩ = some v3 ∧ w.cell? ⟨x, 10, none⟩ = some v10 ∧ w.cell? ⟨x, 11, none⟩ = some v11 ∧ x < w.heap.size :=
  ⟨(cell_of_row w x 0 _ _ _ h).trans rfl, (cell_of_row w x 1 _ _ _ h).trans rfl, (cell_of_row w x 2 _ _ _ h).trans rfl, (cell_of_row w x 3 _ _ _ h).trans rfl, (cell_of_row w x 10 _ _ _ h).trans rfl, (cell_of_row w x 11 _ _ _ h).trans rfl, lt_of_block h⟩
theorem fl_one1 (w : World) (x : Nat) : FlAt (w.alloc (.cells #[.float .f64 x] 74)) (some ⟨w.heap.size, 0, none⟩) [x] := fun k hk => by
  have h0 : k = 0 := by simp at hk; exact hk
  subst h0
  exact ⟨_, 0, rfl, by simp, (cell_of_row _ _ _ _ _ _ (heap_alloc_new w _)).trans rfl⟩
theorem fl_two2 (w : World) (x y : Nat) : FlAt (w.alloc (.cells #[.float .f64 x, .float .f64 y] 74)) (some ⟨w.heap.size, 0, none⟩) [x, y] := fun k hk => by
  refine ⟨_, 0, rfl, by simp, ?_⟩
  rw [cell_of_row _ _ _ _ _ _ (heap_alloc_new w _)]
  match k, hk with
  | 0, _ => rfl
  | 1, _ => rfl
  | q + 2, h => exact absurd h (by simp)
theorem fl_two3 (u : World) (o : Obj) (x y : Nat) : FlAt ((u.alloc o).alloc (.cells #[.float .f64 x, .float .f64 y] 74)) (some ⟨u.heap.size + 1, 0, none⟩) [x, y] := by
  have h := fl_two2 (u.alloc o) x y
  rwa [World.size_alloc] at h
theorem fl_one3 (u : World) (o : Obj) (x : Nat) : FlAt ((u.alloc o).alloc (.cells #[.float .f64 x] 74)) (some ⟨u.heap.size + 1, 0, none⟩) [x] := by
  have h := fl_one1 (u.alloc o) x
  rwa [World.size_alloc] at h
theorem two_al (u : World) (o o2 : Obj) : Below u.heap.size u ((u.alloc o).alloc o2) := (below_alloc u _).trans ((below_alloc _ _).mono (by simp))
abbrev tO (q : Nat → Ptr) : Obj := .cells #[.int .i64 1, .slice (q 0).p (q 0).n (q 0).c, .int .i64 2, .slice (q 1).p (q 1).n (q 1).c, .int .i64 2, .slice (q 2).p (q 2).n (q 2).c, .int .i64 1, .slice (q 3).p (q 3).n (q 3).c, .int .i64 1, .slice (q 4).p (q 4).n (q 4).c, .int .i64 1, .slice (q 5).p (q 5).n (q 5).c, .int .i64 1, .slice (q 6).p (q 6).n (q 6).c] 28
theorem keepsT {F F' : List Nat} {u v : World} {g : Nat} {o : Obj} (t : Turn F F' u v) (h : u.heap[g]? = some o) (hn : g ∉ F) : v.heap[g]? = some o := (t.block g (lt_of_block h) hn).trans h
structure Lv (W u1 : World) (q : Nat → Ptr) (b : Nat) (F s : List Nat) (u : World) : Prop where
  b0 : Below W.heap.size W u1
  tq : TrAt u1 2 5 q
  bl : Below u1.heap.size u1 u
  tr : u.heap[u1.heap.size]? = some (tO q)
  cel : Sx.Cel 94 u b F s
  abv : Abv (u1.heap.size + 1) F
section
variable {W u1 u u' : World} {q : Nat → Ptr} {b : Nat} {F s s' : List Nat}
theorem Lv.on (h : Lv W u1 q b F s u) (k : Below u.heap.size u u') : Lv W u1 q b F s u' := ⟨h.b0, h.tq, h.bl.trans (k.mono h.bl.size), (k.block _ (lt_of_block h.tr)).trans h.tr, h.cel.on k, h.abv⟩
theorem Lv.turn (h : Lv W u1 q b F s u) (k : Turn F F u u') (hc : Sx.Cel 94 u' b F s') : Lv W u1 q b F s' u' := ⟨h.b0, h.tq, h.bl.trans (k.below (h.abv.mono (by omega)) h.bl.size), keepsT k h.tr fun hx => by have := h.abv _ hx; omega, hc, h.abv⟩
theorem Lv.bw (h : Lv W u1 q b F s u) : Below W.heap.size W u := h.b0.trans (h.bl.mono h.b0.size)
theorem Lv.rows (h : Lv W u1 q b F s u) : TrAt u 2 5 q := h.tq.on h.bl
theorem Lv.nf (h : Lv W u1 q b F s u) {g : Nat} (hg : u.heap.size ≤ g) : g ∉ F := fun hx => by have := h.cel.blw _ hx; omega
theorem row_keep {a : World} {p : Option Addr} {c : Nat} {l : List Value} {n : Nat} (h : RowAt 74 u p c l) (hA : Abv n (fpR p)) (hF : ∀ x ∈ F, x < n) (k : Below u.heap.size u a) (t : Turn F F a u') : RowAt 74 u' p c l := (h.on k).turn t (abv_blw hA hF)
end
set_option maxHeartbeats 8000000 in
set_option maxRecDepth 100000 in
theorem live_any {W : World} (hT : Shaped5 W) : Calls Tryz.prog 9 #[] W fun e w' => e = .returned (.bool true) ∧ Below W.heap.size W w' := by
  have HSH : Hid (∀ u, Below W.heap.size W u → Shaped5 u) := fun u hb => hT.on hb
  have HM : Hid (Calls Tryz.prog 11 #[.int .i64 2, .int .i64 20] W fun e w' => ∃ q, e = .returned (.tuple #[.agg #[.int .i64 1, .slice (q 0).p (q 0).n (q 0).c, .int .i64 2, .slice (q 1).p (q 1).n (q 1).c, .int .i64 2, .slice (q 2).p (q 2).n (q 2).c, .int .i64 1, .slice (q 3).p (q 3).n (q 3).c, .int .i64 1, .slice (q 4).p (q 4).n (q 4).c, .int .i64 1, .slice (q 5).p (q 5).n (q 5).c, .int .i64 1, .slice (q 6).p (q 6).n (q 6).c], .int .i64 0]) ∧ Hid (TrAt w' 2 5 q ∧ Below W.heap.size W w')) := by
    have h := make_yes hT (b := 2) (c := 20) (by decide) (by decide) (by decide) (by decide)
    rw [show roomV 20 = 5 by decide] at h
    exact h
  have HN : Hid (∀ w : World, Calls Tryz.prog 33 #[.int .i64 24] w fun e w' => ∃ b F, e = .returned (.tuple #[.pointer (some ⟨b, 0, none⟩), .int .i64 0]) ∧ Sx.Cel 94 w' b F z24 ∧ Abv w.heap.size F ∧ Below w.heap.size w w') := fun w => Sx.new_some (n := 24) (by decide) w
  have HC : Hid (∀ w : World, Calls Tryz.prog 18 #[.int .i64 24, .int .i64 1024, .int .i64 8] w fun e w' => e = .returned (cfgV 24 1 1024 8) ∧ Below w.heap.size w w') := fun w => config_any 24 1024 8 w
  clear hT
  go_enter Tryz.func9, Tryz.ntmps9
  go_upto_region 6 with (first
    | (go_at_call 11; refine HM.out.mono ?_; rintro e u1 ⟨q, rfl, K1⟩; clear HM)
    | (go_at_call 33; refine (HN.out _).mono ?_; rintro e u2 ⟨b, F, rfl, q1, q2, q3⟩; have Q2 := Lib.hid (And.intro q1 (And.intro q2 q3)); clear q1 q2 q3)
    | (go_at_call 18; refine (HC.out _).mono ?_; rintro e u3 ⟨rfl, q1⟩; have Q3 := Lib.hid q1; clear q1))
  have L3 : Hid (Lv W u1 q b F z24 u3) := (Lv.on ⟨K1.out.2, K1.out.1, (below_alloc u1 _).trans (Q2.out.2.2.mono (by simp)), (Q2.out.2.2.block _ (by simp)).trans (heap_alloc_new u1 _), Q2.out.1, Q2.out.2.1.mono (by simp)⟩ Q3.out)
  have HR1 : Hid (∀ u co po, Lv W u1 q b F z24 u → FlAt u po [five, fifty] → Calls Tryz.prog 24 #[cfgV 24 1 1024 8, .agg #[.int .i64 2, .slice (q 1).p (q 1).n (q 1).c], .slice po 2 co, .pointer (some ⟨b, 0, none⟩)] u fun r w' => ∃ (s : List Nat) (p3 : Option Addr) (c3 : Nat) (p4 : Option Addr) (n4 c4 : Nat) (p5 : Option Addr) (n5 c5 : Nat) (us : Int), r = .returned (.tuple #[.agg #[.int .i64 1, .int .i64 0, .int .i64 0, .slice p3 1 c3, .slice p4 n4 c4, .slice p5 n5 c5, .int .i64 us], .int .i64 0]) ∧ Hid (((RowAt 74 w' p3 c3 (fls [one1]) ∧ Abv u.heap.size (fpR p3)) ∧ Sx.Cel 94 w' b F s ∧ Turn F F u w') ∧ Aft5 s)) := fun u co po h1 h2 => put_run (HSH.out _ h1.bw) h1.rows h2 h1.cel
  have HR2 : Hid (∀ u s co po, Lv W u1 q b F s u → Aft5 s → FlAt u po [five] → Calls Tryz.prog 24 #[cfgV 24 1 1024 8, .agg #[.int .i64 1, .slice (q 0).p (q 0).n (q 0).c], .slice po 1 co, .pointer (some ⟨b, 0, none⟩)] u fun r w' => ∃ (p3 : Option Addr) (c3 : Nat) (p4 : Option Addr) (n4 c4 : Nat) (p5 : Option Addr) (n5 c5 : Nat) (us : Int), r = .returned (.tuple #[.agg #[.int .i64 1, .int .i64 0, .int .i64 0, .slice p3 1 c3, .slice p4 n4 c4, .slice p5 n5 c5, .int .i64 us], .int .i64 0]) ∧ Hid ((RowAt 74 w' p3 c3 (fls [fifty]) ∧ Abv u.heap.size (fpR p3)) ∧ Sx.Cel 94 w' b F s ∧ Turn F F u w')) := fun u s co po h1 h3 h2 => get_run (HSH.out _ h1.bw) h1.rows h2 h1.cel h3
  have HR3 : Hid (∀ u s, Lv W u1 q b F s u → Aft5 s → Calls Tryz.prog 24 #[cfgV 24 1 1024 8, .agg #[.int .i64 1, .slice (q 5).p (q 5).n (q 5).c], .slice none 0 0, .pointer (some ⟨b, 0, none⟩)] u fun r w' => ∃ (p3 : Option Addr) (c3 : Nat) (p4 : Option Addr) (n4 c4 : Nat) (p5 : Option Addr) (n5 c5 : Nat) (us : Int), r = .returned (.tuple #[.agg #[.int .i64 1, .int .i64 0, .int .i64 0, .slice p3 1 c3, .slice p4 n4 c4, .slice p5 n5 c5, .int .i64 us], .int .i64 0]) ∧ Hid ((RowAt 74 w' p3 c3 (fls [one1]) ∧ Abv u.heap.size (fpR p3)) ∧ Sx.Cel 94 w' b F s ∧ Turn F F u w')) := fun u s h1 h3 => len_run (HSH.out _ h1.bw) h1.rows h1.cel h3
  clear HSH K1 Q2 Q3 HN HC
  obtain ⟨t0, t1, t2, t3, t4, t5, t6⟩ := cells14 L3.out.tr
  go_upto_region 7 with (go_at_call 24; refine (HR1.out _ 2 (some ⟨u3.heap.size + 1, 0, none⟩) (L3.out.on (two_al u3 _ _)) (fl_two3 u3 _ five fifty)).mono ?_; rintro e u4 ⟨s, p3, c3, p4, n4, c4, p5, n5, c5, us, rfl, R1⟩; clear HR1)
  have L4 : Hid (Lv W u1 q b F s u4 ∧ Aft5 s) := ⟨(L3.out.on (two_al u3 _ _)).turn R1.out.1.2.2 R1.out.1.2.1, R1.out.2⟩
  have hN : Hid (∀ g, u3.heap.size ≤ g → g ∉ F) := fun g hg => L3.out.nf hg
  have hB : Hid (∀ x ∈ F, x < u3.heap.size) := fun x hx => L3.out.cel.blw x hx
  have X4 : Hid (u4.heap[u3.heap.size]? = some (cfgO 24 1 1024 8)) := keepsT R1.out.1.2.2 ((heap_alloc_old _ _ (by simp)).trans (heap_alloc_new u3 _)) (hN.out _ (Nat.le_refl _))
  have S4 := Lib.hid (show u3.heap.size + 2 ≤ u4.heap.size by have := R1.out.1.2.2.size; simp at this; omega)
  have W4 : Hid (RowAt 74 u4 p3 c3 (fls [one1]) ∧ Abv (u3.heap.size + 2) (fpR p3)) := ⟨R1.out.1.1.1, R1.out.1.1.2.mono (by simp)⟩
  clear R1 L3 t0 t1 t2 t3 t4 t5 t6
  obtain ⟨t0, t1, t2, t3, t4, t5, t6⟩ := cells14 L4.out.1.tr
  obtain ⟨x0, x1, x2, x3, x4⟩ := Md.cells4 X4.out
  go_upto_region 8 with (go_at_call 24; refine (HR2.out _ _ 1 (some ⟨u4.heap.size + 1, 0, none⟩) (L4.out.1.on (two_al u4 _ _)) L4.out.2 (fl_one3 u4 _ five)).mono ?_; rintro e u5 ⟨p6, c6, p7, n7, c7, p8, n8, c8, vs, rfl, R2⟩; clear HR2)
  have L5 : Hid (Lv W u1 q b F s u5) := (L4.out.1.on (two_al u4 _ _)).turn R2.out.2.2 R2.out.2.1
  have X5 : Hid (u5.heap[u3.heap.size]? = some (cfgO 24 1 1024 8)) := keepsT R2.out.2.2 (((two_al u4 _ _).block _ x4).trans X4.out) (hN.out _ (Nat.le_refl _))
  have Y5 := Lib.hid (keepsT R2.out.2.2 ((heap_alloc_old _ _ (by simp)).trans (heap_alloc_new u4 _)) (hN.out u4.heap.size (by have := S4.out; omega)))
  have S5 := Lib.hid (show u4.heap.size + 2 ≤ u5.heap.size by have := R2.out.2.2.size; simp at this; omega)
  have W5 : Hid (RowAt 74 u5 p3 c3 (fls [one1])) := row_keep W4.out.1 W4.out.2 (fun x hx => by have := hB.out x hx; omega) (two_al u4 _ _) R2.out.2.2
  have V5 : Hid (RowAt 74 u5 p6 c6 (fls [fifty]) ∧ Abv (u4.heap.size + 2) (fpR p6)) := ⟨R2.out.1.1, R2.out.1.2.mono (by simp)⟩
  clear R2 t0 t1 t2 t3 t4 t5 t6 x0 x1 x2 x3 x4
  obtain ⟨t0, t1, t2, t3, t4, t5, t6⟩ := cells14 L5.out.tr
  obtain ⟨x0, x1, x2, x3, x4⟩ := Md.cells4 X5.out
  go_upto_region 9 with (go_at_call 24; refine (HR3.out _ _ (L5.out.on (below_alloc u5 _)) L4.out.2).mono ?_; rintro e u6 ⟨p9, c9, pa, na, ca, pb, nb, cb, ws, rfl, R3⟩; clear HR3)
  have L6 : Hid (Lv W u1 q b F s u6) := (L5.out.on (below_alloc u5 _)).turn R3.out.2.2 R3.out.2.1
  have Y6 := Lib.hid (keepsT R3.out.2.2 ((heap_alloc_old _ _ (lt_of_block Y5.out)).trans Y5.out) (hN.out u4.heap.size (by have := S4.out; omega)))
  have Z6 := Lib.hid (keepsT R3.out.2.2 (heap_alloc_new u5 _) (hN.out u5.heap.size (by have := S4.out; have := S5.out; omega)))
  have W6 : Hid (RowAt 74 u6 p3 c3 (fls [one1])) := row_keep W5.out W4.out.2 (fun x hx => by have := hB.out x hx; omega) (below_alloc u5 _) R3.out.2.2
  have V6 : Hid (RowAt 74 u6 p6 c6 (fls [fifty])) := row_keep V5.out.1 V5.out.2 (fun x hx => by have := hB.out x hx; have := S4.out; omega) (below_alloc u5 _) R3.out.2.2
  have U6 : Hid (RowAt 74 u6 p9 c9 (fls [one1])) := R3.out.1.1
  clear R3 t0 t1 t2 t3 t4 t5 t6 x0 x1 x2 x3 x4 L4 L5 hN hB X4 X5 W4 W5 V5 S4 S5
  obtain ⟨⟨y0, y1, y2, y3, y4, y5, y6, y7⟩, _⟩ := cells7_of Y6.out
  obtain ⟨⟨z0, z1, z2, z3, z4, z5, z6, z7⟩, _⟩ := cells7_of Z6.out
  clear Y5
  go_wp2_with (first
    | (go_at_call 25; refine (exact_any (l := [one1]) (n := 1) rfl (by decide) (row_fl ((U6.out.on B8.out).on (below_alloc u8 _))) (fl_one1 u8 one1)).mono ?_; rintro e u9 ⟨rfl, qs⟩; have B9 := Lib.hid (B8.out.trans (((below_alloc u8 (.cells #[.float .f64 one1] 74)).trans (qs.below _)).mono B8.out.size)); clear qs U6)
    | (go_at_call 25; refine (exact_any (l := [fifty]) (n := 1) rfl (by decide) (row_fl ((V6.out.on B7.out).on (below_alloc u7 _))) (fl_one1 u7 fifty)).mono ?_; rintro e u8 ⟨rfl, qs⟩; have k8 := (below_alloc u7 (.cells #[.float .f64 fifty] 74)).trans (qs.below _); have B8 := Lib.hid (B7.out.trans (k8.mono B7.out.size)); have T8 := Lib.hid ((k8.block _ (lt_of_block T7.out)).trans T7.out); obtain ⟨⟨x0, x1, x2, x3, x4, x5, x6, x7⟩, _⟩ := cells7_of T8.out; clear qs k8 V6)
    | (go_at_call 25; refine (exact_any (l := [one1]) (n := 1) rfl (by decide) (row_fl (W6.out.on (two_al u6 _ _))) (fl_one3 u6 _ one1)).mono ?_; rintro e u7 ⟨rfl, qs⟩; have B7 := Lib.hid ((two_al u6 _ _).trans (qs.below u6.heap.size)); have T7 := Lib.hid ((congrArg (fun h => h[u6.heap.size]?) qs.heap).trans ((heap_alloc_old _ _ (by simp)).trans (heap_alloc_new u6 _))); have Z7 := Lib.hid ((B7.out.block _ z7).trans Z6.out); clear y0 y1 y2 y3 y4 y5 y6 y7 z0 z1 z2 z3 z4 z5 z6 z7; obtain ⟨⟨z0, z1, z2, z3, z4, z5, z6, z7⟩, _⟩ := cells7_of Z7.out; clear qs W6))
  go_ret
  exact ⟨rfl, L6.out.bw.trans (B9.out.mono L6.out.bw.size)⟩
end Go.Proofs.YtpboiggakehpoaaGreatDoor.Tr
namespace Go.Proofs.YtpboiggakehpoaaGreatDoor.Tr
open Num As
theorem ahd_le (L : Prs) (K : Nat) : ahd L K ≤ L.length := by
  unfold ahd
  exact List.Sublist.length_le (List.takeWhile_sublist _)
theorem ahd_lt : ∀ {L : Prs} {K i : Nat}, i < ahd L K → place (L.getD i (0, 0)).1 < place K
  | [], _, _, h => by simp [ahd] at h
  | q :: L, K, i, h => by
    unfold ahd at h
    by_cases hq : place q.1 < place K
    · rw [List.takeWhile_cons_of_pos (by simpa using hq)] at h
      cases i with
      | zero => simpa using hq
      | succ i =>
        have := ahd_lt (L := L) (K := K) (i := i) (by unfold ahd; simpa using h)
        simpa using this
    · rw [List.takeWhile_cons_of_neg (by simpa using hq)] at h
      simp at h
theorem ahd_ge : ∀ {L : Prs} {K : Nat}, ahd L K < L.length → place K ≤ place (L.getD (ahd L K) (0, 0)).1
  | [], _, h => by simp at h
  | q :: L, K, h => by
    by_cases hq : place q.1 < place K
    · have e : ahd (q :: L) K = ahd L K + 1 := by unfold ahd; rw [List.takeWhile_cons_of_pos (by simpa using hq)]; rfl
      rw [e] at h ⊢
      have := ahd_ge (L := L) (K := K) (by simpa using h)
      simpa using this
    · have e : ahd (q :: L) K = 0 := by unfold ahd; rw [List.takeWhile_cons_of_neg (by simpa using hq)]; rfl
      rw [e]
      simpa using hq
theorem place_fix (K : Nat) : place (fixB K) = place K := by
  unfold place
  rw [fixB_fixB]
theorem ahd_fix (L : Prs) (K : Nat) : ahd L (fixB K) = ahd L K := by unfold ahd; simp only [place_fix]
theorem isK_fix (L : Prs) (K : Nat) : isK L (fixB K) = isK L K := by unfold isK; rw [ahd_fix, place_fix]
def fullS (k : Int) (L : Prs) (R K : Nat) : Bool := decide (k = 2) && (!isK L K && decide (R ≤ L.length))
def outS (k : Int) (L : Prs) (R K : Nat) : List Nat :=
  if k = 1 then getS L K else if k = 2 then (if fullS 2 L R K then [] else [X ((if isK L K then 0 else 1 : Nat) : Int)]) else if k = 3 then [X ((if isK L K then 1 else 0 : Nat) : Int)] else if k = 4 then fstS L 0 else if k = 5 then aftS2 L K else if k = 6 then [X (L.length : Nat)] else allS L
def nxtS (k : Int) (L : Prs) (R K V : Nat) : Prs := if k = 2 then (if fullS 2 L R K then L else putS L K V) else if k = 3 then delS L K else L
def howS (k : Int) (L : Prs) (R K : Nat) : Int := if fullS k L R K then 2 else 1
def codS (k : Int) (L : Prs) (R K : Nat) : Int := if fullS k L R K then 1 else 0
def tagS (k : Int) : Int := if k = 2 ∨ k = 3 then 2 else 1
theorem kinds {k : Int} (h1 : 1 ≤ k) (h7 : k ≤ 7) : k = 1 ∨ k = 2 ∨ k = 3 ∨ k = 4 ∨ k = 5 ∨ k = 6 ∨ k = 7 := by omega
section
variable {a b e : Int} {B R cells : Nat} {s l : List Nat} {L : Prs}
theorem Outside.refl (s : List Nat) (B cells : Nat) : Outside s s B cells := ⟨rfl, fun _ _ _ => rfl⟩
theorem kind_ran (h : Lies a b e B R cells s.length) (hs : okS s) (hH : Has B R s L) (hl8 : l.length ≤ 8) (hl : ∀ x ∈ l, x < 18446744073709551616) {k : Int} (h1 : 1 ≤ k) (h7 : k ≤ 7) :
    Ran s (runR a b 1024 e (tagS k) (codeOf B R (k - 1).toNat) l s) B cells (howS k L R (argF l 0)) (codS k L R (argF l 0)) (outS k L R (argF l 0)) ∧ Has B R (aftS s (runR a b 1024 e (tagS k) (codeOf B R (k - 1).toNat) l s)) (nxtS k L R (argF l 0) (argF l 1)) ∧ Outside s (aftS s (runR a b 1024 e (tagS k) (codeOf B R (k - 1).toNat) l s)) B cells := by
  rcases kinds h1 h7 with rfl | rfl | rfl | rfl | rfl | rfl | rfl
  · obtain ⟨q1, q2⟩ := get_ran h hs hH hl8 hl
    exact ⟨q1, by show Has B R (aftS s (runR a b 1024 e 1 (getC B R) l s)) L; rw [q2]; exact hH, by show Outside s (aftS s (runR a b 1024 e 1 (getC B R) l s)) B cells; rw [q2]; exact Outside.refl ..⟩
  · rcases put_ran h hs hH hl8 hl with ⟨k1, k2, q1, q2⟩ | ⟨k1, q1, q2, q3⟩
    · have hf : fullS 2 L R (argF l 0) = true := by unfold fullS; rw [k1, decide_eq_true k2]; rfl
      refine ⟨?_, ?_, ?_⟩
      · unfold howS codS outS
        rw [hf]
        exact q1
      · show Has B R (aftS s (runR a b 1024 e 2 (putCd B R) l s)) (nxtS 2 L R (argF l 0) (argF l 1))
        unfold nxtS
        rw [hf, q2]
        exact hH
      · show Outside s (aftS s (runR a b 1024 e 2 (putCd B R) l s)) B cells
        rw [q2]
        exact Outside.refl ..
    · have hf : fullS 2 L R (argF l 0) = false := by
        unfold fullS
        rcases k1 with k1 | k1
        · rw [k1]; rfl
        · rw [decide_eq_false (show ¬ R ≤ L.length by omega)]; simp
      refine ⟨?_, ?_, q3⟩
      · unfold howS codS outS
        rw [hf]
        exact q1
      · unfold nxtS
        rw [hf]
        exact q2
  · exact del_ran h hs hH hl8 hl
  · obtain ⟨q1, q2⟩ := least_ran h hs hH hl8 hl
    exact ⟨q1, by show Has B R (aftS s (runR a b 1024 e 1 (leastC B R) l s)) L; rw [q2]; exact hH, by show Outside s (aftS s (runR a b 1024 e 1 (leastC B R) l s)) B cells; rw [q2]; exact Outside.refl ..⟩
  · obtain ⟨q1, q2⟩ := after_ran h hs hH hl8 hl
    exact ⟨q1, by show Has B R (aftS s (runR a b 1024 e 1 (afterC B R) l s)) L; rw [q2]; exact hH, by show Outside s (aftS s (runR a b 1024 e 1 (afterC B R) l s)) B cells; rw [q2]; exact Outside.refl ..⟩
  · obtain ⟨q1, q2⟩ := len_ran h hs hH hl8 hl
    exact ⟨q1, by show Has B R (aftS s (runR a b 1024 e 1 (lenC B R) l s)) L; rw [q2]; exact hH, by show Outside s (aftS s (runR a b 1024 e 1 (lenC B R) l s)) B cells; rw [q2]; exact Outside.refl ..⟩
  · obtain ⟨q1, q2⟩ := all_ran h hs hH hl8 hl
    exact ⟨q1, by show Has B R (aftS s (runR a b 1024 e 1 (allC B R) l s)) L; rw [q2]; exact hH, by show Outside s (aftS s (runR a b 1024 e 1 (allC B R) l s)) B cells; rw [q2]; exact Outside.refl ..⟩
structure Sorted (L : Prs) (R : Nat) : Prop where
  pw : L.Pairwise fun p q => place p.1 < place q.1
  len : L.length ≤ R
  ok : ∀ q ∈ L, okN q.1 ∧ okN q.2
theorem Has.sorted (h : Has B R s L) : Sorted L R := by
  obtain ⟨M, t, S, hT, rfl⟩ := h
  refine ⟨?_, ?_, fun q hq => ?_⟩
  · exact List.pairwise_map.2 hT.srt
  · show (prs M t.nodes).length ≤ R
    unfold prs
    rw [List.length_map, hT.len]
    have := hT.top
    omega
  · obtain ⟨j, _, rfl⟩ := List.mem_map.1 hq
    exact ⟨hT.ko j, hT.vo j⟩
end
theorem codes_len (B R : Int) {k : Nat} : k < 7 → (codeOf B R k).length ≤ 9223372036854775807 := by
  intro hk
  match k, hk with
  | 0, _ | 1, _ | 2, _ | 3, _ | 4, _ | 5, _ | 6, _ => exact Nat.le_of_ble_eq_true rfl
theorem codes_small (B R : Int) {k : Nat} : k < 7 → ∀ i ∈ codeOf B R k, i.x < 18446744073709551616 := by
  intro hk i hi
  obtain ⟨j, hj, rfl⟩ := List.mem_iff_getElem.1 hi
  have key : ∀ {t : Int} {ops : List O} {cs : List Ins}, (bsOf t ops).filled.map fixI = cs → ∀ j (h : j < cs.length), cs[j].x < 18446744073709551616 := fun h j hj => by
    have := code_small h j hj
    unfold ci at this
    rwa [List.getD_eq_getElem?_getD, List.getElem?_eq_getElem hj] at this
  match k, hk with
  | 0, _ => exact key (get_code B R) j hj
  | 1, _ => exact key (put_code B R) j hj
  | 2, _ => exact key (del_code B R) j hj
  | 3, _ => exact key (least_code B R) j hj
  | 4, _ => exact key (after_code B R) j hj
  | 5, _ => exact key (len_code B R) j hj
  | 6, _ => exact key (all_code B R) j hj
end Go.Proofs.YtpboiggakehpoaaGreatDoor.Tr
namespace Go.Proofs.YtpboiggakehpoaaGreatDoor.Tr
open Num As
section
variable {L : Prs} {K V R : Nat}
theorem all_len (L : Prs) : (allS L).length = 2 * L.length := by
  unfold allS
  induction L with
  | nil => rfl
  | cons q L ih => rw [List.flatMap_cons, List.length_append, ih]; simp only [List.length_cons, List.length_nil]; omega
theorem all_key (L : Prs) : ∀ i, i < L.length → (allS L).getD (2 * i) 0 = (L.getD i (0, 0)).1 ∧ (allS L).getD (2 * i + 1) 0 = (L.getD i (0, 0)).2 := by
  induction L with
  | nil => intro i hi; simp at hi
  | cons q L ih =>
    intro i hi
    have e : allS (q :: L) = q.1 :: q.2 :: allS L := rfl
    rw [e]
    cases i with
    | zero => exact ⟨rfl, rfl⟩
    | succ i =>
      have := ih i (by simpa using hi)
      rw [show 2 * (i + 1) = 2 * i + 1 + 1 by omega]
      simpa using this
end
end Go.Proofs.YtpboiggakehpoaaGreatDoor.Tr
namespace Go.Proofs.YtpboiggakehpoaaGreatDoor.Tr
open Go.ChangeShapes Go.WideShapes Go.ChangeAt Go.RowKit Num Go.Maps As
open Go.ChangeMaps Go.MapKept
attribute [local go_sem] run_store_float frombits_run bits_run
abbrev treeT (t : Nat → Int) (q : Nat → Ptr) : Value := .agg #[.int .i64 (t 0), .slice (q 0).p (q 0).n (q 0).c, .int .i64 (t 1), .slice (q 1).p (q 1).n (q 1).c, .int .i64 (t 2), .slice (q 2).p (q 2).n (q 2).c, .int .i64 (t 3), .slice (q 3).p (q 3).n (q 3).c, .int .i64 (t 4), .slice (q 4).p (q 4).n (q 4).c, .int .i64 (t 5), .slice (q 5).p (q 5).n (q 5).c, .int .i64 (t 6), .slice (q 6).p (q 6).n (q 6).c]
theorem prog_back {fn : Func} {p r : Tmp} (h : fn.results = #[.cell p 26, .tmp r]) {Q : Ending → World → Prop} {a : Act} {w : World} (g : Nat) (b : Bool) {arr : Array Value} (hp : a.tmps.getD p undef = .pointer (some ⟨g, 0, none⟩)) (hu : a.tmps.getD r undef = .bool b)
    (hg : w.heap[g]? = some (.cells arr 26 (0, 0))) (ha : arr.size = 2) (hd : a.defers = []) (hR : Q (.returned (.tuple #[.agg arr, .bool b])) w) : bodyPost Tryz.prog fn Q .ret a w := by
  refine bodyPost_ret (v := .tuple #[.agg arr, .bool b]) ?_ hd hR
  rw [results_cell_tmp h, hp, hu]
  have hl := run_loadVar_row (P := Tryz.prog) w g 26 26 arr (0, 0) _ hg Tryz.underlying26 rfl (by rw [ha]; kernel_rfl)
  simp [asAddr, hl, Result.andThen]
section
variable {w : World}
theorem two_last (w : World) (o : Obj) (x y : Value) (T : TypeId) : ((w.alloc o).alloc (.cells #[x, y] T)).heap[w.heap.size + 1]? = some (.cells #[x, y] T (0, 0)) := by
  have h := heap_alloc_new (w.alloc o) (.cells #[x, y] T)
  rwa [World.size_alloc] at h
set_option maxRecDepth 100000 in
set_option maxHeartbeats 2000000 in
theorem program_yes (t : Nat → Int) (q : Nat → Ptr) {k : Int} (h1 : 1 ≤ k) (h7 : k ≤ 7) (w : World) : Calls Tryz.prog 14 #[treeT t q, .int .i64 k] w fun e w' => e = .returned (.tuple #[.agg #[.int .i64 (t (k - 1).toNat), .slice (q (k - 1).toNat).p (q (k - 1).toNat).n (q (k - 1).toNat).c], .bool true]) ∧ Below w.heap.size w w' := by
  have hb := two_al w
  have hl := two_last w
  rcases kinds h1 h7 with rfl | rfl | rfl | rfl | rfl | rfl | rfl
  all_goals
    clear h1 h7
    go_enter Tryz.func14, Tryz.ntmps14
    go_wp2
    refine prog_back rfl (w.heap.size + 1) true rfl rfl (hl ..) rfl rfl ?_
    exact ⟨rfl, hb ..⟩
set_option maxRecDepth 100000 in
set_option maxHeartbeats 2000000 in
theorem program_no (t : Nat → Int) (q : Nat → Ptr) {k : Int} (h : ¬ (1 ≤ k ∧ k ≤ 7)) (w : World) : Calls Tryz.prog 14 #[treeT t q, .int .i64 k] w fun e w' => e = .returned (.tuple #[.agg #[.int .i64 0, .slice none 0 0], .bool false]) ∧ Below w.heap.size w w' := by
  have hb := two_al w
  have hl := two_last w
  have h1 : (k == 1) = false := by simp; omega
  have h2 : (k == 2) = false := by simp; omega
  have h3 : (k == 3) = false := by simp; omega
  have h4 : (k == 4) = false := by simp; omega
  have h5 : (k == 5) = false := by simp; omega
  have h6 : (k == 6) = false := by simp; omega
  have h7 : (k == 7) = false := by simp; omega
  clear h
  go_enter Tryz.func14, Tryz.ntmps14
  go_wp2
  refine prog_back rfl (w.heap.size + 1) false rfl rfl (hl ..) rfl rfl ?_
  exact ⟨rfl, hb ..⟩
end
end Go.Proofs.YtpboiggakehpoaaGreatDoor.Tr
namespace Go.Proofs.YtpboiggakehpoaaGreatDoor.Tr
open Go.ChangeShapes Go.WideShapes Go.ChangeAt Go.RowKit Num Go.Maps As
open Go.ChangeMaps Go.MapKept
attribute [local go_sem] run_store_float frombits_run bits_run
theorem cel_blk {w : World} {b : Nat} {F l : List Nat} (h : Sx.Cel 94 w b F l) {k : Nat} (hk : k ∈ F) : ∃ (arr : Array Value) (T : TypeId), w.heap[k]? = some (.cells arr T (0, 0)) ∧ (T = 94 ∨ T = 74) := by
  obtain ⟨p, c, h, rfl⟩ := h
  rcases List.mem_cons.1 hk with rfl | hk
  · exact ⟨_, _, h.box, .inl rfl⟩
  · rcases h.row.own.2 with ⟨q, _⟩ | ⟨g, cap, cur, hv, hb, hg, rest⟩
    · injection q with q1
      subst q1
      simp [fpR] at hk
    · cases hv
      obtain rfl : k = g := by simpa [fpR] using hk
      exact ⟨_, _, hg, .inr rfl⟩
theorem cel_no {w : World} {b : Nat} {F l : List Nat} (h : Sx.Cel 94 w b F l) {g : Nat} {arr : Array Value} {T : TypeId} {x : Nat × Nat} (hg : w.heap[g]? = some (.cells arr T x)) (h1 : (T == 94) = false) (h2 : (T == 74) = false) : g ∉ F := fun hk => by
  obtain ⟨arr', T', h3, h4⟩ := cel_blk h hk
  rw [hg] at h3
  injection h3 with h3
  injection h3 with _ h5
  subst h5
  rcases h4 with rfl | rfl
  · simp at h1
  · simp at h2
theorem TrAt.turn {w w' : World} {B R : Int} {q : Nat → Ptr} {b : Nat} {F F' l : List Nat} (h : TrAt w B R q) (hS : Sx.Cel 94 w b F l) (t : Turn F F' w w') : TrAt w' B R q := ⟨fun i hi => by
  have hr := h.row i hi
  refine ⟨hr.1, hr.2.keep (t.kept (fun k hk => ?_) hr.2.blw)⟩
  obtain ⟨arr, e⟩ := hr.2.blk hk
  exact cel_no hS e (by decide) (by decide)⟩
structure TW (W w : World) (q : Nat → Ptr) (b : Nat) (F s : List Nat) (a : Int) (B R cells : Nat) (L : Prs) : Prop where
  sh : Shaped5 W
  bl : Below W.heap.size W w
  ab : Abv W.heap.size F
  tr : TrAt w B R q
  cel : Sx.Cel 94 w b F s
  ok : okS s
  has : Has B R s L
  lies : Lies a 1 8 B R cells s.length
section
variable {W w w' : World} {q : Nat → Ptr} {b : Nat} {F s : List Nat} {a : Int} {B R cells : Nat} {L : Prs}
theorem TW.on (h : TW W w q b F s a B R cells L) (k : Below w.heap.size w w') : TW W w' q b F s a B R cells L := ⟨h.sh, h.bl.trans (k.mono h.bl.size), h.ab, h.tr.on k, h.cel.on k, h.ok, h.has, h.lies⟩
end
end Go.Proofs.YtpboiggakehpoaaGreatDoor.Tr
namespace Go.Proofs.YtpboiggakehpoaaGreatDoor.Tr
open Go.ChangeShapes Go.WideShapes Go.ChangeAt Go.RowKit Num Go.Maps As
open Go.ChangeMaps Go.MapKept
attribute [local go_sem] run_store_float frombits_run bits_run
abbrev treeA (q : Nat → Ptr) : Value := .agg #[.int .i64 1, .slice (q 0).p (q 0).n (q 0).c, .int .i64 2, .slice (q 1).p (q 1).n (q 1).c, .int .i64 2, .slice (q 2).p (q 2).n (q 2).c, .int .i64 1, .slice (q 3).p (q 3).n (q 3).c, .int .i64 1, .slice (q 4).p (q 4).n (q 4).c, .int .i64 1, .slice (q 5).p (q 5).n (q 5).c, .int .i64 1, .slice (q 6).p (q 6).n (q 6).c]
def tagN (i : Nat) : Int := [1, 2, 2, 1, 1, 1, 1].getD i 0
theorem tagN_k {k : Int} (h1 : 1 ≤ k) (h7 : k ≤ 7) : tagN (k - 1).toNat = tagS k := by
  rcases kinds h1 h7 with rfl | rfl | rfl | rfl | rfl | rfl | rfl <;> rfl
theorem prog_tree (q : Nat → Ptr) {k : Int} (h1 : 1 ≤ k) (h7 : k ≤ 7) (w : World) : Calls Tryz.prog 14 #[treeA q, .int .i64 k] w fun e w' => e = .returned (.tuple #[.agg #[.int .i64 (tagS k), .slice (q (k - 1).toNat).p (q (k - 1).toNat).n (q (k - 1).toNat).c], .bool true]) ∧ Below w.heap.size w w' := by
  have h := program_yes tagN q h1 h7 w
  rw [tagN_k h1 h7] at h
  exact h
theorem prog_none (q : Nat → Ptr) {k : Int} (h : ¬ (1 ≤ k ∧ k ≤ 7)) (w : World) : Calls Tryz.prog 14 #[treeA q, .int .i64 k] w fun e w' => e = .returned (.tuple #[.agg #[.int .i64 0, .slice none 0 0], .bool false]) ∧ Below w.heap.size w w' := program_no tagN q h w
end Go.Proofs.YtpboiggakehpoaaGreatDoor.Tr
namespace Go.Proofs.YtpboiggakehpoaaGreatDoor.Tr
open Go.ChangeShapes Go.WideShapes Go.ChangeAt Go.RowKit Num Go.Maps As
open Go.ChangeMaps Go.MapKept
attribute [local go_sem] run_store_float frombits_run bits_run
section
variable {w : World}
theorem rroom_any (c : Int) (hc : c ≤ 9223372036854775807) (w : World) : Calls Tryz.prog 10 #[.int .i64 c] w fun e w' => e = .returned (.int .i64 (roomV c)) ∧ w' = w := by
  unfold roomV
  by_cases h : c < 7
  · rw [if_pos h]
    go_enter Tryz.func10, Tryz.ntmps10
    go_wp2
    go_ret
    exact ⟨rfl, rfl⟩
  · rw [if_neg h]
    by_cases h5 : 52 ≤ c
    · rw [if_pos h5]
      go_enter Tryz.func10, Tryz.ntmps10
      go_wp2
      go_ret
      exact ⟨rfl, rfl⟩
    · rw [if_neg h5]
      have h1 : wrap64 (c - 4) = c - 4 := by unfold wrap64; omega
      have h2 : wrap64 ((c - 4).tdiv 3) = (c - 4) / 3 := by rw [Int.tdiv_eq_ediv_of_nonneg (by omega)]; unfold wrap64; omega
      go_enter Tryz.func10, Tryz.ntmps10
      go_wp2
      go_ret
      exact ⟨rfl, rfl⟩
theorem fits_yes {b c : Int} (h7 : 7 ≤ c) (h0 : 0 ≤ b) (hf : b + c ≤ 256) (w : World) : Calls Tryz.prog 12 #[.int .i64 b, .int .i64 c] w fun e w' => e = .returned (.bool true) ∧ w' = w := by
  have HR := Lib.hid (rroom_any c (by omega) w)
  have hr : 0 < roomV c := by unfold roomV; rw [if_neg (by omega)]; split <;> omega
  generalize roomV c = r at *
  have e2 : wrap64 (256 - c) = 256 - c := by unfold wrap64; omega
  have e1 : b ≤ 256 - c := by omega
  have e3 : c ≤ 256 := by omega
  go_enter Tryz.func12, Tryz.ntmps12
  go_wp2_with (go_at_call 10; refine HR.out.mono ?_; rintro e u ⟨rfl, hu⟩; subst u)
  go_ret
  exact ⟨rfl, rfl⟩
theorem fits_no {b c : Int} (hc : c ≤ 9223372036854775807) (hc0 : -9223372036854775808 ≤ c) (hf : ¬ (7 ≤ c ∧ 0 ≤ b ∧ b + c ≤ 256)) (w : World) : Calls Tryz.prog 12 #[.int .i64 b, .int .i64 c] w fun e w' => e = .returned (.bool false) ∧ w' = w := by
  have HR := Lib.hid (rroom_any c hc w)
  by_cases h7 : c < 7
  · have hr : roomV c = 0 := by unfold roomV; rw [if_pos h7]
    rw [hr] at HR
    clear hf
    go_enter Tryz.func12, Tryz.ntmps12
    go_wp2_with (go_at_call 10; refine HR.out.mono ?_; rintro e u ⟨rfl, hu⟩; subst u)
    go_ret
    exact ⟨rfl, rfl⟩
  · have hr : 0 < roomV c := by unfold roomV; rw [if_neg (by omega)]; split <;> omega
    generalize roomV c = r at *
    by_cases hb : 0 ≤ b
    · by_cases hc2 : c ≤ 256
      · have e2 : wrap64 (256 - c) = 256 - c := by unfold wrap64; omega
        have e1 : ¬ b ≤ 256 - c := by omega
        clear hf h7
        go_enter Tryz.func12, Tryz.ntmps12
        go_wp2_with (go_at_call 10; refine HR.out.mono ?_; rintro e u ⟨rfl, hu⟩; subst u)
        go_ret
        exact ⟨congrArg (fun x => Ending.returned (.bool x)) (decide_eq_false (Int.not_le.2 e1)), rfl⟩
      · clear hf h7
        go_enter Tryz.func12, Tryz.ntmps12
        go_wp2_with (go_at_call 10; refine HR.out.mono ?_; rintro e u ⟨rfl, hu⟩; subst u)
        go_ret
        exact ⟨rfl, rfl⟩
    · clear hf h7
      go_enter Tryz.func12, Tryz.ntmps12
      go_wp2_with (go_at_call 10; refine HR.out.mono ?_; rintro e u ⟨rfl, hu⟩; subst u)
      go_ret
      exact ⟨rfl, rfl⟩
end
def TW_new (d : Wd) : Prop := ∀ (W w : World) (q : Nat → Ptr) (b : Nat) (F : List Nat), Shaped5 W → Below W.heap.size W w → Abv W.heap.size F → TrAt w d.B (roomV d.C) q → Sx.Cel 94 w b F ((lB d 1).map fixB) → TW W w q b F ((lB d 1).map fixB) (totV d 1) d.B.toNat (roomV d.C).toNat d.C.toNat []
theorem cells5w {w : World} {x : Nat} {d : Wd} (h : w.heap[x]? = some (wdO d)) : w.cell? ⟨x, 0, none⟩ = some (.int .i64 d.B) ∧ w.cell? ⟨x, 1, none⟩ = some (.int .i64 d.C) ∧ w.cell? ⟨x, 2, none⟩ = some (.int .i64 d.M) ∧ w.cell? ⟨x, 3, none⟩ = some (.slice d.pn d.ln.length d.cn) ∧ w.cell? ⟨x, 4, none⟩ = some (.slice d.pc d.L.length d.cc) ∧ x < w.heap.size :=
  ⟨(cell_of_row w x 0 _ _ _ h).trans rfl, (cell_of_row w x 1 _ _ _ h).trans rfl, (cell_of_row w x 2 _ _ _ h).trans rfl, (cell_of_row w x 3 _ _ _ h).trans rfl, (cell_of_row w x 4 _ _ _ h).trans rfl, lt_of_block h⟩
abbrev opO (c : Cal) : Obj := .cells #[.int .i64 c.k, .bool c.o, .slice c.p c.l.length c.c] 52
theorem treeInfo : (Tryz.prog.info? 28).map (·.size) = some 14 := by kernel_rfl
theorem make_A {w : World} (hT : Shaped5 w) {b c : Int} (hc : c ≤ 9223372036854775807) (h7 : 7 ≤ c) (h0 : 0 ≤ b) (hf : b + c ≤ 256) : Calls Tryz.prog 11 #[.int .i64 b, .int .i64 c] w fun e w' => ∃ q, e = .returned (.tuple #[treeA q, .int .i64 0]) ∧ Hid (TrAt w' b (roomV c) q ∧ Below w.heap.size w w') := make_yes hT hc h7 h0 hf
theorem sB_lt {W : World} {d : Wd} (hd : WdIn W d) (m : Int) (i : Nat) : sB d m i < 18446744073709551616 := by
  unfold sB
  split
  · rename_i h
    have hl : i % d.ln.length < d.ln.length := Nat.mod_lt _ h.2
    rw [List.getD_eq_getElem?_getD, List.getElem?_eq_getElem hl]
    exact hd.lx _ (List.getElem_mem hl)
  · decide
theorem lB_ok {W : World} {d : Wd} (hd : WdIn W d) (m : Int) : okS ((lB d m).map fixB) := okS_map fun x hx => by
  obtain ⟨i, _, rfl⟩ := List.mem_map.1 hx
  exact sB_lt hd m i
theorem roomV_eq {c : Int} (h7 : 7 ≤ c) : roomV c = min 16 ((c - 4) / 3) := by
  unfold roomV
  rw [if_neg (by omega)]
  split <;> omega
theorem tw_new {W : World} {d : Wd} (hd : WdIn W d) (h7 : 7 ≤ d.C) (h0 : 0 ≤ d.B) (hf : d.B + d.C ≤ 256) : TW_new d := by
  intro W w q b F hT hb ha ht hc
  have htv : 1 ≤ totV d 1 ∧ totV d 1 ≤ 256 ∧ d.B + d.C ≤ totV d 1 := by
    unfold totV
    have := moreV_in d.M
    split <;> omega
  have hr := roomV_eq h7
  have hlen : ((lB d 1).map fixB).length = (totV d 1).toNat := by rw [List.length_map, lB_len]
  have hl : Lies (totV d 1) 1 8 d.B.toNat (roomV d.C).toNat d.C.toNat ((lB d 1).map fixB).length := by
    refine ⟨Md.cfgB_iff.2 ?_, by rw [hlen]; omega, by decide, by omega, by omega, by omega⟩
    omega
  refine ⟨hT, hb, ha, ?_, hc, lB_ok hd 1, has_new hl fun i h1 h2 => ?_, hl⟩
  · rw [show ((d.B.toNat : Nat) : Int) = d.B by omega, show (((roomV d.C).toNat : Nat) : Int) = roomV d.C by omega]
    exact ht
  · have hi : i < (totV d 1).toNat := by omega
    have e := lB_at d 1 i hi
    have e2 : sB d 1 i = 0 := if_neg (by omega)
    rw [e2] at e
    rw [List.getD_eq_getElem?_getD, List.getElem?_map, List.getElem?_eq_getElem (by rw [lB_len]; exact hi)]
    rw [List.getD_eq_getElem?_getD, List.getElem?_eq_getElem (by rw [lB_len]; exact hi)] at e
    simp only [Option.getD_some, Option.map_some] at e ⊢
    rw [e]
    rfl
end Go.Proofs.YtpboiggakehpoaaGreatDoor.Tr
namespace Go.Proofs.YtpboiggakehpoaaGreatDoor.Tr
open Go.ChangeShapes Go.WideShapes Go.ChangeAt Go.RowKit Num Go.Maps As
open Go.ChangeMaps Go.MapKept
attribute [local go_sem] run_store_float frombits_run bits_run
abbrev tZ : Array Value := #[.int .i64 0, .slice none 0 0, .int .i64 0, .slice none 0 0, .int .i64 0, .slice none 0 0, .int .i64 0, .slice none 0 0, .int .i64 0, .slice none 0 0, .int .i64 0, .slice none 0 0, .int .i64 0, .slice none 0 0]
theorem make_Z {w : World} {b c : Int} (hc : c ≤ 9223372036854775807) (hc0 : -9223372036854775808 ≤ c) (hf : ¬ (7 ≤ c ∧ 0 ≤ b ∧ b + c ≤ 256)) : Calls Tryz.prog 11 #[.int .i64 b, .int .i64 c] w fun e w' => e = .returned (.tuple #[.agg tZ, .int .i64 200]) ∧ Below w.heap.size w w' := make_no hc hc0 hf
end Go.Proofs.YtpboiggakehpoaaGreatDoor.Tr
namespace Go.Proofs.YtpboiggakehpoaaGreatDoor.Tr
open Go.ChangeShapes Go.WideShapes Go.ChangeAt Go.RowKit Num Go.Maps As
open Go.ChangeMaps Go.MapKept
attribute [local go_sem] run_store_float frombits_run bits_run
structure Lay where
  n0 : Nat
  g4 : Nat
  g6 : Nat
  q : Nat → Ptr
  b : Nat
  F : List Nat
  a : Int
  B : Nat
  R : Nat
  C : Nat
section
variable {W w w' : World} {d : Wd} {y : Lay} {rows : List (Option Addr × Nat × List Nat)} {L L' : Prs}
theorem no_args (w : World) : FlAt w none [] := fun k hk => absurd hk (Nat.not_lt_zero k)
end
end Go.Proofs.YtpboiggakehpoaaGreatDoor.Tr
namespace Go.Proofs.YtpboiggakehpoaaGreatDoor.Tr
open Go.ChangeShapes Go.WideShapes Go.ChangeAt Go.RowKit Num Go.Maps As
open Go.ChangeMaps Go.MapKept
attribute [local go_sem] run_store_float frombits_run bits_run
end Go.Proofs.YtpboiggakehpoaaGreatDoor.Tr
namespace Go.Proofs.YtpboiggakehpoaaGreatDoor.Tr
open Go.ChangeShapes Go.WideShapes Go.ChangeAt Go.RowKit Num Go.Maps As
open Go.ChangeMaps Go.MapKept
attribute [local go_sem] run_store_float frombits_run bits_run
end Go.Proofs.YtpboiggakehpoaaGreatDoor.Tr
namespace Go.Proofs.YtpboiggakehpoaaGreatDoor.Tr
open Go.ChangeShapes Go.WideShapes Go.ChangeAt Go.RowKit Num Go.Maps As
open Go.ChangeMaps Go.MapKept
attribute [local go_sem] run_store_float frombits_run bits_run
abbrev mpO (p : Option Addr) (n c : Nat) (M : Int) : Obj := .cells #[.slice p n c, .int .i64 M] 46
structure MpAt (w : World) (g : Nat) (F : List Nat) (M : Int) (L : Prs) : Prop where
  ex : ∃ p c, F = g :: fpR p ∧ w.heap[g]? = some (mpO p L.length c M) ∧ RowW 147 2 w p c L.length (fls (allS L))
section
variable {w w' : World} {g : Nat} {F : List Nat} {M : Int} {L : Prs}
theorem MpAt.blw (h : MpAt w g F M L) : Blw w F := by
  obtain ⟨p, c, rfl, hb, hr⟩ := h.ex
  intro k hk
  rcases List.mem_cons.1 hk with rfl | hk
  · exact lt_of_block hb
  · exact hr.blw k hk
theorem MpAt.keep (h : MpAt w g F M L) (k : Kept F w w') : MpAt w' g F M L := by
  obtain ⟨p, c, rfl, hb, hr⟩ := h.ex
  exact ⟨p, c, rfl, (k.2 g (List.mem_cons_self ..)).trans hb, hr.keep ⟨k.1, fun i hi => k.2 i (List.mem_cons_of_mem _ hi)⟩⟩
theorem MpAt.on (h : MpAt w g F M L) (k : Below w.heap.size w w') : MpAt w' g F M L := h.keep (kept_below k h.blw)
theorem MpAt.turn {G G' : List Nat} (h : MpAt w g F M L) (k : Turn G G' w w') (s : Sep F G) : MpAt w' g F M L := h.keep (k.kept s h.blw)
theorem MpAt.cells (h : MpAt w g F M L) : ∃ p c, w.cell? ⟨g, 0, none⟩ = some (.slice p L.length c) ∧ w.cell? ⟨g, 1, none⟩ = some (.int .i64 M) ∧ g < w.heap.size ∧ ∀ i, i < L.length → ∃ b, p = some ⟨b, 0, none⟩ ∧ b < w.heap.size ∧ w.cell? ⟨b, i * 2, none⟩ = some (.float .f64 (L.getD i (0, 0)).1) ∧ w.cell? ⟨b, i * 2 + 1, none⟩ = some (.float .f64 (L.getD i (0, 0)).2) := by
  obtain ⟨p, c, rfl, hb, hr⟩ := h.ex
  refine ⟨p, c, (cell_of_row _ _ _ _ _ _ hb).trans rfl, (cell_of_row _ _ _ _ _ _ hb).trans rfl, lt_of_block hb, fun i hi => ?_⟩
  obtain ⟨b, e, hl, _, _, hc, _⟩ := hr.at (by omega)
  have ha := all_key L i hi
  have e1 : (fls (allS L))[i * 2]? = some (.float .f64 (L.getD i (0, 0)).1) := by
    have hj : i * 2 < (allS L).length := by rw [all_len]; omega
    rw [← ha.1, show 2 * i = i * 2 by omega, List.getD_eq_getElem?_getD, List.getElem?_eq_getElem hj]
    simp [fls, List.getElem?_map, List.getElem?_eq_getElem hj]
  have e2 : (fls (allS L))[i * 2 + 1]? = some (.float .f64 (L.getD i (0, 0)).2) := by
    have hj : i * 2 + 1 < (allS L).length := by rw [all_len]; omega
    rw [← ha.2, show 2 * i + 1 = i * 2 + 1 by omega, List.getD_eq_getElem?_getD, List.getElem?_eq_getElem hj]
    simp [fls, List.getElem?_map, List.getElem?_eq_getElem hj]
  exact ⟨b, e, hl, (hc _ (by omega)).trans e1, (hc _ (by omega)).trans e2⟩
set_option maxRecDepth 100000 in
theorem place_any (h : MpAt w g F M L) (hl : L.length ≤ 9223372036854775807) (hL : ∀ q ∈ L, q.1 < 18446744073709551616) {x : Nat} (hx : x < 18446744073709551616) : Calls Tryz.prog 118 #[.pointer (some ⟨g, 0, none⟩), .float .f64 x] w fun e w' => e = .returned (.tuple #[.int .i64 (ahd L x : Nat), .bool (isK L x)]) ∧ w' = w := by
  obtain ⟨p, c, x0, x1, x2, hr⟩ := h.cells
  have HR := Lib.hid hr
  have HLL := Lib.hid hL
  have HCM : Hid (∀ a, a < 18446744073709551616 → ∀ u, Calls Tryz.prog 142 #[.float .f64 a, .float .f64 x] u fun e w' => e = .returned (.int .i64 (cmpB a x)) ∧ w' = u) := fun a ha u => refCompare_any a x u ha hx
  have hle := ahd_le L x
  have HGE : Hid (ahd L x < L.length → _) := fun h => ahd_ge h
  have HLT : Hid (∀ i, i < ahd L x → _) := fun i h => ahd_lt (L := L) (K := x) h
  have HIS : Hid (isK L x = (decide (ahd L x < L.length) && decide (place (L.getD (ahd L x) (0, 0)).1 = place x))) := rfl
  obtain ⟨t, ht⟩ : ∃ t, isK L x = t := ⟨_, rfl⟩
  rw [ht] at HIS ⊢
  obtain ⟨m, hm⟩ : ∃ m, ahd L x = m := ⟨_, rfl⟩
  rw [hm] at HGE HLT HIS hle ⊢
  clear h hr hL ht hm
  obtain ⟨n, hn⟩ : ∃ n, L.length = n := ⟨_, rfl⟩
  rw [hn] at HR HGE HIS hle hl x0
  have HN := Lib.hid hn
  clear hn
  have hln : (n : Int) ≤ 9223372036854775807 := by omega
  go_enter Tryz.func118, Tryz.ntmps118
  go_wp2_with fail
  go_loopw [6, 4, 5] (fun v6 v4 v5 wr => ∃ i : Nat, v6 = .int .i64 i ∧ v4 = .int .i64 0 ∧ v5 = .bool false ∧ i ≤ m ∧ wr = w) (fun v6 _ _ _ => n - (intOf v6).toNat)
  case atStart => exact ⟨0, rfl, rfl, rfl, Nat.zero_le _, rfl⟩
  case round =>
    obtain ⟨i, rfl, rfl, rfl, hi, rfl⟩ := hrel
    by_cases hlt : i < n
    · have hlt' : (i : Int) < (n : Int) := by omega
      obtain ⟨b, rfl, hb, c0, c1⟩ := HR.out i hlt
      have ha : (L.getD i (0, 0)).1 < 18446744073709551616 := by
        rw [List.getD_eq_getElem?_getD, List.getElem?_eq_getElem (by rw [HN.out]; exact hlt)]
        exact HLL.out _ (List.getElem_mem _)
      obtain ⟨a, hva⟩ : ∃ a, (L.getD i (0, 0)).1 = a := ⟨_, rfl⟩
      rw [hva] at c0 ha
      have hcp := cmp_place a x
      have HC : Hid (∀ u, _) := fun u => HCM.out a ha u
      obtain ⟨z, hz⟩ : ∃ z, cmpB a x = z := ⟨_, rfl⟩
      rw [hz] at HC hcp
      by_cases hm : i < m
      · have hneg : ¬ (0 : Int) ≤ z := by have := hcp.1.2 (by rw [← hva]; exact HLT.out i hm); omega
        have hi2 : i + 1 ≤ m := hm
        clear hz hva hcp ha c1 hle hm hi HCM HR HGE HLT HIS
        go_wp2_with (go_at_call 142; refine (HC.out _).mono ?_; rintro e u ⟨rfl, hu⟩; subst u; clear HC)
        exact ⟨⟨i + 1, by first | rfl | (congr 1), rfl, rfl, hi2, trivial⟩, by simp [intOf]; omega⟩
      · obtain rfl : i = m := by omega
        have hpos : (0 : Int) ≤ z := hcp.2.2.2 (by rw [← hva]; exact HGE.out hlt)
        have ht : t = decide (z = 0) := by
          rw [HIS.out, decide_eq_true hlt, Bool.true_and, hva]
          exact decide_eq_decide.2 hcp.2.1.symm
        have HT := Lib.hid ht
        clear hz hva hcp ha c1 hle hm hi HCM HR HGE HLT HIS ht
        go_wp2_with (go_at_call 142; refine (HC.out _).mono ?_; rintro e u ⟨rfl, hu⟩; subst u; clear HC)
        go_ret2
        rw [HT.out]
        exact ⟨rfl, rfl⟩
    · obtain rfl : i = m := by omega
      have ht : t = false := by rw [HIS.out, decide_eq_false hlt]; rfl
      have hlt' : ¬ (i : Int) < (n : Int) := by omega
      subst ht
      clear hle hi HCM HR HGE HLT HIS
      go_wp2_with fail
      go_ret2
      exact ⟨rfl, rfl⟩
end
end Go.Proofs.YtpboiggakehpoaaGreatDoor.Tr
namespace Go.Proofs.YtpboiggakehpoaaGreatDoor.Tr
open Go.ChangeShapes Go.WideShapes Go.ChangeAt Go.RowKit Num Go.Maps As
open Go.ChangeMaps Go.MapKept
attribute [local go_sem] run_store_float frombits_run bits_run
abbrev endV (h c e : Int) : Value := .agg #[.int .i64 h, .int .i64 c, .int .i64 e]
abbrev endA (h c e : Int) : Array Value := #[.int .i64 h, .int .i64 c, .int .i64 e]
abbrev endO (h c e : Int) : Obj := .cells (endA h c e) 60
theorem endA_one (h c e : Int) : (endA h c e).all (·.oneCell') = true := by simp [Value.oneCell']
theorem endInfo : (Tryz.prog.info? 60).map (·.size) = some 3 := by kernel_rfl
theorem end_back {fn : Func} {p r : Tmp} (h : fn.results = #[.cell p 60, .tmp r]) {Q : Ending → World → Prop} {a : Act} {w : World} (g : Nat) (v : Value) {arr : Array Value} (hp : a.tmps.getD p undef = .pointer (some ⟨g, 0, none⟩)) (hu : a.tmps.getD r undef = v)
    (hg : w.heap[g]? = some (.cells arr 60 (0, 0))) (ha : arr.size = 3) (hd : a.defers = []) (hR : Q (.returned (.tuple #[.agg arr, v])) w) : bodyPost Tryz.prog fn Q .ret a w := by
  refine bodyPost_ret (v := .tuple #[.agg arr, v]) ?_ hd hR
  rw [results_cell_tmp h, hp, hu]
  have hl := run_loadVar_row (P := Tryz.prog) w g 60 60 arr (0, 0) _ hg Tryz.underlying60 rfl (by rw [ha]; kernel_rfl)
  simp [asAddr, hl, Result.andThen]
section
variable {w : World}
set_option maxRecDepth 100000 in
theorem done_any (p : Option Addr) (n c : Nat) (w : World) : Calls Tryz.prog 119 #[.slice p n c] w fun e w' => e = .returned (.tuple #[endV 1 0 0, .slice p n c]) ∧ Below w.heap.size w w' := by
  go_enter Tryz.func119, Tryz.ntmps119
  go_wp2_with fail
  refine end_back rfl w.heap.size (.slice p n c) rfl rfl (heap_alloc_new w (endO 1 0 0)) rfl rfl ⟨rfl, below_alloc _ _⟩
theorem fl_row {u : World} {b : Nat} {l : List Nat} (h : u.heap[b]? = some (.cells (fls l).toArray 74)) : FlAt u (some ⟨b, 0, none⟩) l := fun k hk => by
  refine ⟨b, 0, rfl, lt_of_block h, (cell_of_row _ _ _ _ _ _ h).trans ?_⟩
  simp [fls, List.getD_eq_getElem?_getD, List.getElem?_eq_getElem hk]
theorem rd_end {u : World} (k : Below (w.alloc (endO 0 0 0)).heap.size (w.alloc (endO 0 0 0)) u) (h c e : Int) : u.heap[w.heap.size]? = some (endO 0 0 0) ∧ Below w.heap.size w (u.setRow w.heap.size (endA h c e)) ∧ (u.setRow w.heap.size (endA h c e)).heap[w.heap.size]? = some (endO h c e) := by
  have hb := (k.block _ (by simp)).trans (heap_alloc_new w (endO 0 0 0))
  have ks : Below w.heap.size u (u.setRow w.heap.size (endA h c e)) := ⟨rfl, rfl, rfl, by simp, fun i hi => setRow_other u _ i _ (by omega)⟩
  have k1 := (below_alloc w (endO 0 0 0)).trans (k.mono (by simp))
  exact ⟨hb, k1.trans ks, setRow_heap u _ _ _ _ _ hb⟩
theorem rd_row {u : World} {xs : Array Value} {T : TypeId} {cs : Array Value} (k : Below ((w.alloc (endO 0 0 0)).alloc (.cells xs T)).heap.size ((w.alloc (endO 0 0 0)).alloc (.cells xs T)) u) : Below (w.alloc (endO 0 0 0)).heap.size (w.alloc (endO 0 0 0)) u ∧ (u.setRow w.heap.size cs).heap[w.heap.size + 1]? = some (.cells xs T) := by
  have hn := heap_alloc_new (w.alloc (endO 0 0 0)) (.cells xs T)
  rw [World.size_alloc] at hn
  exact ⟨(below_alloc _ _).trans (k.mono (by simp)), (setRow_other u _ _ _ (by omega)).trans ((k.block _ (by simp)).trans hn)⟩
variable {g : Nat} {F : List Nat} {M : Int} {L : Prs}
abbrev Says (h c e : Int) (w : World) (l : List Nat) (r : Ending) (w' : World) : Prop := ∃ p m, r = .returned (.tuple #[endV h c e, .slice p l.length m]) ∧ Hid (FlAt w' p l ∧ Below w.heap.size w w')
set_option maxRecDepth 100000 in
theorem mget_any (h : MpAt w g F M L) (hl : L.length ≤ 9223372036854775807) (hL : ∀ q ∈ L, q.1 < 18446744073709551616) {x : Nat} (hx : x < 18446744073709551616) : Calls Tryz.prog 54 #[.pointer (some ⟨g, 0, none⟩), .float .f64 x] w fun e w' => Says 1 0 0 w (getS L x) e w' := by
  have h1 := h.on (below_alloc w (endO 0 0 0))
  have HP := Lib.hid (place_any h1 hl hL hx)
  obtain ⟨p, c, x0, x1, x2, hr⟩ := h1.cells
  by_cases hi : isK L x = true
  · have hlt : ahd L x < L.length := by
      unfold isK at hi
      simp at hi
      exact hi.1
    have hg : getS L x = [(L.getD (ahd L x) (0, 0)).2] := by unfold getS; rw [if_pos hi]
    obtain ⟨b, rfl, hb, c0, c1⟩ := hr _ hlt
    rw [hi] at HP
    rw [hg]
    obtain ⟨m, hm⟩ : ∃ m, ahd L x = m := ⟨_, rfl⟩
    rw [hm] at HP c0 c1 hlt ⊢
    obtain ⟨n, hn⟩ : ∃ n, L.length = n := ⟨_, rfl⟩
    rw [hn] at x0 hlt hl
    obtain ⟨v, hv⟩ : ∃ v, (L.getD m (0, 0)).2 = v := ⟨_, rfl⟩
    rw [hv] at c1 ⊢
    have hlt' : (m : Int) < (n : Int) := by omega
    have hln : (n : Int) ≤ 9223372036854775807 := by omega
    clear h h1 hL hi hg hr hm hn hv c0
    go_enter Tryz.func54, Tryz.ntmps54
    go_wp2_with (first
      | (refine wpList_store_row rfl 60 _ _ rfl w.heap.size (endA 1 0 0) rfl rfl _ _ (rd_end KB.out.1 1 0 0).1 endInfo rfl (endA_one 1 0 0) ?_)
      | (go_at_call 119; refine (done_any _ _ _ _).mono ?_; rintro e u ⟨rfl, k⟩; have KB := Lib.hid (rd_row (cs := endA 1 0 0) k); clear k)
      | (go_at_call 118; refine HP.out.mono ?_; rintro e z ⟨rfl, hz⟩; subst z; clear HP))
    refine end_back rfl w.heap.size _ rfl rfl (rd_end KB.out.1 1 0 0).2.2 rfl rfl ⟨_, _, rfl, fl_row (l := [v]) KB.out.2, (rd_end KB.out.1 1 0 0).2.1⟩
  · have hg : getS L x = [] := by unfold getS; rw [if_neg hi]
    have hi : isK L x = false := by simpa using hi
    rw [hi] at HP
    rw [hg]
    generalize ahd L x = m at *
    clear h h1 hL hi hg hr
    go_enter Tryz.func54, Tryz.ntmps54
    go_wp2_with (first
      | (refine wpList_store_row rfl 60 _ _ rfl w.heap.size (endA 1 0 0) rfl rfl _ _ (rd_end KB.out 1 0 0).1 endInfo rfl (endA_one 1 0 0) ?_)
      | (go_at_call 119; refine (done_any _ _ _ _).mono ?_; rintro e u ⟨rfl, k⟩; have KB := Lib.hid k; clear k)
      | (go_at_call 118; refine HP.out.mono ?_; rintro e z ⟨rfl, hz⟩; subst z; clear HP))
    refine end_back rfl w.heap.size _ rfl rfl (rd_end KB.out 1 0 0).2.2 rfl rfl ⟨_, _, rfl, no_args _, (rd_end KB.out 1 0 0).2.1⟩
end
end Go.Proofs.YtpboiggakehpoaaGreatDoor.Tr
namespace Go.Proofs.YtpboiggakehpoaaGreatDoor.Tr
open Go.ChangeShapes Go.WideShapes Go.ChangeAt Go.RowKit Num Go.Maps As
open Go.ChangeMaps Go.MapKept
attribute [local go_sem] run_store_float frombits_run bits_run
section
variable {w : World} {g : Nat} {F : List Nat} {M : Int} {L : Prs}
set_option maxRecDepth 100000 in
theorem mlen_any (h : MpAt w g F M L) (hl : L.length ≤ 9223372036854775807) : Calls Tryz.prog 60 #[.pointer (some ⟨g, 0, none⟩)] w fun e w' => Says 1 0 0 w [X (L.length : Nat)] e w' := by
  have h1 := h.on (below_alloc w (endO 0 0 0))
  obtain ⟨p, c, x0, x1, x2, hr⟩ := h1.cells
  obtain ⟨n, hn⟩ : ∃ n, L.length = n := ⟨_, rfl⟩
  rw [hn] at x0 hl ⊢
  have hln : (n : Int) ≤ 9223372036854775807 := by omega
  have HXL : Hid (X (n : Nat) = floatOfInt .f64 (n : Int)) := rfl
  rw [HXL.out]
  clear h h1 hr hn
  go_enter Tryz.func60, Tryz.ntmps60
  go_wp2_with (first
    | (refine wpList_store_row rfl 60 _ _ rfl w.heap.size (endA 1 0 0) rfl rfl _ _ (rd_end KB.out.1 1 0 0).1 endInfo rfl (endA_one 1 0 0) ?_)
    | (go_at_call 119; refine (done_any _ _ _ _).mono ?_; rintro e u ⟨rfl, k⟩; have KB := Lib.hid (rd_row (cs := endA 1 0 0) k); clear k))
  refine end_back rfl w.heap.size _ rfl rfl (rd_end KB.out.1 1 0 0).2.2 rfl rfl ⟨_, _, rfl, fl_row (l := [floatOfInt .f64 (n : Int)]) KB.out.2, (rd_end KB.out.1 1 0 0).2.1⟩
set_option maxRecDepth 100000 in
theorem mleast_any (h : MpAt w g F M L) (hl : L.length ≤ 9223372036854775807) : Calls Tryz.prog 58 #[.pointer (some ⟨g, 0, none⟩)] w fun e w' => Says 1 0 0 w (fstS L 0) e w' := by
  obtain ⟨p, c, x0, x1, x2, hr⟩ := h.cells
  by_cases hi : 0 < L.length
  · have hg : fstS L 0 = [(L.getD 0 (0, 0)).1, (L.getD 0 (0, 0)).2] := if_pos hi
    obtain ⟨b, rfl, hb, c0, c1⟩ := hr _ hi
    rw [hg]
    have HI : Hid (∀ u, Below w.heap.size w u → u.cell? ⟨g, 0, none⟩ = some (.slice (some ⟨b, 0, none⟩) L.length c) ∧ u.cell? ⟨b, 0, none⟩ = some (.float .f64 (L.getD 0 (0, 0)).1) ∧ u.cell? ⟨b, 1, none⟩ = some (.float .f64 (L.getD 0 (0, 0)).2)) := fun u k => by
      refine ⟨(k.cell (p := ⟨g, 0, none⟩) x2).trans x0, (k.cell (p := ⟨b, 0, none⟩) hb).trans ?_, (k.cell (p := ⟨b, 1, none⟩) hb).trans ?_⟩
      · simpa using c0
      · simpa using c1
    obtain ⟨n, hn⟩ : ∃ n, L.length = n := ⟨_, rfl⟩
    rw [hn] at HI x0 hi hl
    obtain ⟨v0, hv0⟩ : ∃ v, (L.getD 0 (0, 0)).1 = v := ⟨_, rfl⟩
    obtain ⟨v1, hv1⟩ : ∃ v, (L.getD 0 (0, 0)).2 = v := ⟨_, rfl⟩
    rw [hv0, hv1] at HI ⊢
    have hln : (n : Int) ≤ 9223372036854775807 := by omega
    have hne : ¬ (n : Int) = 0 := by omega
    have hlt : (0 : Int) < (n : Int) := by omega
    clear h hg hr hn hv0 hv1 c0 c1
    go_enter Tryz.func58, Tryz.ntmps58
    go_upto_region 3 with fail
    have hd := (below_alloc w (endO 0 0 0)).trans ((Same.drew (w.alloc (endO 0 0 0))).below _)
    refine wp_region_seq (fun u => u.cell? ⟨g, 0, none⟩ = some (.slice (some ⟨b, 0, none⟩) n c) ∧ u.cell? ⟨b, 0, none⟩ = some (.float .f64 v0) ∧ u.cell? ⟨b, 1, none⟩ = some (.float .f64 v1)) ((0, true) :: (1, true) :: (2, true) :: (3, true) :: (4, true) :: (5, true) :: (6, true) :: (7, true) :: (8, true) :: (9, true) :: (10, true) :: (11, true) :: (12, true) :: (13, true) :: (14, false) :: (15, false) :: (16, true) :: (17, true) :: (18, false) :: (19, true) :: []) follows (by kernel_rfl) (fun _ _ _ _ _ h => h) (HI.out _ hd) ?_
    (repeat ((first | (refine wpSeq_take (v := ?_) rfl (by rfl) (fun wq hSq => ?_) ?_; rotate_left; (focus ((try dsimp only at hSq); go_simp; try with_reducible rfl))) | refine wpSeq_skip rfl (by rfl) ?_); simp only [Act.put, List.setIfInBounds_toArray, List.set_cons_zero, List.set_cons_succ]))
    (refine wpSeq_do rfl (by rfl) (fun KK hK => ?_); go_simp)
    have hv := (two_al w (endO 0 0 0) (.cells #[.float .f64 v0, .float .f64 v1] 74)).trans ((Same.drew _).below _)
    refine hK.out _ _ (HI.out _ hv) ?_
    (clear hK KK; try simp only [Act.put, List.setIfInBounds_toArray, List.set_cons_zero, List.set_cons_succ])
    (repeat ((first | (refine wpSeq_take (v := ?_) rfl (by rfl) (fun wq hSq => ?_) ?_; rotate_left; (focus ((try dsimp only at hSq); go_simp; try with_reducible rfl))) | refine wpSeq_skip rfl (by rfl) ?_); simp only [Act.put, List.setIfInBounds_toArray, List.set_cons_zero, List.set_cons_succ]))
    (refine wpSeq_do rfl (by rfl) (fun KK hK => ?_); go_simp)
    refine (done_any _ _ _ _).mono ?_
    rintro e u ⟨rfl, k⟩
    have k1 : Below ((w.alloc (endO 0 0 0)).alloc (.cells #[.float .f64 v0, .float .f64 v1] 74)).heap.size ((w.alloc (endO 0 0 0)).alloc (.cells #[.float .f64 v0, .float .f64 v1] 74)) u := ((Same.drew _).below _).trans (k.mono (Nat.le_refl _))
    have KB := Lib.hid (rd_row (cs := endA 1 0 0) k1)
    refine hK.out _ _ (HI.out _ (hv.trans (k.mono hv.size))) ?_
    (clear hK KK; try simp only [Act.put, List.setIfInBounds_toArray, List.set_cons_zero, List.set_cons_succ])
    clear k k1 hv hd
    (repeat ((first | (refine wpSeq_take (v := ?_) rfl (by rfl) (fun wq hSq => ?_) ?_; rotate_left; (focus ((try dsimp only at hSq); go_simp; try with_reducible rfl))) | refine wpSeq_skip rfl (by rfl) ?_); simp only [Act.put, List.setIfInBounds_toArray, List.set_cons_zero, List.set_cons_succ]))
    refine wpSeq_do rfl (by rfl) (fun KK hK => ?_)
    refine wp_store_row 60 _ _ rfl w.heap.size (endA 1 0 0) rfl rfl _ _ (rd_end KB.out.1 1 0 0).1 endInfo rfl (endA_one 1 0 0) ?_
    refine hK.out _ _ (HI.out _ (rd_end KB.out.1 1 0 0).2.1) ?_
    (clear hK KK; try simp only [Act.put])
    (repeat ((first | (refine wpSeq_take (v := ?_) rfl (by rfl) (fun wq hSq => ?_) ?_; rotate_left; (focus ((try dsimp only at hSq); go_simp; try with_reducible rfl))) | refine wpSeq_skip rfl (by rfl) ?_); simp only [Act.put, List.setIfInBounds_toArray, List.set_cons_zero, List.set_cons_succ]))
    refine wpSeq_nil ?_
    go_wp2_with fail
    refine end_back rfl w.heap.size _ rfl rfl (rd_end KB.out.1 1 0 0).2.2 rfl rfl ⟨_, _, rfl, fl_row (l := [v0, v1]) KB.out.2, (rd_end KB.out.1 1 0 0).2.1⟩
  · have hg : fstS L 0 = [] := if_neg hi
    have hz : L.length = 0 := by omega
    rw [hg]
    rw [hz] at x0
    clear h hl hi hg hr hz
    go_enter Tryz.func58, Tryz.ntmps58
    go_wp2_with (first
      | (refine wpList_store_row rfl 60 _ _ rfl w.heap.size (endA 1 0 0) rfl rfl _ _ (rd_end KB.out 1 0 0).1 endInfo rfl (endA_one 1 0 0) ?_)
      | (go_at_call 119; refine (done_any _ _ _ _).mono ?_; rintro e u ⟨rfl, k⟩; have KB := Lib.hid k; clear k))
    refine end_back rfl w.heap.size _ rfl rfl (rd_end KB.out 1 0 0).2.2 rfl rfl ⟨_, _, rfl, no_args _, (rd_end KB.out 1 0 0).2.1⟩
set_option maxRecDepth 100000 in
theorem mafter_any (h : MpAt w g F M L) (hl : L.length < 9223372036854775807) (hL : ∀ q ∈ L, q.1 < 18446744073709551616) {x : Nat} (hx : x < 18446744073709551616) : Calls Tryz.prog 59 #[.pointer (some ⟨g, 0, none⟩), .float .f64 x] w fun e w' => Says 1 0 0 w (aftS2 L x) e w' := by
  have HP := Lib.hid (place_any (h.on (below_alloc w (endO 0 0 0))) (Nat.le_of_lt hl) hL hx)
  obtain ⟨p, c, x0, x1, x2, hr⟩ := h.cells
  have hle := ahd_le L x
  by_cases hi : isK L x = true
  · have hk : isK L x = true := by simpa using hi
    have hs : aftS2 L x = fstS L (ahd L x + 1) := by unfold aftS2; rw [hk]; rfl
    rw [hs]
    rw [hk] at HP
    clear hk hi hs
    generalize ahd L x = m at *
    have hlm : (m : Int) ≤ 9223372036854775807 := by omega
    obtain ⟨j, hjm⟩ : ∃ j, m + 1 = j := ⟨_, rfl⟩
    rw [hjm]
    have hji : (m : Int) + 1 = (j : Int) := by omega
    have hjl : (j : Int) ≤ 9223372036854775807 := by omega
    clear hjm
    by_cases hj : j < L.length
    · have hj2 : fstS L j = [(L.getD j (0, 0)).1, (L.getD j (0, 0)).2] := if_pos hj
      obtain ⟨b, rfl, hb, c0, c1⟩ := hr _ hj
      rw [hj2]
      have HI : Hid (∀ u, Below w.heap.size w u → u.cell? ⟨g, 0, none⟩ = some (.slice (some ⟨b, 0, none⟩) L.length c) ∧ u.cell? ⟨b, j * 2, none⟩ = some (.float .f64 (L.getD j (0, 0)).1) ∧ u.cell? ⟨b, j * 2 + 1, none⟩ = some (.float .f64 (L.getD j (0, 0)).2)) := fun u k => ⟨(k.cell (p := ⟨g, 0, none⟩) x2).trans x0, (k.cell (p := ⟨b, j * 2, none⟩) hb).trans c0, (k.cell (p := ⟨b, j * 2 + 1, none⟩) hb).trans c1⟩
      obtain ⟨n, hn⟩ : ∃ n, L.length = n := ⟨_, rfl⟩
      rw [hn] at HI x0 hj hl
      obtain ⟨v0, hv0⟩ : ∃ v, (L.getD j (0, 0)).1 = v := ⟨_, rfl⟩
      obtain ⟨v1, hv1⟩ : ∃ v, (L.getD j (0, 0)).2 = v := ⟨_, rfl⟩
      rw [hv0, hv1] at HI ⊢
      have hln : (n : Int) ≤ 9223372036854775807 := by omega
      have hne : ¬ (n : Int) ≤ (j : Int) := by omega
      have hlt : (j : Int) < (n : Int) := by omega
      clear hr hn hv0 hv1 c0 c1 hj2
      go_enter Tryz.func59, Tryz.ntmps59
      go_upto_region 6 with (go_at_call 118; refine HP.out.mono ?_; rintro e z ⟨rfl, hz⟩; subst z; clear HP)
      try rw [hji]
      clear hji
      have hd := (below_alloc w (endO 0 0 0)).trans ((Same.drew (w.alloc (endO 0 0 0))).below _)
      refine wp_region_seq (fun u => u.cell? ⟨g, 0, none⟩ = some (.slice (some ⟨b, 0, none⟩) n c) ∧ u.cell? ⟨b, j * 2, none⟩ = some (.float .f64 v0) ∧ u.cell? ⟨b, j * 2 + 1, none⟩ = some (.float .f64 v1)) ((0, true) :: (1, true) :: (2, true) :: (3, true) :: (4, true) :: (5, true) :: (6, true) :: (7, true) :: (8, true) :: (9, true) :: (10, true) :: (11, true) :: (12, true) :: (13, true) :: (14, true) :: (15, true) :: (16, false) :: (17, false) :: (18, true) :: (19, true) :: (20, false) :: (21, true) :: []) follows (by kernel_rfl) (fun _ _ _ _ _ h => h) (HI.out _ hd) ?_
      (repeat ((first | (refine wpSeq_take (v := ?_) rfl (by rfl) (fun wq hSq => ?_) ?_; rotate_left; (focus ((try dsimp only at hSq); go_simp; try with_reducible rfl))) | refine wpSeq_skip rfl (by rfl) ?_); simp only [Act.put, List.setIfInBounds_toArray, List.set_cons_zero, List.set_cons_succ]))
      (refine wpSeq_do rfl (by rfl) (fun KK hK => ?_); go_simp)
      have hv := (two_al w (endO 0 0 0) (.cells #[.float .f64 v0, .float .f64 v1] 74)).trans ((Same.drew _).below _)
      refine hK.out _ _ (HI.out _ hv) ?_
      (clear hK KK; try simp only [Act.put, List.setIfInBounds_toArray, List.set_cons_zero, List.set_cons_succ])
      (repeat ((first | (refine wpSeq_take (v := ?_) rfl (by rfl) (fun wq hSq => ?_) ?_; rotate_left; (focus ((try dsimp only at hSq); go_simp; try with_reducible rfl))) | refine wpSeq_skip rfl (by rfl) ?_); simp only [Act.put, List.setIfInBounds_toArray, List.set_cons_zero, List.set_cons_succ]))
      (refine wpSeq_do rfl (by rfl) (fun KK hK => ?_); go_simp)
      refine (done_any _ _ _ _).mono ?_
      rintro e u ⟨rfl, k⟩
      have k1 : Below ((w.alloc (endO 0 0 0)).alloc (.cells #[.float .f64 v0, .float .f64 v1] 74)).heap.size ((w.alloc (endO 0 0 0)).alloc (.cells #[.float .f64 v0, .float .f64 v1] 74)) u := ((Same.drew _).below _).trans (k.mono (Nat.le_refl _))
      have KB := Lib.hid (rd_row (cs := endA 1 0 0) k1)
      refine hK.out _ _ (HI.out _ (hv.trans (k.mono hv.size))) ?_
      (clear hK KK; try simp only [Act.put, List.setIfInBounds_toArray, List.set_cons_zero, List.set_cons_succ])
      clear k k1 hv hd
      (repeat ((first | (refine wpSeq_take (v := ?_) rfl (by rfl) (fun wq hSq => ?_) ?_; rotate_left; (focus ((try dsimp only at hSq); go_simp; try with_reducible rfl))) | refine wpSeq_skip rfl (by rfl) ?_); simp only [Act.put, List.setIfInBounds_toArray, List.set_cons_zero, List.set_cons_succ]))
      refine wpSeq_do rfl (by rfl) (fun KK hK => ?_)
      refine wp_store_row 60 _ _ rfl w.heap.size (endA 1 0 0) rfl rfl _ _ (rd_end KB.out.1 1 0 0).1 endInfo rfl (endA_one 1 0 0) ?_
      refine hK.out _ _ (HI.out _ (rd_end KB.out.1 1 0 0).2.1) ?_
      (clear hK KK; try simp only [Act.put])
      (repeat ((first | (refine wpSeq_take (v := ?_) rfl (by rfl) (fun wq hSq => ?_) ?_; rotate_left; (focus ((try dsimp only at hSq); go_simp; try with_reducible rfl))) | refine wpSeq_skip rfl (by rfl) ?_); simp only [Act.put, List.setIfInBounds_toArray, List.set_cons_zero, List.set_cons_succ]))
      refine wpSeq_nil ?_
      go_wp2_with fail
      refine end_back rfl w.heap.size _ rfl rfl (rd_end KB.out.1 1 0 0).2.2 rfl rfl ⟨_, _, rfl, fl_row (l := [v0, v1]) KB.out.2, (rd_end KB.out.1 1 0 0).2.1⟩
    · have hj2 : fstS L j = [] := if_neg hj
      rw [hj2]
      obtain ⟨n, hn⟩ : ∃ n, L.length = n := ⟨_, rfl⟩
      rw [hn] at x0 hj hl
      have hln : (n : Int) ≤ 9223372036854775807 := by omega
      have hne : (n : Int) ≤ (j : Int) := by omega
      clear hr hn hj2
      go_enter Tryz.func59, Tryz.ntmps59
      go_wp2_with (first
        | (refine wpList_store_row rfl 60 _ _ rfl w.heap.size (endA 1 0 0) rfl rfl _ _ (rd_end KB.out 1 0 0).1 endInfo rfl (endA_one 1 0 0) ?_)
        | (go_at_call 119; refine (done_any _ _ _ _).mono ?_; rintro e u ⟨rfl, k⟩; have KB := Lib.hid k; clear k)
        | (go_at_call 118; refine HP.out.mono ?_; rintro e z ⟨rfl, hz⟩; subst z; clear HP))
      refine end_back rfl w.heap.size _ rfl rfl (rd_end KB.out 1 0 0).2.2 rfl rfl ⟨_, _, rfl, no_args _, (rd_end KB.out 1 0 0).2.1⟩
  · have hk : isK L x = false := by simpa using hi
    have hs : aftS2 L x = fstS L (ahd L x) := by unfold aftS2; rw [hk]; rfl
    rw [hs]
    rw [hk] at HP
    clear hk hi hs
    generalize ahd L x = m at *
    have hlm : (m : Int) ≤ 9223372036854775807 := by omega
    by_cases hj : m < L.length
    · have hj2 : fstS L (m) = [(L.getD (m) (0, 0)).1, (L.getD (m) (0, 0)).2] := if_pos hj
      obtain ⟨b, rfl, hb, c0, c1⟩ := hr _ hj
      rw [hj2]
      have HI : Hid (∀ u, Below w.heap.size w u → u.cell? ⟨g, 0, none⟩ = some (.slice (some ⟨b, 0, none⟩) L.length c) ∧ u.cell? ⟨b, (m) * 2, none⟩ = some (.float .f64 (L.getD (m) (0, 0)).1) ∧ u.cell? ⟨b, (m) * 2 + 1, none⟩ = some (.float .f64 (L.getD (m) (0, 0)).2)) := fun u k => ⟨(k.cell (p := ⟨g, 0, none⟩) x2).trans x0, (k.cell (p := ⟨b, (m) * 2, none⟩) hb).trans c0, (k.cell (p := ⟨b, (m) * 2 + 1, none⟩) hb).trans c1⟩
      obtain ⟨n, hn⟩ : ∃ n, L.length = n := ⟨_, rfl⟩
      rw [hn] at HI x0 hj hl
      obtain ⟨v0, hv0⟩ : ∃ v, (L.getD (m) (0, 0)).1 = v := ⟨_, rfl⟩
      obtain ⟨v1, hv1⟩ : ∃ v, (L.getD (m) (0, 0)).2 = v := ⟨_, rfl⟩
      rw [hv0, hv1] at HI ⊢
      have hln : (n : Int) ≤ 9223372036854775807 := by omega
      have hne : ¬ (n : Int) ≤ (m : Int) := by omega
      have hlt : (m : Int) < (n : Int) := by omega
      clear hr hn hv0 hv1 c0 c1 hj2
      go_enter Tryz.func59, Tryz.ntmps59
      go_upto_region 6 with (go_at_call 118; refine HP.out.mono ?_; rintro e z ⟨rfl, hz⟩; subst z; clear HP)
      have hd := (below_alloc w (endO 0 0 0)).trans ((Same.drew (w.alloc (endO 0 0 0))).below _)
      refine wp_region_seq (fun u => u.cell? ⟨g, 0, none⟩ = some (.slice (some ⟨b, 0, none⟩) n c) ∧ u.cell? ⟨b, (m) * 2, none⟩ = some (.float .f64 v0) ∧ u.cell? ⟨b, (m) * 2 + 1, none⟩ = some (.float .f64 v1)) ((0, true) :: (1, true) :: (2, true) :: (3, true) :: (4, true) :: (5, true) :: (6, true) :: (7, true) :: (8, true) :: (9, true) :: (10, true) :: (11, true) :: (12, true) :: (13, true) :: (14, true) :: (15, true) :: (16, false) :: (17, false) :: (18, true) :: (19, true) :: (20, false) :: (21, true) :: []) follows (by kernel_rfl) (fun _ _ _ _ _ h => h) (HI.out _ hd) ?_
      (repeat ((first | (refine wpSeq_take (v := ?_) rfl (by rfl) (fun wq hSq => ?_) ?_; rotate_left; (focus ((try dsimp only at hSq); go_simp; try with_reducible rfl))) | refine wpSeq_skip rfl (by rfl) ?_); simp only [Act.put, List.setIfInBounds_toArray, List.set_cons_zero, List.set_cons_succ]))
      (refine wpSeq_do rfl (by rfl) (fun KK hK => ?_); go_simp)
      have hv := (two_al w (endO 0 0 0) (.cells #[.float .f64 v0, .float .f64 v1] 74)).trans ((Same.drew _).below _)
      refine hK.out _ _ (HI.out _ hv) ?_
      (clear hK KK; try simp only [Act.put, List.setIfInBounds_toArray, List.set_cons_zero, List.set_cons_succ])
      (repeat ((first | (refine wpSeq_take (v := ?_) rfl (by rfl) (fun wq hSq => ?_) ?_; rotate_left; (focus ((try dsimp only at hSq); go_simp; try with_reducible rfl))) | refine wpSeq_skip rfl (by rfl) ?_); simp only [Act.put, List.setIfInBounds_toArray, List.set_cons_zero, List.set_cons_succ]))
      (refine wpSeq_do rfl (by rfl) (fun KK hK => ?_); go_simp)
      refine (done_any _ _ _ _).mono ?_
      rintro e u ⟨rfl, k⟩
      have k1 : Below ((w.alloc (endO 0 0 0)).alloc (.cells #[.float .f64 v0, .float .f64 v1] 74)).heap.size ((w.alloc (endO 0 0 0)).alloc (.cells #[.float .f64 v0, .float .f64 v1] 74)) u := ((Same.drew _).below _).trans (k.mono (Nat.le_refl _))
      have KB := Lib.hid (rd_row (cs := endA 1 0 0) k1)
      refine hK.out _ _ (HI.out _ (hv.trans (k.mono hv.size))) ?_
      (clear hK KK; try simp only [Act.put, List.setIfInBounds_toArray, List.set_cons_zero, List.set_cons_succ])
      clear k k1 hv hd
      (repeat ((first | (refine wpSeq_take (v := ?_) rfl (by rfl) (fun wq hSq => ?_) ?_; rotate_left; (focus ((try dsimp only at hSq); go_simp; try with_reducible rfl))) | refine wpSeq_skip rfl (by rfl) ?_); simp only [Act.put, List.setIfInBounds_toArray, List.set_cons_zero, List.set_cons_succ]))
      refine wpSeq_do rfl (by rfl) (fun KK hK => ?_)
      refine wp_store_row 60 _ _ rfl w.heap.size (endA 1 0 0) rfl rfl _ _ (rd_end KB.out.1 1 0 0).1 endInfo rfl (endA_one 1 0 0) ?_
      refine hK.out _ _ (HI.out _ (rd_end KB.out.1 1 0 0).2.1) ?_
      (clear hK KK; try simp only [Act.put])
      (repeat ((first | (refine wpSeq_take (v := ?_) rfl (by rfl) (fun wq hSq => ?_) ?_; rotate_left; (focus ((try dsimp only at hSq); go_simp; try with_reducible rfl))) | refine wpSeq_skip rfl (by rfl) ?_); simp only [Act.put, List.setIfInBounds_toArray, List.set_cons_zero, List.set_cons_succ]))
      refine wpSeq_nil ?_
      go_wp2_with fail
      refine end_back rfl w.heap.size _ rfl rfl (rd_end KB.out.1 1 0 0).2.2 rfl rfl ⟨_, _, rfl, fl_row (l := [v0, v1]) KB.out.2, (rd_end KB.out.1 1 0 0).2.1⟩
    · have hj2 : fstS L (m) = [] := if_neg hj
      rw [hj2]
      obtain ⟨n, hn⟩ : ∃ n, L.length = n := ⟨_, rfl⟩
      rw [hn] at x0 hj hl
      have hln : (n : Int) ≤ 9223372036854775807 := by omega
      have hne : (n : Int) ≤ (m : Int) := by omega
      clear hr hn hj2
      go_enter Tryz.func59, Tryz.ntmps59
      go_wp2_with (first
        | (refine wpList_store_row rfl 60 _ _ rfl w.heap.size (endA 1 0 0) rfl rfl _ _ (rd_end KB.out 1 0 0).1 endInfo rfl (endA_one 1 0 0) ?_)
        | (go_at_call 119; refine (done_any _ _ _ _).mono ?_; rintro e u ⟨rfl, k⟩; have KB := Lib.hid k; clear k)
        | (go_at_call 118; refine HP.out.mono ?_; rintro e z ⟨rfl, hz⟩; subst z; clear HP))
      refine end_back rfl w.heap.size _ rfl rfl (rd_end KB.out 1 0 0).2.2 rfl rfl ⟨_, _, rfl, no_args _, (rd_end KB.out 1 0 0).2.1⟩
end
end Go.Proofs.YtpboiggakehpoaaGreatDoor.Tr
namespace Go.Proofs.YtpboiggakehpoaaGreatDoor.Tr
open Go.ChangeShapes Go.WideShapes Go.ChangeAt Go.RowKit Num Go.Maps As
open Go.ChangeMaps Go.MapKept
attribute [local go_sem] run_store_float frombits_run bits_run
theorem all_app (A B : Prs) : allS (A ++ B) = allS A ++ allS B := by unfold allS; rw [List.flatMap_append]
theorem take_snoc2 (L : Prs) (i : Nat) (h : i < L.length) : L.take (i + 1) = L.take i ++ [L.getD i (0, 0)] := by
  rw [List.take_add_one, List.getElem?_eq_getElem h, List.getD_eq_getElem?_getD, List.getElem?_eq_getElem h]
  rfl
theorem fls_app (a b : List Nat) : fls (a ++ b) = fls a ++ fls b := by simp [fls]
theorem fl_rowW {u : World} {p : Option Addr} {n c : Nat} {l : List Nat} (h : RowW 74 1 u p c n (fls l)) : FlAt u p l := fun k hk => by
  have hn : l.length = n := by have := h.len; rw [fls_len] at this; omega
  obtain ⟨g, rfl, hg, _, _, hc, _⟩ := h.at (by omega)
  refine ⟨g, 0, rfl, hg, ?_⟩
  rw [Nat.zero_add, hc k (by omega)]
  simp [fls, List.getD_eq_getElem?_getD, List.getElem?_eq_getElem hk]
theorem row_two (v : World) (a b : Nat) : RowW 74 1 (v.alloc (.cells #[.float .f64 a, .float .f64 b] 74)) (some ⟨v.heap.size, 0, none⟩) 2 2 (fls [a, b]) :=
  ⟨by refine ⟨rfl, .inr ⟨v.heap.size, 2, #[.float .f64 a, .float .f64 b], rfl, Nat.zero_le _, heap_alloc_new v _, Nat.le_refl _, by unfold maxLen; omega, rfl, rfl⟩⟩⟩
structure Gro (w v : World) (p : Option Addr) (c n : Nat) (l : List Nat) : Prop where
  bl : Below (w.alloc (endO 0 0 0)).heap.size (w.alloc (endO 0 0 0)) v
  row : RowW 74 1 v p c n (fls l)
  ab : Abv (w.alloc (endO 0 0 0)).heap.size (fpR p)
theorem Gro.on {w v v' : World} {p : Option Addr} {c n : Nat} {l : List Nat} (h : Gro w v p c n l) (k : Below v.heap.size v v') : Gro w v' p c n l := ⟨h.bl.trans (k.mono h.bl.size), h.row.keep (kept_below k h.row.blw), h.ab⟩
theorem Gro.app {w v : World} {p : Option Addr} {c n : Nat} {l : List Nat} (h : Gro w v p c n l) {a b gx cx : Nat} (hx : RowW 74 1 v (some ⟨gx, 0, none⟩) cx 2 (fls [a, b])) (hn : n ≤ 1000) (ty : TypeId) :
    ∃ r v', (Builtin.append_ #[56, 56] ty #[.slice p n c, .slice (some ⟨gx, 0, none⟩) 2 cx]).run Tryz.prog v = .ok r v' ∧ ∃ g c', r = .slice (some ⟨g, 0, none⟩) (n + 2) c' ∧ Gro w v' (some ⟨g, 0, none⟩) c' (n + 2) (l ++ [a, b]) := by
  obtain ⟨r, v', q1, g, c', q2, q3, q4⟩ := RowW.appN h.row Tryz.underlying56 fInfo (by kernel_rfl) (by decide) hx (by decide) (fun u hu => by simp [fls] at hu; rcases hu with rfl | rfl <;> rfl) (by unfold maxLen; omega) (by omega) ty
  refine ⟨r, v', q1, g, c', q2, h.bl.trans (q4.below h.ab h.bl.size), by rw [fls_app]; exact q3, fun k hk => ?_⟩
  obtain rfl : k = g := by simpa [fpR] using hk
  exact (q4.own k (List.mem_cons_self ..)).elim (h.ab k) (Nat.le_trans h.bl.size)
section
variable {w : World} {g : Nat} {F : List Nat} {M : Int} {L : Prs}
set_option maxRecDepth 100000 in
theorem mall_any (h : MpAt w g F M L) (hl : L.length ≤ 64) : Calls Tryz.prog 61 #[.pointer (some ⟨g, 0, none⟩)] w fun e w' => Says 1 0 0 w (allS L) e w' := by
  obtain ⟨p, c, x0, x1, x2, hr⟩ := h.cells
  have HI : Hid (∀ u, Below w.heap.size w u → u.cell? ⟨g, 0, none⟩ = some (.slice p L.length c) ∧ g < u.heap.size ∧ ∀ i, i < L.length → ∃ b, p = some ⟨b, 0, none⟩ ∧ b < u.heap.size ∧ u.cell? ⟨b, i * 2, none⟩ = some (.float .f64 (L.getD i (0, 0)).1) ∧ u.cell? ⟨b, i * 2 + 1, none⟩ = some (.float .f64 (L.getD i (0, 0)).2)) := fun u k =>
    ⟨(k.cell (p := ⟨g, 0, none⟩) x2).trans x0, Nat.lt_of_lt_of_le x2 k.size, fun i hi => by
      obtain ⟨b, e, hb, c0, c1⟩ := hr i hi
      exact ⟨b, e, Nat.lt_of_lt_of_le hb k.size, (k.cell (p := ⟨b, i * 2, none⟩) hb).trans c0, (k.cell (p := ⟨b, i * 2 + 1, none⟩) hb).trans c1⟩⟩
  have HTK : Hid (∀ i, i < L.length → allS (L.take (i + 1)) = allS (L.take i) ++ [(L.getD i (0, 0)).1, (L.getD i (0, 0)).2]) := fun i hi => by
    rw [take_snoc2 L i hi, all_app]; rfl
  have HAL : Hid (allS (L.take L.length) = allS L ∧ (allS L).length = 2 * L.length) := ⟨by rw [List.take_length], all_len L⟩
  obtain ⟨n, hn⟩ : ∃ n, L.length = n := ⟨_, rfl⟩
  rw [hn] at HI HTK HAL hl x0
  have hln : (n : Int) ≤ 64 := by omega
  have hb0 : Below w.heap.size w (w.alloc (endO 0 0 0)) := below_alloc _ _
  have HB0 := Lib.hid hb0
  clear h hr hn hb0
  go_enter Tryz.func61, Tryz.ntmps61
  go_wp2_with fail
  go_loopw [5, 4] (fun v5 v4 wr => ∃ (i : Nat) (q : Option Addr) (m e : Nat), v5 = .int .i64 i ∧ v4 = .slice q m e ∧ i ≤ n ∧ Hid (m = 2 * i ∧ Gro w wr q e m (allS (L.take i)))) (fun v5 _ _ => n - (intOf v5).toNat)
  case atStart => exact ⟨0, none, 0, 0, rfl, rfl, Nat.zero_le _, rfl, Below.refl _ _, rowW_nil _ _ _, fun k hk => by cases hk⟩
  case round =>
    obtain ⟨i, q, m, e, rfl, rfl, hi, HG⟩ := hrel
    have hbw := HB0.out.trans (HG.out.2.bl.mono HB0.out.size)
    obtain ⟨y0, y2, yr⟩ := HI.out _ hbw
    by_cases hlt : i < n
    · have hlt' : (i : Int) < (n : Int) := by omega
      obtain ⟨b, rfl, hb, c0, c1⟩ := yr i hlt
      have HIB : Hid (∀ u, Below wr.heap.size wr u → u.cell? ⟨g, 0, none⟩ = some (.slice (some ⟨b, 0, none⟩) n c) ∧ u.cell? ⟨b, i * 2, none⟩ = some (.float .f64 (L.getD i (0, 0)).1) ∧ u.cell? ⟨b, i * 2 + 1, none⟩ = some (.float .f64 (L.getD i (0, 0)).2)) := fun u k =>
        ⟨(k.cell (p := ⟨g, 0, none⟩) y2).trans y0, (k.cell (p := ⟨b, i * 2, none⟩) hb).trans c0, (k.cell (p := ⟨b, i * 2 + 1, none⟩) hb).trans c1⟩
      have HT := Lib.hid (HTK.out i hlt)
      have HIW : Hid (∀ u, Below w.heap.size w u → u.cell? ⟨g, 0, none⟩ = some (.slice (some ⟨b, 0, none⟩) n c) ∧ u.cell? ⟨b, i * 2, none⟩ = some (.float .f64 (L.getD i (0, 0)).1) ∧ u.cell? ⟨b, i * 2 + 1, none⟩ = some (.float .f64 (L.getD i (0, 0)).2)) := fun u k => by
        obtain ⟨z0, _, zr⟩ := HI.out u k
        obtain ⟨b', e', _, z1, z2⟩ := zr i hlt
        obtain rfl : b = b' := by injection e' with e'; injection e' with e'
        exact ⟨z0, z1, z2⟩
      obtain ⟨v0, hv0⟩ : ∃ v, (L.getD i (0, 0)).1 = v := ⟨_, rfl⟩
      obtain ⟨v1, hv1⟩ : ∃ v, (L.getD i (0, 0)).2 = v := ⟨_, rfl⟩
      rw [hv0, hv1] at HIB HIW HT
      clear c0 c1 hv0 hv1 yr hbw HI HTK HAL x0
      go_upto_region 5 with fail
      have hd := (Same.drew wr).below wr.heap.size
      refine wp_region_seq (fun u => u.cell? ⟨g, 0, none⟩ = some (.slice (some ⟨b, 0, none⟩) n c) ∧ u.cell? ⟨b, i * 2, none⟩ = some (.float .f64 v0) ∧ u.cell? ⟨b, i * 2 + 1, none⟩ = some (.float .f64 v1)) ((0, true) :: (1, true) :: (2, true) :: (3, true) :: (4, true) :: (5, true) :: (6, true) :: (7, true) :: (8, true) :: (9, true) :: (10, true) :: (11, true) :: (12, true) :: (13, true) :: (14, true) :: (15, true) :: (16, true) :: (17, false) :: (18, false) :: (19, true) :: []) follows (by kernel_rfl) (fun _ _ _ _ _ h => h) (HIB.out _ hd) ?_
      (repeat ((first | (refine wpSeq_take (v := ?_) rfl (by rfl) (fun wq hSq => ?_) ?_; rotate_left; (focus ((try dsimp only at hSq); go_simp; try with_reducible rfl))) | refine wpSeq_skip rfl (by rfl) ?_); simp only [Act.put, List.setIfInBounds_toArray, List.set_cons_zero, List.set_cons_succ]))
      (refine wpSeq_do rfl (by rfl) (fun KK hK => ?_); go_simp)
      have hv := hd.trans ((below_alloc wr.drew (.cells #[.float .f64 v0, .float .f64 v1] 74)).mono hd.size)
      refine hK.out _ _ (HIB.out _ hv) ?_
      (clear hK KK; try simp only [Act.put, List.setIfInBounds_toArray, List.set_cons_zero, List.set_cons_succ])
      (repeat ((first | (refine wpSeq_take (v := ?_) rfl (by rfl) (fun wq hSq => ?_) ?_; rotate_left; (focus ((try dsimp only at hSq); go_simp; try with_reducible rfl))) | refine wpSeq_skip rfl (by rfl) ?_); simp only [Act.put, List.setIfInBounds_toArray, List.set_cons_zero, List.set_cons_succ]))
      refine wpSeq_do rfl (by rfl) (fun KK hK => ?_)
      have kd := Same.drew (wr.alloc (.cells #[.float .f64 v0, .float .f64 v1] 74))
      have kb := kd.below (wr.alloc (.cells #[.float .f64 v0, .float .f64 v1] 74)).heap.size
      have hg := (HG.out.2.on (below_alloc wr (.cells #[.float .f64 v0, .float .f64 v1] 74))).on kb
      refine wp_append_ex (.tmp 15) (.tmp 32) _ _ rfl (.slice q m e) (.slice (some ⟨wr.heap.size, 0, none⟩) 2 2) rfl rfl (Gro.app hg ((row_two wr v0 v1).keep (kept_below kb (row_two wr v0 v1).blw)) (by have := HG.out.1; omega) _) ?_
      rintro r v4 ⟨g4, c4, rfl, H4⟩
      have HQ := Lib.hid H4
      refine hK.out _ _ (HIW.out _ (HB0.out.trans (H4.bl.mono HB0.out.size))) ?_
      (clear hK KK; try simp only [Act.put, List.setIfInBounds_toArray, List.set_cons_zero, List.set_cons_succ])
      (repeat ((first | (refine wpSeq_take (v := ?_) rfl (by rfl) (fun wq hSq => ?_) ?_; rotate_left; (focus ((try dsimp only at hSq); go_simp; try with_reducible rfl))) | refine wpSeq_skip rfl (by rfl) ?_); simp only [Act.put, List.setIfInBounds_toArray, List.set_cons_zero, List.set_cons_succ]))
      refine wpSeq_nil ?_
      clear hg kb kd hv hd H4
      have hm := HG.out.1
      go_wp2_with fail
      first
        | exact ⟨⟨i + 1, _, _, _, by first | rfl | (congr 1), rfl, by omega, by omega, by rw [HT.out]; exact HQ.out⟩, by simp [intOf]; omega⟩
        | exact ⟨⟨i + 1, by first | rfl | (congr 1), _, _, _, rfl, by omega, by omega, by rw [HT.out]; exact HQ.out⟩, by simp [intOf]; omega⟩
    · obtain rfl : i = n := by omega
      have hlt' : ¬ (i : Int) < (i : Int) := by omega
      obtain ⟨hm, hgr⟩ := HG.out
      rw [HAL.out.1] at hgr
      rw [← HAL.out.2] at hm
      have HR := Lib.hid hgr
      have HM := Lib.hid hm
      clear hm hgr HG HTK HI HAL hbw yr
      go_wp2_with (first
        | (refine wpList_store_row rfl 60 _ _ rfl w.heap.size (endA 1 0 0) rfl rfl _ _ (rd_end KB.out.1 1 0 0).1 endInfo rfl (endA_one 1 0 0) ?_)
        | (go_at_call 119; refine (done_any _ _ _ _).mono ?_; rintro e u ⟨rfl, k⟩; have KB := Lib.hid (And.intro (HR.out.bl.trans (k.mono HR.out.bl.size)) (HR.out.on k)); clear k))
      refine end_back rfl w.heap.size _ rfl rfl (rd_end KB.out.1 1 0 0).2.2 rfl rfl ⟨q, e, by first | rfl | (rw [HM.out]; rfl), ?_, (rd_end KB.out.1 1 0 0).2.1⟩
      exact fl_rowW (KB.out.2.row.keep ⟨by simp, fun k hk => setRow_other _ _ k _ (by have := KB.out.2.ab k hk; rw [World.size_alloc] at this; omega)⟩)
end
end Go.Proofs.YtpboiggakehpoaaGreatDoor.Tr
namespace Go.Proofs.YtpboiggakehpoaaGreatDoor.Tr
open Go.ChangeShapes Go.WideShapes Go.ChangeAt Go.RowKit Num Go.Maps As
open Go.ChangeMaps Go.MapKept
attribute [local go_sem] run_store_float frombits_run bits_run
theorem pairInfo : (Tryz.prog.info? 147).map (fun i => (i.zero, i.size, i.bytes)) = some (some (.agg #[.float .f64 0, .float .f64 0]), 2, 16) := by kernel_rfl
structure GroP (w v : World) (p : Option Addr) (c n : Nat) (l : Prs) : Prop where
  bl : Below (w.alloc (endO 0 0 0)).heap.size (w.alloc (endO 0 0 0)) v
  row : RowW 147 2 v p c n (fls (allS l))
  ab : Abv (w.alloc (endO 0 0 0)).heap.size (fpR p)
theorem GroP.on {w v v' : World} {p : Option Addr} {c n : Nat} {l : Prs} (h : GroP w v p c n l) (k : Below v.heap.size v v') : GroP w v' p c n l := ⟨h.bl.trans (k.mono h.bl.size), h.row.keep (kept_below k h.row.blw), h.ab⟩
theorem GroP.app {w v : World} {p : Option Addr} {c n : Nat} {l : Prs} (h : GroP w v p c n l) {q : Nat × Nat} {gx : Nat} (hx : v.heap[gx]? = some (.cells #[.float .f64 q.1, .float .f64 q.2] 147 (0, 0))) (hn : n ≤ 1000) (ty : TypeId) :
    ∃ r v', (Builtin.append_ #[44, 44] ty #[.slice p n c, .slice (some ⟨gx, 0, none⟩) 1 1]).run Tryz.prog v = .ok r v' ∧ ∃ g c', r = .slice (some ⟨g, 0, none⟩) (n + 1) c' ∧ GroP w v' (some ⟨g, 0, none⟩) c' (n + 1) (l ++ [q]) := by
  obtain ⟨r, v', q1, g, c', q2, q3, q4⟩ := h.row.app Tryz.underlying44 pairInfo (by kernel_rfl) (by decide) hx rfl (fun u hu => by simp at hu; rcases hu with rfl | rfl <;> rfl) (by unfold maxLen; omega) (by omega) ty
  refine ⟨r, v', q1, g, c', q2, h.bl.trans (q4.below h.ab h.bl.size), by rw [all_app, fls_app]; exact q3, fun k hk => ?_⟩
  obtain rfl : k = g := by simpa [fpR] using hk
  exact (q4.own k (List.mem_cons_self ..)).elim (h.ab k) (Nat.le_trans h.bl.size)
theorem MpAt.take {w v : World} {g : Nat} {F : List Nat} {M : Int} {L : Prs} (h : MpAt w g F M L) {p : Option Addr} {c n : Nat} {l : Prs} (k : GroP w v p c n l) (hn : l.length = n) : MpAt (v.setCell ⟨g, 0, none⟩ (.slice p n c)) g (g :: fpR p) M l ∧ Turn F (g :: fpR p) w (v.setCell ⟨g, 0, none⟩ (.slice p n c)) ∧ (v.setCell ⟨g, 0, none⟩ (.slice p n c)).heap[w.heap.size]? = some (endO 0 0 0) ∧ w.heap.size ∉ g :: fpR p := by
  subst hn
  obtain ⟨p0, c0, rfl, hb, hr⟩ := h.ex
  have hg := lt_of_block hb
  have hbw := (below_alloc w (endO 0 0 0)).trans (k.bl.mono (by simp))
  have hbv := (hbw.block _ hg).trans hb
  have hgn : g ∉ fpR p := fun q => absurd (k.ab g q) (by rw [World.size_alloc]; omega)
  refine ⟨⟨p, c, rfl, ?_, k.row.keep ⟨by simp, fun i hi => heap_setCell_other _ _ _ _ (fun e => hgn (by have e : i = g := e; rw [← e]; exact hi))⟩⟩, ?_, ?_, ?_⟩
  · exact (heap_setCell_same v g 0 _ _ _ hbv).trans rfl
  · refine ⟨hbw.os, hbw.tape, hbw.output, by simpa using hbw.size, fun i hi hn => ?_, fun i hi => ?_⟩
    · exact (heap_setCell_other _ _ _ _ (fun e => hn (by have e : i = g := e; rw [e]; exact List.mem_cons_self ..))).trans (hbw.block i hi)
    · rcases List.mem_cons.1 hi with rfl | hi
      · exact .inl (List.mem_cons_self ..)
      · right
        have := k.ab i hi
        rw [World.size_alloc] at this
        omega
  · exact (heap_setCell_other _ _ _ _ (fun e => by have e : w.heap.size = g := e; omega)).trans ((k.bl.block _ (by simp)).trans (heap_alloc_new w (endO 0 0 0)))
  · intro q
    rcases List.mem_cons.1 q with q | q
    · omega
    · have := k.ab _ q
      rw [World.size_alloc] at this
      omega
end Go.Proofs.YtpboiggakehpoaaGreatDoor.Tr
namespace Go.Proofs.YtpboiggakehpoaaGreatDoor.Tr
open Go.ChangeShapes Go.WideShapes Go.ChangeAt Go.RowKit Num Go.Maps As
open Go.ChangeMaps Go.MapKept
attribute [local go_sem] run_store_float frombits_run bits_run
theorem turn_of {F : List Nat} {w w' : World} (k : Below w.heap.size w w') : Turn F F w w' := ⟨k.os, k.tape, k.output, k.size, fun i hi _ => k.block i hi, fun _ h => .inl h⟩
theorem erase_end (L : Prs) (a : Nat) : (L.take L.length).eraseIdx a = L.take a ++ L.drop (a + 1) := by rw [List.take_length, List.eraseIdx_eq_take_drop_succ]
theorem erase_step {L : Prs} {a i : Nat} (h : i < L.length) : (L.take (i + 1)).eraseIdx a = if i = a then (L.take i).eraseIdx a else (L.take i).eraseIdx a ++ [L.getD i (0, 0)] := by
  have hi : (L.take i).length = i := by rw [List.length_take]; omega
  rw [take_snoc2 L i h]
  split
  · rename_i e
    subst e
    rw [List.eraseIdx_append_of_length_le (by omega), hi, Nat.sub_self]
    rw [show (L.take i).eraseIdx i = L.take i from List.eraseIdx_of_length_le (by omega)]
    simp
  · rename_i e
    by_cases hc : i < a
    · rw [List.eraseIdx_of_length_le (by rw [List.length_append, hi]; simp; omega), List.eraseIdx_of_length_le (by omega)]
    · rw [List.eraseIdx_append_of_lt_length (by omega)]
section
variable {w : World} {g : Nat} {F : List Nat} {M : Int} {L : Prs}
structure SaysW (h c e : Int) (g : Nat) (F : List Nat) (M : Int) (L' : Prs) (w : World) (l : List Nat) (r : Ending) (w' : World) : Prop where
  ex : ∃ p m F', r = .returned (.tuple #[endV h c e, .slice p l.length m]) ∧ FlAt w' p l ∧ MpAt w' g F' M L' ∧ Turn F F' w w'
theorem mp_end {v u : World} {F' : List Nat} {l : Prs} {y : Nat} (s : Nat) (hs : v.heap.size = s) (h : MpAt v g F' M l) (t : Turn F F' w v) (e : v.heap[w.heap.size]? = some (endO 0 0 0)) (hn : w.heap.size ∉ F') (k : Below (v.alloc (.cells #[.float .f64 y] 74)).heap.size (v.alloc (.cells #[.float .f64 y] 74)) u) :
    u.heap[w.heap.size]? = some (endO 0 0 0) ∧ FlAt (u.setRow w.heap.size (endA 1 0 0)) (some ⟨s, 0, none⟩) [y] ∧ MpAt (u.setRow w.heap.size (endA 1 0 0)) g F' M l ∧ Turn F F' w (u.setRow w.heap.size (endA 1 0 0)) ∧ (u.setRow w.heap.size (endA 1 0 0)).heap[w.heap.size]? = some (endO 1 0 0) := by
  subst hs
  have kb := below_chain (below_alloc v (.cells #[.float .f64 y] 74)) k
  have hv := lt_of_block e
  have hb := (kb.block _ hv).trans e
  have hr := (k.block _ (lt_of_block (heap_alloc_new v _))).trans (heap_alloc_new v (.cells #[.float .f64 y] 74))
  refine ⟨hb, fl_row (l := [y]) ((setRow_other u _ _ _ (by omega)).trans hr), (h.on kb).keep ⟨by simp, fun i hi => setRow_other u _ i _ (fun q => hn (by rw [← q]; exact hi))⟩, ⟨kb.os.trans t.os, kb.tape.trans t.tape, kb.output.trans t.output, by simpa using Nat.le_trans t.size kb.size, fun i hi hq => (setRow_other u _ i _ (by omega)).trans ((kb.block i (Nat.lt_of_lt_of_le hi t.size)).trans (t.block i hi hq)), t.own⟩, setRow_heap u _ _ _ _ _ hb⟩
theorem mp_same (h : MpAt w g F M L) : MpAt (w.alloc (endO 0 0 0)) g F M L ∧ Turn F F w (w.alloc (endO 0 0 0)) ∧ (w.alloc (endO 0 0 0)).heap[w.heap.size]? = some (endO 0 0 0) ∧ w.heap.size ∉ F :=
  ⟨h.on (below_alloc _ _), turn_of (below_alloc _ _), heap_alloc_new w _, fun q => absurd (h.blw _ q) (Nat.lt_irrefl _)⟩
set_option maxRecDepth 100000 in
theorem mdel_any (h : MpAt w g F M L) (hl : L.length ≤ 64) (hL : ∀ q ∈ L, q.1 < 18446744073709551616) {x : Nat} (hx : x < 18446744073709551616) : Calls Tryz.prog 57 #[.pointer (some ⟨g, 0, none⟩), .float .f64 x] w fun e w' => SaysW 1 0 0 g F M (delS L x) w [if isK L x then 4607182418800017408 else 0] e w' := by
  have HP := Lib.hid (place_any (h.on (below_alloc w (endO 0 0 0))) (by omega) hL hx)
  have HM := Lib.hid h
  obtain ⟨p, c, x0, x1, x2, hr⟩ := h.cells
  have hle := ahd_le L x
  by_cases hi : isK L x = true
  · have hdl : delS L x = L.take (ahd L x) ++ L.drop (ahd L x + 1) := by unfold delS; rw [if_pos hi]
    rw [hdl]
    rw [hi] at HP ⊢
    obtain ⟨a, ha⟩ : ∃ a, ahd L x = a := ⟨_, rfl⟩
    rw [ha] at HP hle ⊢
    have HI : Hid (∀ u, Below w.heap.size w u → u.cell? ⟨g, 0, none⟩ = some (.slice p L.length c) ∧ g < u.heap.size ∧ u.frozen? ⟨g, 0, none⟩ = false ∧ ∀ i, i < L.length → ∃ b, p = some ⟨b, 0, none⟩ ∧ b < u.heap.size ∧ u.cell? ⟨b, i * 2, none⟩ = some (.float .f64 (L.getD i (0, 0)).1) ∧ u.cell? ⟨b, i * 2 + 1, none⟩ = some (.float .f64 (L.getD i (0, 0)).2)) := fun u k => by
      refine ⟨(k.cell (p := ⟨g, 0, none⟩) x2).trans x0, Nat.lt_of_lt_of_le x2 k.size, ?_, fun i hi => ?_⟩
      · obtain ⟨p', c', _, hb, _⟩ := HM.out.ex
        exact frozen_of_row _ _ _ _ _ ((k.block _ (lt_of_block hb)).trans hb)
      · obtain ⟨b, e, hb, c0, c1⟩ := hr i hi
        exact ⟨b, e, Nat.lt_of_lt_of_le hb k.size, (k.cell (p := ⟨b, i * 2, none⟩) hb).trans c0, (k.cell (p := ⟨b, i * 2 + 1, none⟩) hb).trans c1⟩
    have HTK : Hid (∀ i, i < L.length → (L.take (i + 1)).eraseIdx a = if i = a then (L.take i).eraseIdx a else (L.take i).eraseIdx a ++ [L.getD i (0, 0)]) := fun i hi => erase_step hi
    have HAL : Hid ((L.take L.length).eraseIdx a = L.take a ++ L.drop (a + 1)) := erase_end L a
    have HLN : Hid (∀ i, ((L.take i).eraseIdx a).length ≤ 64) := fun i => by
      have := List.length_eraseIdx_le (L.take i) a
      rw [List.length_take] at this
      omega
    obtain ⟨n, hn⟩ : ∃ n, L.length = n := ⟨_, rfl⟩
    rw [hn] at HI HTK HAL hl x0 hle
    have hln : (n : Int) ≤ 64 := by omega
    have HB0 : Hid (Below w.heap.size w (w.alloc (endO 0 0 0))) := below_alloc _ _
    clear h hr hn hi hdl ha hL
    go_enter Tryz.func57, Tryz.ntmps57
    go_wp2_with (go_at_call 118; refine HP.out.mono ?_; rintro e z ⟨rfl, hz⟩; subst z; clear HP)
    go_loopw [9, 8] (fun v9 v8 wr => ∃ (i : Nat) (q : Option Addr) (m e : Nat), v9 = .int .i64 i ∧ v8 = .slice q m e ∧ i ≤ n ∧ Hid (((L.take i).eraseIdx a).length = m ∧ GroP w wr q e m ((L.take i).eraseIdx a))) (fun v9 _ _ => n - (intOf v9).toNat)
    case atStart => exact ⟨0, none, 0, 0, rfl, rfl, Nat.zero_le _, rfl, Below.refl _ _, rowW_nil _ _ _, fun k hk => by cases hk⟩
    case round =>
      obtain ⟨i, q, m, e, rfl, rfl, hi, HG⟩ := hrel
      have hbw := HB0.out.trans (HG.out.2.bl.mono HB0.out.size)
      obtain ⟨y0, y2, yf, yr⟩ := HI.out _ hbw
      by_cases hlt : i < n
      · have hlt' : (i : Int) < (n : Int) := by omega
        obtain ⟨b, rfl, hb, c0, c1⟩ := yr i hlt
        have HT := Lib.hid (HTK.out i hlt)
        clear yr
        by_cases hia : i = a
        · have hia' : (i : Int) = (a : Int) := by omega
          have ht : (L.take (i + 1)).eraseIdx a = (L.take i).eraseIdx a := by rw [HT.out, if_pos hia]
          have HT2 := Lib.hid ht
          clear ht hia hbw c0 c1
          go_wp2_with fail
          exact ⟨⟨i + 1, q, m, e, by rw [show ((i + 1 : Nat) : Int) = (a : Int) + 1 by omega], rfl, by omega, by rw [HT2.out]; exact HG.out⟩, by simp [intOf]; omega⟩
        · have hia' : ¬ (i : Int) = (a : Int) := by omega
          have ht : (L.take (i + 1)).eraseIdx a = (L.take i).eraseIdx a ++ [L.getD i (0, 0)] := by rw [HT.out, if_neg hia]
          have HT2 := Lib.hid ht
          have hm64 : m ≤ 64 := by have := HLN.out i; rw [HG.out.1] at this; exact this
          obtain ⟨z, hz⟩ : ∃ z, L.getD i (0, 0) = z := ⟨_, rfl⟩
          rw [hz] at c0 c1 HT2
          have HA : Hid (∀ ty, _) := fun ty => GroP.app (HG.out.2.on (below_alloc wr (.cells #[.float .f64 z.1, .float .f64 z.2] 147))) (q := z) (heap_alloc_new wr _) (by omega) ty
          clear ht hia hz hbw hm64 HT
          go_wp2_with (at_builtin; refine wpList_append_ex rfl _ _ _ _ rfl _ _ rfl rfl (by exact HA.out _) ?_; rintro r w3 ⟨g4, c4, rfl, H4⟩)
          exact ⟨⟨i + 1, _, _, _, by first | rfl | (congr 1), rfl, by omega, by rw [HT2.out]; exact ⟨by rw [List.length_append, HG.out.1]; rfl, H4⟩⟩, by simp [intOf]; omega⟩
      · obtain rfl : i = n := by omega
        have hlt' : ¬ (i : Int) < (i : Int) := by omega
        have hgr := HG.out
        rw [HAL.out] at hgr
        have HK := Lib.hid (HM.out.take hgr.2 hgr.1)
        clear hgr HG HTK HI HAL HLN hbw yr
        go_wp2_with (first
          | (refine wpList_store_row rfl 60 _ _ rfl w.heap.size (endA 1 0 0) rfl rfl _ _ KB.out.1 endInfo rfl (endA_one 1 0 0) ?_)
          | (go_at_call 119; refine (done_any _ _ _ _).mono ?_; rintro e u ⟨rfl, k⟩; have KB := Lib.hid (mp_end wr.heap.size (by simp) HK.out.1 HK.out.2.1 HK.out.2.2.1 HK.out.2.2.2 k); clear k))
        refine end_back rfl w.heap.size _ rfl rfl KB.out.2.2.2.2 rfl rfl (SaysW.mk ⟨_, _, _, rfl, KB.out.2.1, KB.out.2.2.1, KB.out.2.2.2.1⟩)
  · have hdl : delS L x = L := by unfold delS; rw [if_neg hi]
    have hi : isK L x = false := by simpa using hi
    rw [hdl]
    rw [hi] at HP ⊢
    generalize ahd L x = a at *
    have HK := Lib.hid (mp_same h)
    clear h hL hi hdl hr
    go_enter Tryz.func57, Tryz.ntmps57
    go_wp2_with (first
      | (refine wpList_store_row rfl 60 _ _ rfl w.heap.size (endA 1 0 0) rfl rfl _ _ KB.out.1 endInfo rfl (endA_one 1 0 0) ?_)
      | (go_at_call 119; refine (done_any _ _ _ _).mono ?_; rintro e u ⟨rfl, k⟩; have KB := Lib.hid (mp_end (w.heap.size + 1) (by simp) HK.out.1 HK.out.2.1 HK.out.2.2.1 HK.out.2.2.2 k); clear k)
      | (go_at_call 118; refine HP.out.mono ?_; rintro e z ⟨rfl, hz⟩; subst z; clear HP))
    refine end_back rfl w.heap.size _ rfl rfl KB.out.2.2.2.2 rfl rfl (SaysW.mk ⟨_, _, _, rfl, KB.out.2.1, KB.out.2.2.1, KB.out.2.2.2.1⟩)
end
end Go.Proofs.YtpboiggakehpoaaGreatDoor.Tr
namespace Go.Proofs.YtpboiggakehpoaaGreatDoor.Tr
open Go.ChangeShapes Go.WideShapes Go.ChangeAt Go.RowKit Num Go.Maps As
open Go.ChangeMaps Go.MapKept
attribute [local go_sem] run_store_float frombits_run bits_run
theorem put_new {L : Prs} {K V : Nat} (h : isK L K = false) : putS L K V = L.take (ahd L K) ++ (K, V) :: L.drop (ahd L K) := by unfold putS; rw [h]; rfl
theorem drop_step {L : Prs} {a j : Nat} (h : j < L.length) (ha : a ≤ j) : (L.take (j + 1)).drop a = (L.take j).drop a ++ [L.getD j (0, 0)] := by
  rw [take_snoc2 L j h, List.drop_append_of_le_length (by rw [List.length_take]; omega)]
section
variable {w : World} {g : Nat} {F : List Nat} {M : Int} {L : Prs}
set_option maxRecDepth 100000 in
theorem mput_full (h : MpAt w g F M L) (hl : L.length ≤ 64) (hL : ∀ q ∈ L, q.1 < 18446744073709551616) {x v : Nat} (hx : x < 18446744073709551616) (hk : isK L x = false) (hm : M ≤ L.length) : Calls Tryz.prog 56 #[.pointer (some ⟨g, 0, none⟩), .float .f64 x, .float .f64 v] w fun e w' => Says 2 1 0 w [] e w' := by
  have HP := Lib.hid (place_any (h.on (below_alloc w (endO 0 0 0))) (by omega) hL hx)
  obtain ⟨p, c, x0, x1, x2, hr⟩ := h.cells
  rw [hk] at HP
  generalize ahd L x = a at *
  obtain ⟨n, hn⟩ : ∃ n, L.length = n := ⟨_, rfl⟩
  rw [hn] at x0 hl hm
  have hln : (n : Int) ≤ 64 := by omega
  clear h hL hr hn hk
  go_enter Tryz.func56, Tryz.ntmps56
  go_upto_region 5 with (go_at_call 118; refine HP.out.mono ?_; rintro e z ⟨rfl, hz⟩; subst z; clear HP)
  have hd := (below_alloc w (endO 0 0 0)).trans ((Same.drew (w.alloc (endO 0 0 0))).below _)
  refine wp_region_seq (fun u => u.cell? ⟨g, 0, none⟩ = some (.slice p n c) ∧ u.cell? ⟨g, 1, none⟩ = some (.int .i64 M)) ((0, true) :: (1, true) :: (2, true) :: (3, true) :: (4, true) :: (5, true) :: (6, true) :: (7, true) :: (8, true) :: (9, true) :: []) follows (by kernel_rfl) (fun _ _ _ _ _ h => h) ⟨(hd.cell (p := ⟨g, 0, none⟩) x2).trans x0, (hd.cell (p := ⟨g, 1, none⟩) x2).trans x1⟩ ?_
  (repeat ((first | (refine wpSeq_take (v := ?_) rfl (by rfl) (fun wq hSq => ?_) ?_; rotate_left; (focus ((try dsimp only at hSq); go_simp; try with_reducible rfl))) | refine wpSeq_skip rfl (by rfl) ?_); simp only [Act.put, List.setIfInBounds_toArray, List.set_cons_zero, List.set_cons_succ]))
  refine wpSeq_nil ?_
  have HE2 := Lib.hid (rd_end ((Same.drew (w.alloc (endO 0 0 0))).below (w.alloc (endO 0 0 0)).heap.size) 2 1 0)
  clear hd
  go_wp2_with (refine wpList_store_row rfl 60 _ _ rfl w.heap.size (endA 2 1 0) rfl rfl _ _ HE2.out.1 endInfo rfl (endA_one 2 1 0) ?_)
  refine end_back rfl w.heap.size _ rfl rfl HE2.out.2.2 rfl rfl ⟨_, _, rfl, no_args _, HE2.out.2.1⟩
set_option maxRecDepth 100000 in
theorem mput_new (h : MpAt w g F M L) (hl : L.length ≤ 64) (hL : ∀ q ∈ L, q.1 < 18446744073709551616) {x v : Nat} (hx : x < 18446744073709551616) (hk : isK L x = false) (hm : L.length < M) : Calls Tryz.prog 56 #[.pointer (some ⟨g, 0, none⟩), .float .f64 x, .float .f64 v] w fun e w' => SaysW 1 0 0 g F M (putS L (fixB x) (fixB v)) w [4607182418800017408] e w' := by
  have HP := Lib.hid (place_any (h.on (below_alloc w (endO 0 0 0))) (by omega) hL hx)
  have HM := Lib.hid h
  obtain ⟨p, c, x0, x1, x2, hr⟩ := h.cells
  have hle := ahd_le L x
  have hpn : putS L (fixB x) (fixB v) = L.take (ahd L x) ++ (fixB x, fixB v) :: L.drop (ahd L x) := by rw [put_new (by rw [isK_fix]; exact hk), ahd_fix]
  rw [hpn]
  rw [hk] at HP
  obtain ⟨a, ha⟩ : ∃ a, ahd L x = a := ⟨_, rfl⟩
  rw [ha] at HP hle ⊢
  have HI : Hid (∀ u, Below w.heap.size w u → u.cell? ⟨g, 0, none⟩ = some (.slice p L.length c) ∧ g < u.heap.size ∧ u.frozen? ⟨g, 0, none⟩ = false ∧ ∀ i, i < L.length → ∃ b, p = some ⟨b, 0, none⟩ ∧ b < u.heap.size ∧ u.cell? ⟨b, i * 2, none⟩ = some (.float .f64 (L.getD i (0, 0)).1) ∧ u.cell? ⟨b, i * 2 + 1, none⟩ = some (.float .f64 (L.getD i (0, 0)).2)) := fun u k => by
    refine ⟨(k.cell (p := ⟨g, 0, none⟩) x2).trans x0, Nat.lt_of_lt_of_le x2 k.size, ?_, fun i hi => ?_⟩
    · obtain ⟨p', c', _, hb, _⟩ := HM.out.ex
      exact frozen_of_row _ _ _ _ _ ((k.block _ (lt_of_block hb)).trans hb)
    · obtain ⟨b, e, hb, c0, c1⟩ := hr i hi
      exact ⟨b, e, Nat.lt_of_lt_of_le hb k.size, (k.cell (p := ⟨b, i * 2, none⟩) hb).trans c0, (k.cell (p := ⟨b, i * 2 + 1, none⟩) hb).trans c1⟩
  have HTK : Hid (∀ i, i < L.length → L.take (i + 1) = L.take i ++ [L.getD i (0, 0)]) := fun i hi => take_snoc2 L i hi
  have HDR : Hid (∀ j, a ≤ j → j < L.length → (L.take a ++ [(fixB x, fixB v)]) ++ (L.take (j + 1)).drop a = ((L.take a ++ [(fixB x, fixB v)]) ++ (L.take j).drop a) ++ [L.getD j (0, 0)]) := fun j ha hj => by rw [drop_step hj ha]; simp
  have hal : (L.take a ++ [(fixB x, fixB v)]) ++ (L.take L.length).drop a = L.take a ++ (fixB x, fixB v) :: L.drop a := by rw [List.take_length]; simp
  have HAL := Lib.hid hal
  have HLT : Hid (∀ i, i ≤ L.length → (L.take i).length = i) := fun i hi => by rw [List.length_take]; omega
  have HLD : Hid (∀ j, a ≤ j → j ≤ L.length → ((L.take a ++ [(fixB x, fixB v)]) ++ (L.take j).drop a).length = j + 1) := fun j h1 h2 => by simp [List.length_take, List.length_drop]; omega
  have hz0 : (L.take a ++ [(fixB x, fixB v)]) ++ (L.take a).drop a = L.take a ++ [(fixB x, fixB v)] := by rw [List.drop_of_length_le (by rw [List.length_take]; omega)]; simp
  have HZ := Lib.hid hz0
  clear hal hz0
  obtain ⟨n, hn⟩ : ∃ n, L.length = n := ⟨_, rfl⟩
  rw [hn] at HI HTK HDR HAL HLT HLD hl x0 hle hm
  have hln : (n : Int) ≤ 64 := by omega
  have HB0 : Hid (Below w.heap.size w (w.alloc (endO 0 0 0))) := below_alloc _ _
  clear h hr hn hk hpn ha hL
  go_enter Tryz.func56, Tryz.ntmps56
  go_upto_region 5 with (go_at_call 118; refine HP.out.mono ?_; rintro e z ⟨rfl, hz⟩; subst z; clear HP)
  have hd := (below_alloc w (endO 0 0 0)).trans ((Same.drew (w.alloc (endO 0 0 0))).below _)
  refine wp_region_seq (fun u => u.cell? ⟨g, 0, none⟩ = some (.slice p n c) ∧ u.cell? ⟨g, 1, none⟩ = some (.int .i64 M)) ((0, true) :: (1, true) :: (2, true) :: (3, true) :: (4, true) :: (5, true) :: (6, true) :: (7, true) :: (8, true) :: (9, true) :: []) follows (by kernel_rfl) (fun _ _ _ _ _ h => h) ⟨(hd.cell (p := ⟨g, 0, none⟩) x2).trans x0, (hd.cell (p := ⟨g, 1, none⟩) x2).trans x1⟩ ?_
  (repeat ((first | (refine wpSeq_take (v := ?_) rfl (by rfl) (fun wq hSq => ?_) ?_; rotate_left; (focus ((try dsimp only at hSq); go_simp; try with_reducible rfl))) | refine wpSeq_skip rfl (by rfl) ?_); simp only [Act.put, List.setIfInBounds_toArray, List.set_cons_zero, List.set_cons_succ]))
  refine wpSeq_nil ?_
  have HD := Lib.hid ((Same.drew (w.alloc (endO 0 0 0))).below (w.alloc (endO 0 0 0)).heap.size)
  clear hd
  go_wp2_with fail
  go_loopw [11, 10] (fun v11 v10 wr => ∃ (i : Nat) (q : Option Addr) (e : Nat), v11 = .int .i64 i ∧ v10 = .slice q i e ∧ i ≤ a ∧ Hid (GroP w wr q e i (L.take i))) (fun v11 _ _ => a - (intOf v11).toNat)
  case atStart => exact ⟨0, none, 0, rfl, rfl, Nat.zero_le _, HD.out, rowW_nil _ _ _, fun k hk => by cases hk⟩
  case round =>
    obtain ⟨i, q, e, rfl, rfl, hi, HG⟩ := hrel
    have hbw := HB0.out.trans (HG.out.bl.mono HB0.out.size)
    obtain ⟨y0, y2, yf, yr⟩ := HI.out _ hbw
    by_cases hlt : i < a
    · have hlt' : (i : Int) < (a : Int) := by omega
      have hin : (i : Int) < (n : Int) := by omega
      obtain ⟨b, rfl, hb, c0, c1⟩ := yr i (by omega)
      have HT := Lib.hid (HTK.out i (by omega))
      obtain ⟨z, hz⟩ : ∃ z, L.getD i (0, 0) = z := ⟨_, rfl⟩
      rw [hz] at c0 c1 HT
      have HA : Hid (∀ ty, _) := fun ty => GroP.app (HG.out.on (below_alloc wr (.cells #[.float .f64 z.1, .float .f64 z.2] 147))) (q := z) (heap_alloc_new wr _) (by omega) ty
      clear hz hbw yr HTK HDR HAL HLT HLD HZ
      go_wp2_with (at_builtin; refine wpList_append_ex rfl _ _ _ _ rfl _ _ rfl rfl (by exact HA.out _) ?_; rintro r w3 ⟨g4, c4, rfl, H4⟩)
      exact ⟨⟨i + 1, _, _, by first | rfl | (congr 1), rfl, by omega, by rw [HT.out]; exact H4⟩, by simp [intOf]; omega⟩
    · obtain rfl : i = a := by omega
      have hlt' : ¬ (i : Int) < (i : Int) := by omega
      have HA : Hid (∀ ty, _) := fun ty => GroP.app (HG.out.on (below_alloc wr (.cells #[.float .f64 (fixB x), .float .f64 (fixB v)] 147))) (q := (fixB x, fixB v)) (heap_alloc_new wr _) (by omega) ty
      have HFX : Hid (∀ u, _) := fun u => refFix_any x u
      have HFV : Hid (∀ u, _) := fun u => refFix_any v u
      clear yr hbw y0 HTK HLT
      go_wp2_with (first
        | (go_at_call 32; refine (HFX.out _).mono ?_; rintro e ud ⟨rfl, hu⟩; subst ud; clear HFX)
        | (go_at_call 32; refine (HFV.out _).mono ?_; rintro e ud ⟨rfl, hu⟩; subst ud; clear HFV)
        | (at_builtin; refine wpList_append_ex rfl _ _ _ _ rfl _ _ rfl rfl (by exact HA.out _) ?_; rintro r w3 ⟨g4, c4, rfl, H4⟩))
      go_loopw [12, 10] (fun v12 v10 wr => ∃ (j : Nat) (q : Option Addr) (e : Nat), v12 = .int .i64 j ∧ v10 = .slice q (j + 1) e ∧ i ≤ j ∧ j ≤ n ∧ Hid (GroP w wr q e (j + 1) ((L.take i ++ [(fixB x, fixB v)]) ++ (L.take j).drop i))) (fun v12 _ _ => n - (intOf v12).toNat)
      case atStart => exact ⟨i, _, _, rfl, rfl, Nat.le_refl _, hle, by rw [HZ.out]; exact H4⟩
      case round =>
        obtain ⟨j, q2, e2, rfl, rfl, hij, hjn, HG2⟩ := hrel
        clear HG HA H4 HZ
        have hbw := HB0.out.trans (HG2.out.bl.mono HB0.out.size)
        obtain ⟨y0, y2, yf, yr⟩ := HI.out _ hbw
        by_cases hlt2 : j < n
        · have hlt2' : (j : Int) < (n : Int) := by omega
          obtain ⟨b, rfl, hb, c0, c1⟩ := yr j hlt2
          have HT := Lib.hid (HDR.out j hij hlt2)
          obtain ⟨z, hz⟩ : ∃ z, L.getD j (0, 0) = z := ⟨_, rfl⟩
          rw [hz] at c0 c1 HT
          have HA : Hid (∀ ty, _) := fun ty => GroP.app (HG2.out.on (below_alloc _ (.cells #[.float .f64 z.1, .float .f64 z.2] 147))) (q := z) (heap_alloc_new _ _) (by omega) ty
          clear hz hbw yr HDR HAL HLD
          go_wp2_with (at_builtin; refine wpList_append_ex rfl _ _ _ _ rfl _ _ rfl rfl (by exact HA.out _) ?_; rintro r w3 ⟨g4, c4, rfl, H4⟩)
          exact ⟨⟨j + 1, _, _, by first | rfl | (congr 1), rfl, by omega, by omega, by rw [HT.out]; exact H4⟩, by simp [intOf]; omega⟩
        · obtain rfl : j = n := by omega
          have hlt2' : ¬ (j : Int) < (j : Int) := by omega
          have hgr := HG2.out
          have hln2 := HLD.out j hij (Nat.le_refl _)
          rw [HAL.out] at hgr hln2
          have HK := Lib.hid (HM.out.take hgr hln2)
          clear hgr hln2 HG2 HDR HI HAL HLD hbw yr
          go_wp2_with (first
            | (refine wpList_store_row rfl 60 _ _ rfl w.heap.size (endA 1 0 0) rfl rfl _ _ KB.out.1 endInfo rfl (endA_one 1 0 0) ?_)
            | (go_at_call 119; refine (done_any _ _ _ _).mono ?_; rintro e u ⟨rfl, k⟩; have KB := Lib.hid (mp_end wr.heap.size (by simp) HK.out.1 HK.out.2.1 HK.out.2.2.1 HK.out.2.2.2 k); clear k))
          refine end_back rfl w.heap.size _ rfl rfl KB.out.2.2.2.2 rfl rfl (SaysW.mk ⟨_, _, _, rfl, KB.out.2.1, KB.out.2.2.1, KB.out.2.2.2.1⟩)
end
end Go.Proofs.YtpboiggakehpoaaGreatDoor.Tr
namespace Go.Proofs.YtpboiggakehpoaaGreatDoor.Tr
open Go.ChangeShapes Go.WideShapes Go.ChangeAt Go.RowKit Num Go.Maps As
open Go.ChangeMaps Go.MapKept
attribute [local go_sem] run_store_float frombits_run bits_run
theorem fls_set (L : Prs) {a y : Nat} (h : a < L.length) : (fls (allS L)).set (a * 2 + 1) (.float .f64 y) = fls (allS (L.set a ((L.getD a (0, 0)).1, y))) := by
  have key : ∀ (L : Prs) (a : Nat), a < L.length → (allS L).set (a * 2 + 1) y = allS (L.set a ((L.getD a (0, 0)).1, y)) := by
    intro L
    induction L with
    | nil => intro a h; cases h
    | cons q L ih =>
      intro a h
      cases a with
      | zero => simp [allS]
      | succ a =>
        have := ih a (by simpa using h)
        simp only [allS, List.flatMap_cons, List.cons_append, List.nil_append, List.set_cons_succ, List.getD_cons_succ] at this ⊢
        rw [show (a + 1) * 2 = a * 2 + 1 + 1 by omega]
        simp only [List.set_cons_succ]
        rw [this]
  rw [← key L a h]
  simp [fls, List.map_set]
theorem MpAt.set {w : World} {g b : Nat} {F : List Nat} {M : Int} {L : Prs} (h : MpAt w g F M L) {n c a y : Nat} (hx : w.cell? ⟨g, 0, none⟩ = some (.slice (some ⟨b, 0, none⟩) n c)) (ha : a < L.length) (v : World) (hv : v = w.setCell ⟨b, a * 2 + 1, none⟩ (.float .f64 y)) : MpAt v g F M (L.set a ((L.getD a (0, 0)).1, y)) ∧ Turn F F w v ∧ w.heap.size ∉ F ∧ v.heap.size = w.heap.size := by
  subst hv
  obtain ⟨p', c', e, hb, hr⟩ := h.ex
  have e0 := ((cell_of_row w g 0 _ _ _ hb).trans rfl).symm.trans hx
  injection e0 with e0
  injection e0 with e0
  subst e0
  obtain ⟨arr, hk⟩ := hr.blk (k := b) (by simp [fpR])
  have hne : g ≠ b := ne_ty hb hk (by decide)
  have hnF : w.heap.size ∉ F := fun q => absurd (h.blw _ q) (Nat.lt_irrefl _)
  have hbF : b ∈ F := by rw [e]; exact List.mem_cons_of_mem _ (by simp [fpR])
  refine ⟨⟨some ⟨b, 0, none⟩, c', e, ?_, ?_⟩, ⟨rfl, rfl, rfl, by simp, fun i hi hn => heap_setCell_other _ _ _ _ (fun q => hn (by have q : i = b := q; rw [q]; exact hbF)), fun i hi => .inl hi⟩, hnF, by simp⟩
  · rw [List.length_set]
    exact (heap_setCell_other _ _ _ _ (fun q => hne q)).trans hb
  · rw [List.length_set, ← fls_set L ha]
    exact hr.put _ _
section
variable {w : World} {g : Nat} {F : List Nat} {M : Int} {L : Prs}
set_option maxRecDepth 100000 in
theorem mput_old (h : MpAt w g F M L) (hl : L.length ≤ 64) (hL : ∀ q ∈ L, q.1 < 18446744073709551616) {x v : Nat} (hx : x < 18446744073709551616) (hk : isK L x = true) : Calls Tryz.prog 56 #[.pointer (some ⟨g, 0, none⟩), .float .f64 x, .float .f64 v] w fun e w' => SaysW 1 0 0 g F M (putS L (fixB x) (fixB v)) w [0] e w' := by
  have hpn : putS L (fixB x) (fixB v) = L.set (ahd L x) ((L.getD (ahd L x) (0, 0)).1, fixB v) := by
    unfold putS
    rw [isK_fix, hk, if_pos rfl, ahd_fix]
  rw [hpn]
  have HP := Lib.hid (place_any (h.on (below_alloc w (endO 0 0 0))) (by omega) hL hx)
  have HM := Lib.hid h
  obtain ⟨p, c, x0, x1, x2, hr⟩ := h.cells
  have hlt : ahd L x < L.length := by
    unfold isK at hk
    simp at hk
    exact hk.1
  rw [hk] at HP
  obtain ⟨a, ha⟩ : ∃ a, ahd L x = a := ⟨_, rfl⟩
  rw [ha] at HP hlt ⊢
  obtain ⟨b, rfl, hb, c0, c1⟩ := hr a hlt
  have HI : Hid (∀ u, Below w.heap.size w u → u.cell? ⟨g, 0, none⟩ = some (.slice (some ⟨b, 0, none⟩) L.length c) ∧ b < u.heap.size ∧ u.frozen? ⟨b, a * 2 + 1, none⟩ = false ∧ u.cell? ⟨b, a * 2 + 1, none⟩ = some (.float .f64 (L.getD a (0, 0)).2)) := fun u k => by
    refine ⟨(k.cell (p := ⟨g, 0, none⟩) x2).trans x0, Nat.lt_of_lt_of_le hb k.size, ?_, (k.cell (p := ⟨b, a * 2 + 1, none⟩) hb).trans c1⟩
    obtain ⟨p', c', _, hb', hr'⟩ := HM.out.ex
    have e0 := ((cell_of_row w g 0 _ _ _ hb').trans rfl).symm.trans x0
    injection e0 with e0
    injection e0 with e0
    subst e0
    have hkp := hr'.keep (kept_below k hr'.blw)
    obtain ⟨g', e', _, _, _, _, hf⟩ := hkp.at (by omega)
    injection e' with e'
    injection e' with e'
    subst e'
    exact hf _
  obtain ⟨n, hn⟩ : ∃ n, L.length = n := ⟨_, rfl⟩
  rw [hn] at HI x0 hlt hl
  have hln : (n : Int) ≤ 64 := by omega
  have hlt' : (a : Int) < (n : Int) := by omega
  obtain ⟨y, hy⟩ : ∃ y, (L.getD a (0, 0)).2 = y := ⟨_, rfl⟩
  rw [hy] at HI
  have HFV : Hid (∀ u, _) := fun u => refFix_any v u
  clear h hr hL c0 c1
  go_enter Tryz.func56, Tryz.ntmps56
  go_upto_region 3 with (go_at_call 118; refine HP.out.mono ?_; rintro e z ⟨rfl, hz⟩; subst z; clear HP)
  have hd := (below_alloc w (endO 0 0 0)).trans ((Same.drew (w.alloc (endO 0 0 0))).below _)
  refine wp_region_seq (fun u => u.cell? ⟨g, 0, none⟩ = some (.slice (some ⟨b, 0, none⟩) n c)) ((0, true) :: (1, true) :: (2, true) :: (3, true) :: (4, true) :: (5, true) :: (6, false) :: (7, true) :: (8, true) :: (9, false) :: []) follows (by kernel_rfl) (fun _ _ _ _ _ h => h) (HI.out _ hd).1 ?_
  (repeat ((first | (refine wpSeq_take (v := ?_) rfl (by rfl) (fun wq hSq => ?_) ?_; rotate_left; (focus ((try dsimp only at hSq); go_simp; try with_reducible rfl))) | refine wpSeq_skip rfl (by rfl) ?_); simp only [Act.put, List.setIfInBounds_toArray, List.set_cons_zero, List.set_cons_succ]))
  (refine wpSeq_do rfl (by rfl) (fun KK hK => ?_); go_simp)
  refine (HFV.out _).mono ?_
  rintro e ud ⟨rfl, hu⟩
  subst ud
  refine hK.out _ _ (HI.out _ hd).1 ?_
  (clear hK KK; try simp only [Act.put, List.setIfInBounds_toArray, List.set_cons_zero, List.set_cons_succ])
  (repeat ((first | (refine wpSeq_take (v := ?_) rfl (by rfl) (fun wq hSq => ?_) ?_; rotate_left; (focus ((try dsimp only at hSq); go_simp; try with_reducible rfl))) | refine wpSeq_skip rfl (by rfl) ?_); simp only [Act.put, List.setIfInBounds_toArray, List.set_cons_zero, List.set_cons_succ]))
  have hff := (HI.out _ hd).2.2.1
  have hcc := (HI.out _ hd).2.2.2
  (refine wpSeq_do rfl (by rfl) (fun KK hK => ?_); go_simp)
  obtain ⟨v1, hv1⟩ : ∃ v1, v1 = w.setCell ⟨b, a * 2 + 1, none⟩ (.float .f64 (fixB v)) := ⟨_, rfl⟩
  obtain ⟨m1, m2, m3, m4⟩ := HM.out.set (a := a) (y := fixB v) x0 (by omega) v1 hv1
  rw [← hv1]
  have kb := (below_alloc v1 (endO 0 0 0)).trans ((Same.drew (v1.alloc (endO 0 0 0))).below _)
  have hz : (v1.alloc (endO 0 0 0)).drew.heap[w.heap.size]? = some (endO 0 0 0) := by rw [← m4]; exact heap_alloc_new v1 _
  have HK := Lib.hid (And.intro (m1.on kb) (And.intro (m2.trans (Below.turn kb F)) (And.intro hz m3)))
  have hg0 : (v1.alloc (endO 0 0 0)).drew.cell? ⟨g, 0, none⟩ = some (.slice (some ⟨b, 0, none⟩) n c) := by
    obtain ⟨p', c', y0, _, y2, _⟩ := m1.cells
    have e1 : v1.cell? ⟨g, 0, none⟩ = w.cell? ⟨g, 0, none⟩ := by
      rw [hv1]
      obtain ⟨p2, c2, _, hb2, hr2⟩ := HM.out.ex
      have e0 := ((cell_of_row w g 0 _ _ _ hb2).trans rfl).symm.trans x0
      injection e0 with e0
      injection e0 with e0
      subst e0
      obtain ⟨arr, hk⟩ := hr2.blk (k := b) (by simp [fpR])
      have hne : g ≠ b := ne_ty hb2 hk (by decide)
      exact (cell_of_row _ g 0 _ _ _ ((heap_setCell_other _ _ _ _ (fun q => hne q)).trans hb2)).trans (cell_of_row w g 0 _ _ _ hb2).symm
    exact (kb.cell (p := ⟨g, 0, none⟩) y2).trans (e1.trans x0)
  refine hK.out _ _ hg0 ?_
  (clear hK KK; try simp only [Act.put])
  (repeat ((first | (refine wpSeq_take (v := ?_) rfl (by rfl) (fun wq hSq => ?_) ?_; rotate_left; (focus ((try dsimp only at hSq); go_simp; try with_reducible rfl))) | refine wpSeq_skip rfl (by rfl) ?_); simp only [Act.put, List.setIfInBounds_toArray, List.set_cons_zero, List.set_cons_succ]))
  refine wpSeq_nil ?_
  obtain ⟨v2, hv2⟩ : ∃ v2, v2 = (v1.alloc (endO 0 0 0)).drew := ⟨_, rfl⟩
  rw [← hv2] at HK ⊢
  clear hpn hv2 hg0 hz kb m1 m2 m3 m4 hv1 hff hcc hd HI HM HFV
  go_wp2_with (first
    | (refine wpList_store_row rfl 60 _ _ rfl w.heap.size (endA 1 0 0) rfl rfl _ _ KB.out.1 endInfo rfl (endA_one 1 0 0) ?_)
    | (go_at_call 119; refine (done_any _ _ _ _).mono ?_; rintro e u ⟨rfl, k⟩; have KB := Lib.hid (mp_end v2.heap.size (by simp) HK.out.1 HK.out.2.1 HK.out.2.2.1 HK.out.2.2.2 k); clear k))
  refine end_back rfl w.heap.size _ rfl rfl KB.out.2.2.2.2 rfl rfl (SaysW.mk ⟨_, _, _, rfl, KB.out.2.1, KB.out.2.2.1, KB.out.2.2.2.1⟩)
end
end Go.Proofs.YtpboiggakehpoaaGreatDoor.Tr
namespace Go.Proofs.YtpboiggakehpoaaGreatDoor.Tr
open Go.ChangeShapes Go.WideShapes Go.ChangeAt Go.RowKit Num Go.Maps As
open Go.ChangeMaps Go.MapKept
attribute [local go_sem] run_store_float frombits_run bits_run
theorem getS_fix (L : Prs) (K : Nat) : getS L (fixB K) = getS L K := by unfold getS; rw [isK_fix, ahd_fix]
theorem delS_fix (L : Prs) (K : Nat) : delS L (fixB K) = delS L K := by unfold delS; rw [isK_fix, ahd_fix]
theorem aftS2_fix (L : Prs) (K : Nat) : aftS2 L (fixB K) = aftS2 L K := by unfold aftS2; rw [isK_fix, ahd_fix]
theorem fullS_fix (k : Int) (L : Prs) (R K : Nat) : fullS k L R (fixB K) = fullS k L R K := by unfold fullS; rw [isK_fix]
section
variable {w : World} {g : Nat} {F : List Nat} {M : Int} {L L' : Prs}
theorem says_w (h : MpAt w g F M L) {hh c e : Int} {l : List Nat} {r : Ending} {w' : World} (hs : Says hh c e w l r w') : SaysW hh c e g F M L w l r w' := by
  obtain ⟨p, m, rfl, k⟩ := hs
  exact ⟨p, m, F, rfl, k.out.1, h.on k.out.2, turn_of k.out.2⟩
theorem fl_set {u : World} {b : Nat} {p : Option Addr} {l : List Nat} {x y z x' y' z' : Int} (h : FlAt u p l) (hb : u.heap[b]? = some (endO x y z)) : FlAt (u.setRow b (endA x' y' z')) p l := fun k hk => by
  obtain ⟨g, o, rfl, hg, hc⟩ := h k hk
  have hne : g ≠ b := fun e => by
    subst e
    have e1 := (cell_of_row u g (o + k) _ _ _ hb).symm.trans hc
    match o + k, e1 with
    | 0, e1 => cases e1
    | 1, e1 => cases e1
    | 2, e1 => cases e1
    | n + 3, e1 => cases e1
  refine ⟨g, o, rfl, by simpa using hg, ?_⟩
  rw [← hc]
  simp only [World.cell?, setRow_other u b g _ hne]
theorem says_end {hh c e : Int} {l : List Nat} {r : Ending} {u : World} (h : MpAt w g F M L) (k : SaysW hh c e g F M L' (w.alloc (endO 0 0 0)) l r u) : ∃ p m F', r = .returned (.tuple #[endV hh c e, .slice p l.length m]) ∧ Hid (u.heap[w.heap.size]? = some (endO 0 0 0) ∧ FlAt (u.setRow w.heap.size (endA hh c e)) p l ∧ MpAt (u.setRow w.heap.size (endA hh c e)) g F' M L' ∧ Turn F F' w (u.setRow w.heap.size (endA hh c e)) ∧ (u.setRow w.heap.size (endA hh c e)).heap[w.heap.size]? = some (endO hh c e)) := by
  obtain ⟨p, m, F', rfl, k1, k2, k3⟩ := k.ex
  have hn : w.heap.size ∉ F := fun q => absurd (h.blw _ q) (Nat.lt_irrefl _)
  have hb : u.heap[w.heap.size]? = some (endO 0 0 0) := (k3.block _ (by simp) hn).trans (heap_alloc_new w _)
  have hn' : w.heap.size ∉ F' := fun q => by
    rcases k3.own _ q with z | z
    · exact hn z
    · rw [World.size_alloc] at z; omega
  refine ⟨p, m, F', rfl, hb, fl_set k1 hb, k2.keep ⟨by simp, fun i hi => setRow_other u _ i _ (fun q => hn' (q ▸ hi))⟩, ?_, setRow_heap u _ _ _ _ _ hb⟩
  refine ⟨k3.os, k3.tape, k3.output, ?_, fun i hi hq => ?_, fun i hi => ?_⟩
  · have := k3.size
    rw [World.size_alloc] at this
    simp
    omega
  · exact (setRow_other u _ i _ (by omega)).trans ((k3.block i (by simp; omega) hq).trans (heap_alloc_old w _ hi))
  · rcases k3.own i hi with z | z
    · exact .inl z
    · rw [World.size_alloc] at z; exact .inr (by omega)
variable {R : Nat}
theorem Sorted.key (hs : Sorted L R) : ∀ q ∈ L, q.1 < 18446744073709551616 := fun q hq => (hs.ok q hq).1.2
theorem put_says (h : MpAt w g F (R : Nat) L) (hs : Sorted L R) (hR : R ≤ 16) {x v : Nat} (hx : x < 18446744073709551616) : Calls Tryz.prog 56 #[.pointer (some ⟨g, 0, none⟩), .float .f64 x, .float .f64 v] w fun e w' => SaysW (howS 2 L R (fixB x)) (codS 2 L R (fixB x)) 0 g F (R : Nat) (nxtS 2 L R (fixB x) (fixB v)) w (outS 2 L R (fixB x)) e w' := by
  have hl := hs.len
  have e : ∀ b, fullS 2 L R (fixB x) = b → howS 2 L R (fixB x) = (if b then 2 else 1) ∧ codS 2 L R (fixB x) = (if b then 1 else 0) ∧ nxtS 2 L R (fixB x) (fixB v) = (if b then L else putS L (fixB x) (fixB v)) ∧ outS 2 L R (fixB x) = (if b then [] else [X ((if isK L (fixB x) then 0 else 1 : Nat) : Int)]) := fun b hb => by
    unfold howS codS nxtS outS
    rw [hb]
    exact ⟨rfl, rfl, rfl, rfl⟩
  cases hk : isK L x with
  | true =>
    obtain ⟨e1, e2, e3, e4⟩ := e false (by rw [fullS_fix]; unfold fullS; rw [hk]; simp)
    rw [isK_fix, hk] at e4
    rw [e1, e2, e3, e4]
    exact mput_old h (by omega) hs.key hx hk
  | false =>
    by_cases hm : L.length < R
    · obtain ⟨e1, e2, e3, e4⟩ := e false (by rw [fullS_fix]; unfold fullS; rw [decide_eq_false (show ¬ R ≤ L.length by omega)]; simp)
      rw [isK_fix, hk] at e4
      have e5 : X ((if false = true then 0 else 1 : Nat) : Int) = 4607182418800017408 := X_one
      rw [e5] at e4
      rw [e1, e2, e3, e4]
      exact mput_new h (by omega) hs.key hx hk (by omega)
    · obtain ⟨e1, e2, e3, e4⟩ := e true (by rw [fullS_fix]; unfold fullS; rw [hk, decide_eq_true (show R ≤ L.length by omega)]; rfl)
      rw [e1, e2, e3, e4]
      exact (mput_full h (by omega) hs.key hx hk (by omega)).mono fun r w' k => says_w h k
theorem del_says (h : MpAt w g F M L) (hs : Sorted L R) (hR : R ≤ 16) {x : Nat} (hx : x < 18446744073709551616) : Calls Tryz.prog 57 #[.pointer (some ⟨g, 0, none⟩), .float .f64 x] w fun e w' => SaysW 1 0 0 g F M (delS L (fixB x)) w [X ((if isK L (fixB x) then 1 else 0 : Nat) : Int)] e w' := by
  have hl := hs.len
  have h1 := mdel_any h (by omega) hs.key hx
  rw [isK_fix, delS_fix]
  have e : X ((if isK L x then 1 else 0 : Nat) : Int) = if isK L x then 4607182418800017408 else 0 := by
    cases isK L x
    · exact X_zero
    · exact X_one
  rw [e]
  exact h1
set_option maxRecDepth 100000 in
theorem says_any (h : MpAt w g F (R : Nat) L) (hs : Sorted L R) (hR : R ≤ 16) {k : Int} (h1 : 1 ≤ k) (h7 : k ≤ 7) {po : Option Addr} {n co : Nat} {l : List Nat} (hn : l.length = n) (hl : ∀ x ∈ l, x < 18446744073709551616) (hL : FlAt w po l) :
    Calls Tryz.prog 26 #[.pointer (some ⟨g, 0, none⟩), .int .i64 k, .slice po n co] w fun e w' => SaysW (howS k L R (argF l 0)) (codS k L R (argF l 0)) 0 g F (R : Nat) (nxtS k L R (argF l 0) (argF l 1)) w (outS k L R (argF l 0)) e w' := by
  have hln := hs.len
  have HK := Lib.hid h
  have h1w := h.on (below_alloc w (endO 0 0 0))
  have HA : Hid (∀ (i : Nat), Calls Tryz.prog 55 #[.slice po n co, .int .i64 i] (w.alloc (endO 0 0 0)) _) := fun i => arg_any (c := co) (hL.on (below_alloc w (endO 0 0 0))) hn i
  have hx : l.getD 0 0 < 18446744073709551616 := by
    rw [List.getD_eq_getElem?_getD]
    rcases Nat.lt_or_ge 0 l.length with q | q
    · rw [List.getElem?_eq_getElem q]; exact hl _ (List.getElem_mem q)
    · rw [List.getElem?_eq_none q]; decide
  have HA0 : Hid (Calls Tryz.prog 55 #[.slice po n co, .int .i64 0] (w.alloc (endO 0 0 0)) fun e w' => e = .returned (.float .f64 (l.getD 0 0)) ∧ w' = w.alloc (endO 0 0 0)) := HA.out 0
  have HA1 : Hid (Calls Tryz.prog 55 #[.slice po n co, .int .i64 1] (w.alloc (endO 0 0 0)) fun e w' => e = .returned (.float .f64 (l.getD 1 0)) ∧ w' = w.alloc (endO 0 0 0)) := HA.out 1
  obtain ⟨x, ex⟩ : ∃ x, l.getD 0 0 = x := ⟨_, rfl⟩
  obtain ⟨y, ey⟩ : ∃ y, l.getD 1 0 = y := ⟨_, rfl⟩
  have e0 : argF l 0 = fixB x := by rw [← ex]; rfl
  have e1 : argF l 1 = fixB y := by rw [← ey]; rfl
  rw [e0, e1]
  rw [ex] at HA0 hx
  rw [ey] at HA1
  rcases kinds h1 h7 with rfl | rfl | rfl | rfl | rfl | rfl | rfl
  · have HM := Lib.hid ((mget_any h1w (by omega) hs.key hx).mono fun r w' k => says_w h1w k)
    rw [← getS_fix] at HM
    have eo : outS 1 L R (fixB x) = getS L (fixB x) := rfl
    have en : nxtS 1 L R (fixB x) (fixB y) = L := rfl
    have eh : howS 1 L R (fixB x) = 1 := rfl
    have ec : codS 1 L R (fixB x) = 0 := rfl
    rw [eo, en, eh, ec]
    clear eo en eh ec
    clear h1w hL hl hn hs hln hx ex ey e0 e1 HA h h1 h7 hR
    generalize getS L (fixB x) = o at HM ⊢
    go_enter Tryz.func26, Tryz.ntmps26
    go_wp2_with (first
      | (refine wpList_store_row rfl 60 _ _ rfl w.heap.size (endA 1 0 0) rfl rfl _ _ KB.out.1 endInfo rfl (endA_one 1 0 0) ?_)
      | (go_at_call 55; refine HA0.out.mono ?_; rintro e z ⟨rfl, hz⟩; subst z; clear HA0)
      | (go_at_call 54; refine HM.out.mono ?_; rintro e u hq; obtain ⟨p, m, F', rfl, KB⟩ := says_end HK.out hq; clear hq HM))
    refine end_back rfl w.heap.size _ rfl rfl KB.out.2.2.2.2 rfl rfl (SaysW.mk ⟨p, m, F', rfl, KB.out.2.1, KB.out.2.2.1, KB.out.2.2.2.1⟩)
  · have HM := Lib.hid (put_says (v := y) h1w hs hR hx)
    generalize howS 2 L R (fixB x) = hh at HM ⊢
    generalize codS 2 L R (fixB x) = cc at HM ⊢
    clear h1w hL hl hn hs hln hx ex ey e0 e1 HA h h1 h7 hR
    generalize outS 2 L R (fixB x) = o at HM ⊢
    generalize nxtS 2 L R (fixB x) (fixB y) = L2 at HM ⊢
    go_enter Tryz.func26, Tryz.ntmps26
    go_wp2_with (first
      | (refine wpList_store_row rfl 60 _ _ rfl w.heap.size (endA hh cc 0) rfl rfl _ _ KB.out.1 endInfo rfl (endA_one hh cc 0) ?_)
      | (go_at_call 55; refine HA0.out.mono ?_; rintro e z ⟨rfl, hz⟩; subst z; clear HA0)
      | (go_at_call 55; refine HA1.out.mono ?_; rintro e z ⟨rfl, hz⟩; subst z; clear HA1)
      | (go_at_call 56; refine HM.out.mono ?_; rintro e u hq; obtain ⟨p, m, F', rfl, KB⟩ := says_end HK.out hq; clear hq HM))
    refine end_back rfl w.heap.size _ rfl rfl KB.out.2.2.2.2 rfl rfl (SaysW.mk ⟨p, m, F', rfl, KB.out.2.1, KB.out.2.2.1, KB.out.2.2.2.1⟩)
  · have HM := Lib.hid (del_says h1w hs hR hx)
    have eo : outS 3 L R (fixB x) = [X ((if isK L (fixB x) then 1 else 0 : Nat) : Int)] := rfl
    have en : nxtS 3 L R (fixB x) (fixB y) = delS L (fixB x) := rfl
    have eh : howS 3 L R (fixB x) = 1 := rfl
    have ec : codS 3 L R (fixB x) = 0 := rfl
    rw [eo, en, eh, ec]
    clear eo en eh ec
    clear h1w hL hl hn hs hln hx ex ey e0 e1 HA h h1 h7 hR
    generalize [X ((if isK L (fixB x) then 1 else 0 : Nat) : Int)] = o at HM ⊢
    generalize delS L (fixB x) = L2 at HM ⊢
    go_enter Tryz.func26, Tryz.ntmps26
    go_wp2_with (first
      | (refine wpList_store_row rfl 60 _ _ rfl w.heap.size (endA 1 0 0) rfl rfl _ _ KB.out.1 endInfo rfl (endA_one 1 0 0) ?_)
      | (go_at_call 55; refine HA0.out.mono ?_; rintro e z ⟨rfl, hz⟩; subst z; clear HA0)
      | (go_at_call 57; refine HM.out.mono ?_; rintro e u hq; obtain ⟨p, m, F', rfl, KB⟩ := says_end HK.out hq; clear hq HM))
    refine end_back rfl w.heap.size _ rfl rfl KB.out.2.2.2.2 rfl rfl (SaysW.mk ⟨p, m, F', rfl, KB.out.2.1, KB.out.2.2.1, KB.out.2.2.2.1⟩)
  · have HM := Lib.hid ((mleast_any h1w (by omega)).mono fun r w' k => says_w h1w k)
    have eo : outS 4 L R (fixB x) = fstS L 0 := rfl
    have en : nxtS 4 L R (fixB x) (fixB y) = L := rfl
    have eh : howS 4 L R (fixB x) = 1 := rfl
    have ec : codS 4 L R (fixB x) = 0 := rfl
    rw [eo, en, eh, ec]
    clear eo en eh ec
    clear h1w hL hl hn hs hln hx ex ey e0 e1 HA h h1 h7 hR
    generalize fstS L 0 = o at HM ⊢
    go_enter Tryz.func26, Tryz.ntmps26
    go_wp2_with (first
      | (refine wpList_store_row rfl 60 _ _ rfl w.heap.size (endA 1 0 0) rfl rfl _ _ KB.out.1 endInfo rfl (endA_one 1 0 0) ?_)
      | (go_at_call 58; refine HM.out.mono ?_; rintro e u hq; obtain ⟨p, m, F', rfl, KB⟩ := says_end HK.out hq; clear hq HM))
    refine end_back rfl w.heap.size _ rfl rfl KB.out.2.2.2.2 rfl rfl (SaysW.mk ⟨p, m, F', rfl, KB.out.2.1, KB.out.2.2.1, KB.out.2.2.2.1⟩)
  · have HM := Lib.hid ((mafter_any h1w (by omega) hs.key hx).mono fun r w' k => says_w h1w k)
    rw [← aftS2_fix] at HM
    have eo : outS 5 L R (fixB x) = aftS2 L (fixB x) := rfl
    have en : nxtS 5 L R (fixB x) (fixB y) = L := rfl
    have eh : howS 5 L R (fixB x) = 1 := rfl
    have ec : codS 5 L R (fixB x) = 0 := rfl
    rw [eo, en, eh, ec]
    clear eo en eh ec
    clear h1w hL hl hn hs hln hx ex ey e0 e1 HA h h1 h7 hR
    generalize aftS2 L (fixB x) = o at HM ⊢
    go_enter Tryz.func26, Tryz.ntmps26
    go_wp2_with (first
      | (refine wpList_store_row rfl 60 _ _ rfl w.heap.size (endA 1 0 0) rfl rfl _ _ KB.out.1 endInfo rfl (endA_one 1 0 0) ?_)
      | (go_at_call 55; refine HA0.out.mono ?_; rintro e z ⟨rfl, hz⟩; subst z; clear HA0)
      | (go_at_call 59; refine HM.out.mono ?_; rintro e u hq; obtain ⟨p, m, F', rfl, KB⟩ := says_end HK.out hq; clear hq HM))
    refine end_back rfl w.heap.size _ rfl rfl KB.out.2.2.2.2 rfl rfl (SaysW.mk ⟨p, m, F', rfl, KB.out.2.1, KB.out.2.2.1, KB.out.2.2.2.1⟩)
  · have HM := Lib.hid ((mlen_any h1w (by omega)).mono fun r w' k => says_w h1w k)
    have eo : outS 6 L R (fixB x) = [X (L.length : Nat)] := rfl
    have en : nxtS 6 L R (fixB x) (fixB y) = L := rfl
    have eh : howS 6 L R (fixB x) = 1 := rfl
    have ec : codS 6 L R (fixB x) = 0 := rfl
    rw [eo, en, eh, ec]
    clear eo en eh ec
    clear h1w hL hl hn hs hln hx ex ey e0 e1 HA h h1 h7 hR
    generalize [X (L.length : Nat)] = o at HM ⊢
    go_enter Tryz.func26, Tryz.ntmps26
    go_wp2_with (first
      | (refine wpList_store_row rfl 60 _ _ rfl w.heap.size (endA 1 0 0) rfl rfl _ _ KB.out.1 endInfo rfl (endA_one 1 0 0) ?_)
      | (go_at_call 60; refine HM.out.mono ?_; rintro e u hq; obtain ⟨p, m, F', rfl, KB⟩ := says_end HK.out hq; clear hq HM))
    refine end_back rfl w.heap.size _ rfl rfl KB.out.2.2.2.2 rfl rfl (SaysW.mk ⟨p, m, F', rfl, KB.out.2.1, KB.out.2.2.1, KB.out.2.2.2.1⟩)
  · have HM := Lib.hid ((mall_any h1w (by omega)).mono fun r w' k => says_w h1w k)
    have eo : outS 7 L R (fixB x) = allS L := rfl
    have en : nxtS 7 L R (fixB x) (fixB y) = L := rfl
    have eh : howS 7 L R (fixB x) = 1 := rfl
    have ec : codS 7 L R (fixB x) = 0 := rfl
    rw [eo, en, eh, ec]
    clear eo en eh ec
    clear h1w hL hl hn hs hln hx ex ey e0 e1 HA h h1 h7 hR
    generalize allS L = o at HM ⊢
    go_enter Tryz.func26, Tryz.ntmps26
    go_wp2_with (first
      | (refine wpList_store_row rfl 60 _ _ rfl w.heap.size (endA 1 0 0) rfl rfl _ _ KB.out.1 endInfo rfl (endA_one 1 0 0) ?_)
      | (go_at_call 61; refine HM.out.mono ?_; rintro e u hq; obtain ⟨p, m, F', rfl, KB⟩ := says_end HK.out hq; clear hq HM))
    refine end_back rfl w.heap.size _ rfl rfl KB.out.2.2.2.2 rfl rfl (SaysW.mk ⟨p, m, F', rfl, KB.out.2.1, KB.out.2.2.1, KB.out.2.2.2.1⟩)
end
end Go.Proofs.YtpboiggakehpoaaGreatDoor.Tr
namespace Go.Proofs.YtpboiggakehpoaaGreatDoor.Tr
open Go.ChangeShapes Go.WideShapes Go.ChangeAt Go.RowKit Num Go.Maps As
open Go.ChangeMaps Go.MapKept
attribute [local go_sem] run_store_float frombits_run bits_run
section
variable {w : World}
theorem same_any (k : Int) {pa pb : Option Addr} {ca cb n : Nat} {l : List Nat} (hn : l.length = n) (hm : n ≤ 9223372036854775807) (ha : FlAt w pa l) (hb : FlAt w pb l) : Calls Tryz.prog 27 #[.int .i64 k, .slice pa n ca, .slice pb n cb] w fun e w' => e = .returned (.bool true) ∧ Same w w' := by
  have HE := Lib.hid (exact_any (ca := ca) (cb := cb) hn hm ha hb)
  clear hn ha hb
  go_enter Tryz.func27, Tryz.ntmps27
  go_wp2_with (go_at_call 25; refine HE.out.mono ?_; rintro e u ⟨rfl, k1⟩; have K1 := Lib.hid k1; clear k1 HE)
  go_ret
  exact ⟨rfl, K1.out⟩
end
end Go.Proofs.YtpboiggakehpoaaGreatDoor.Tr
namespace Go.Proofs.YtpboiggakehpoaaGreatDoor.Tr
open Go.ChangeShapes Go.WideShapes Go.ChangeAt Go.RowKit Num Go.Maps As
open Go.ChangeMaps Go.MapKept
attribute [local go_sem] run_store_float frombits_run bits_run
theorem mp_blk {w : World} {g : Nat} {F : List Nat} {M : Int} {L : Prs} (h : MpAt w g F M L) {k : Nat} (hk : k ∈ F) : ∃ (arr : Array Value) (T : TypeId), w.heap[k]? = some (.cells arr T (0, 0)) ∧ (T = 46 ∨ T = 147) := by
  obtain ⟨p, c, rfl, hb, hr⟩ := h.ex
  rcases List.mem_cons.1 hk with rfl | hk
  · exact ⟨_, _, hb, .inl rfl⟩
  · obtain ⟨arr, e⟩ := hr.blk hk
    exact ⟨_, _, e, .inr rfl⟩
theorem mp_no {w : World} {g0 : Nat} {F : List Nat} {M : Int} {L : Prs} (h : MpAt w g0 F M L) {g : Nat} {arr : Array Value} {T : TypeId} {x : Nat × Nat} (hg : w.heap[g]? = some (.cells arr T x)) (h1 : (T == 46) = false) (h2 : (T == 147) = false) : g ∉ F := fun hk => by
  obtain ⟨arr', T', h3, h4⟩ := mp_blk h hk
  rw [hg] at h3
  injection h3 with h3
  injection h3 with _ h5
  subst h5
  rcases h4 with rfl | rfl
  · simp at h1
  · simp at h2
structure Pl (W w : World) (q : Nat → Ptr) (b : Nat) (F : List Nat) (s : List Nat) (a : Int) (B R cells : Nat) (g : Nat) (G : List Nat) (L : Prs) : Prop where
  tw : TW W w q b F s a B R cells L
  mp : MpAt w g G (R : Nat) L
  sep : Sep F G
  abG : Abv W.heap.size G
section
variable {W w w' : World} {q : Nat → Ptr} {b g : Nat} {F G s : List Nat} {a : Int} {B R cells : Nat} {L : Prs}
theorem Pl.on (h : Pl W w q b F s a B R cells g G L) (k : Below w.heap.size w w') : Pl W w' q b F s a B R cells g G L := ⟨h.tw.on k, h.mp.on k, h.sep, h.abG⟩
theorem Pl.bl (h : Pl W w q b F s a B R cells g G L) : Below W.heap.size W w := h.tw.bl
theorem Pl.room (h : Pl W w q b F s a B R cells g G L) : R ≤ 16 := h.tw.lies.r.2.1
theorem TW.past {v : World} {L2 : Prs} (h : TW W w q b F s a B R cells L) {M : Int} (hm : MpAt w g G M L2) {G' : List Nat} (t : Turn G G' w v) (hs : Sep F G) (hA : Abv W.heap.size G) : TW W v q b F s a B R cells L := by
  refine ⟨h.sh, h.bl.trans (t.below hA h.bl.size), h.ab, ⟨fun i hi => ?_⟩, h.cel.turn t hs, h.ok, h.has, h.lies⟩
  have hr := h.tr.row i hi
  refine ⟨hr.1, hr.2.keep (t.kept (fun k hk => ?_) hr.2.blw)⟩
  obtain ⟨arr, e⟩ := hr.2.blk hk
  exact mp_no hm e (by decide) (by decide)
abbrev pgO2 (t : Int) (z : Ptr) : Obj := .cells #[.int .i64 t, .slice z.p z.n z.c] 26
theorem outS_len {k : Int} {K : Nat} (h : Sorted L R) : (outS k L R K).length ≤ 2 * R + 2 := by
  have hl := h.len
  have hf : ∀ i, (fstS L i).length ≤ 2 := fun i => by unfold fstS; split <;> simp
  unfold outS
  repeat' split
  all_goals first
    | (simp only [List.length_nil, List.length_cons]; omega)
    | (unfold getS; split <;> simp only [List.length_nil, List.length_cons] <;> omega)
    | (have := hf 0; omega)
    | (unfold aftS2; have := hf (if isK L K then ahd L K + 1 else ahd L K); omega)
    | (rw [all_len]; omega)
end
end Go.Proofs.YtpboiggakehpoaaGreatDoor.Tr
namespace Go.Proofs.YtpboiggakehpoaaGreatDoor.Tr
open Go.ChangeShapes Go.WideShapes Go.ChangeAt Go.RowKit Num Go.Maps As
open Go.ChangeMaps Go.MapKept
attribute [local go_sem] run_store_float frombits_run bits_run
end Go.Proofs.YtpboiggakehpoaaGreatDoor.Tr
namespace Go.Proofs.YtpboiggakehpoaaGreatDoor.Tr
open Go.ChangeShapes Go.WideShapes Go.ChangeAt Go.RowKit Num Go.Maps As
open Go.ChangeMaps Go.MapKept
attribute [local go_sem] run_store_float frombits_run bits_run
section
variable {W w w' : World} {q : Nat → Ptr} {b g : Nat} {F G s : List Nat} {a : Int} {B R cells : Nat} {L : Prs}
theorem mp_new (w : World) (M : Int) : MpAt (w.alloc (mpO none 0 0 M)) w.heap.size [w.heap.size] M [] := ⟨none, 0, rfl, heap_alloc_new _ _, rowW_nil _ _ _⟩
structure B0 (d : Wd) (q : Nat → Ptr) (W : World) (g4 : Nat) (w : World) : Prop where
  bl : Below W.heap.size W w
  b1 : w.heap[W.heap.size]? = some (wdO d)
  b4 : w.heap[g4]? = some (tO q)
  tr : TrAt w d.B (roomV d.C) q
theorem B0.on {d : Wd} {g4 : Nat} (h : B0 d q W g4 w) (k : Below w.heap.size w w') : B0 d q W g4 w' :=
  ⟨h.bl.trans (k.mono h.bl.size), (k.block _ (lt_of_block h.b1)).trans h.b1, (k.block _ (lt_of_block h.b4)).trans h.b4, h.tr.on k⟩
theorem b0_new {W u1 u2 : World} {d : Wd} (k1 : Below (W.alloc (wdO d)).heap.size (W.alloc (wdO d)) u1) (k2 : Below u1.heap.size u1 u2) (t : TrAt u2 d.B (roomV d.C) q) : B0 d q W u2.heap.size (u2.alloc (tO q)) := by
  have e1 := heap_alloc_new W (wdO d)
  have k0 := below_alloc W (wdO d)
  have ka := below_alloc u2 (tO q)
  have b1 := below_chain k0 k1
  have b2 := below_chain b1 k2
  have f1 := (k1.block _ (lt_of_block e1)).trans e1
  have f2 := (k2.block _ (lt_of_block f1)).trans f1
  exact ⟨below_chain b2 ka, (ka.block _ (lt_of_block f2)).trans f2, heap_alloc_new _ _, t.on ka⟩
end
end Go.Proofs.YtpboiggakehpoaaGreatDoor.Tr
namespace Go.Proofs.YtpboiggakehpoaaGreatDoor.Tr
open Go.ChangeShapes Go.WideShapes Go.ChangeAt Go.RowKit Num Go.Maps As
open Go.ChangeMaps Go.MapKept
attribute [local go_sem] run_store_float frombits_run bits_run
end Go.Proofs.YtpboiggakehpoaaGreatDoor.Tr
namespace Go.Proofs.YtpboiggakehpoaaGreatDoor.Tr
open Go.ChangeShapes Go.WideShapes Go.ChangeAt Go.RowKit Num Go.Maps As
open Go.ChangeMaps Go.MapKept
attribute [local go_sem] run_store_float frombits_run bits_run
end Go.Proofs.YtpboiggakehpoaaGreatDoor.Tr
namespace Go.Proofs.YtpboiggakehpoaaGreatDoor.Tr
open Go.ChangeShapes Go.WideShapes Go.ChangeAt Go.RowKit Num Go.Maps As
open Go.ChangeMaps Go.MapKept
attribute [local go_sem] run_store_float frombits_run bits_run
end Go.Proofs.YtpboiggakehpoaaGreatDoor.Tr
namespace Go.Proofs.YtpboiggakehpoaaGreatDoor.Tr
open Go.ChangeShapes Go.WideShapes Go.ChangeAt Go.RowKit Num Go.Maps As
open Go.ChangeMaps Go.MapKept
attribute [local go_sem] run_store_float frombits_run bits_run
end Go.Proofs.YtpboiggakehpoaaGreatDoor.Tr
namespace Go.Proofs.YtpboiggakehpoaaGreatDoor.Tr
open Go.ChangeShapes Go.WideShapes Go.ChangeAt Go.RowKit Num Go.Maps As
open Go.ChangeMaps Go.MapKept
attribute [local go_sem] run_store_float frombits_run bits_run
end Go.Proofs.YtpboiggakehpoaaGreatDoor.Tr
namespace Go.Proofs.YtpboiggakehpoaaGreatDoor.Tr
open Go.ChangeShapes Go.WideShapes Go.ChangeAt Go.RowKit Num Go.Maps As
open Go.ChangeMaps Go.MapKept
attribute [local go_sem] run_store_float frombits_run bits_run
end Go.Proofs.YtpboiggakehpoaaGreatDoor.Tr
