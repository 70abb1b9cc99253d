/- stage 22 (deque): a program put together of pieces -/
import Derived.Test.YtaliehikdidiaaaDoorWG
namespace Go.Proofs.YtaliehikdidiaaaDoor.Dq
open Go.ChangeShapes Go.WideShapes Go.ChangeAt Go.RowKit Num Go.Maps As
open Go.ChangeMaps Go.MapKept
attribute [local go_sem] run_store_float frombits_run bits_run

theorem pgInfo : (Tryd.prog.info? 24).map (·.size) = some 2 := by kernel_rfl
abbrev pgA (t : Int) (p : Option Addr) (n c : Nat) : Array Value := #[.int .i64 t, .slice p n c]
abbrev pgZ : Obj := .cells #[.int .i64 0, .slice none 0 0] 24
theorem pg_one (t : Int) (p : Option Addr) (n c : Nat) : (pgA t p n c).all (·.oneCell') = true := by simp [Value.oneCell']
theorem pg_back {fn : Func} {p : Tmp} (h : fn.results = #[.cell p 24]) {Q : Ending → World → Prop} {a : Act} {w : World} (g : Nat) (t : Int) (po : Option Addr) (n c : Nat) (hp : a.tmps.getD p undef = .pointer (some ⟨g, 0, none⟩))
    (hg : w.heap[g]? = some (.cells (pgA t po n c) 24 (0, 0))) (hd : a.defers = []) (hR : Q (.returned (.agg #[.int .i64 t, .slice po n c])) w) : bodyPost Tryd.prog fn Q .ret a w :=
  bodyPost_ret (results_cell_row h _ _ g _ _ _ _ hp hg Tryd.underlying24 rfl (by kernel_rfl)) hd hR
/-- a program that was made: its tag, its instructions -/
def PgC (W : World) (t : Int) (cs : List Ins) (e : Ending) (w' : World) : Prop := ∃ p n c, e = .returned (.agg #[.int .i64 t, .slice p n c]) ∧ Hid (n = cs.length ∧ RowW 63 3 w' p c n (codC cs) ∧ Below W.heap.size W w')
theorem bs_len {t : Int} {l : List O} {cs : List Ins} (h : (bsOf t l).filled.map fixI = cs) : (bsOf t l).code.length = cs.length := by rw [← h, List.length_map, filled_len]
def wfB (l : List O) : Bool := l.all fun o => (o.kind != 2 && o.kind != 3) || (decide (0 ≤ o.n) && decide (o.n ≤ 1000))
theorem wf_all {l : List O} (h : wfB l = true) : ∀ o ∈ l, o.kind = 2 ∨ o.kind = 3 → Wf o.n := by
  intro o ho hk
  have h1 := List.all_eq_true.1 h o ho
  rw [Bool.or_eq_true, Bool.and_eq_true, Bool.and_eq_true, decide_eq_true_eq, decide_eq_true_eq] at h1
  rcases h1 with ⟨h1, h2⟩ | ⟨h1, h2⟩
  · rcases hk with hk | hk <;> rw [hk] at h1 h2
    · exact absurd h1 (by decide)
    · exact absurd h2 (by decide)
  · exact wf_small ⟨h1, h2⟩
set_option maxHeartbeats 2000000 in
set_option maxRecDepth 100000 in
theorem c_program {w : World} {g k cc : Nat} {L : List (Value × List O)} (t : Int) (h : Pcs w g L) (hk : L.length = k) (hk2 : k ≤ 4096) (hT : Shaped5 w) {cs : List Ins} (hl : (catL L).length ≤ 4000) (hwf : wfB (catL L) = true) (hans : (bsOf t (catL L)).ans = 0) (hcs : (bsOf t (catL L)).filled.map fixI = cs) : Calls Tryd.prog 23 #[.int .i64 t, .slice (some ⟨g, 0, none⟩) k cc] w fun e w' => PgC w t cs e w' := by
  obtain ⟨W, hW⟩ : ∃ W, w.alloc pgZ = W := ⟨_, rfl⟩
  have hbW : Below w.heap.size w W := hW ▸ bl1 w _
  have hin : W.heap[w.heap.size]? = some pgZ := hW ▸ heap_alloc_new _ _
  have HT : Hid (Shaped5 W) := hT.on hbW
  have HP := Lib.hid h
  have HK := Lib.hid hk
  have HLN := Lib.hid hl
  have HWF := Lib.hid hwf
  have HANS := Lib.hid hans
  have HCS := Lib.hid hcs
  have HIN := Lib.hid hin
  have HBW := Lib.hid hbW
  clear h hk hl hwf hans hcs hT hin hbW
  go_enter Tryd.func23, Tryd.ntmps23
  go_wp2_with (go_at_call 43; refine (new_on W W (Below.refl _ _) t).mono ?_; rintro e w1 ⟨bb, rfl, HB⟩)
  go_loopw [10] (fun vi wr => ∃ i : Nat, vi = .int .i64 i ∧ i ≤ 3 ∧ Hid (On W wr bb (labs i (new t)))) (fun vi _ => 3 - (intOf vi).toNat)
  case atStart => exact ⟨0, rfl, Nat.zero_le _, HB.out⟩
  case round =>
    obtain ⟨i, rfl, hi, HI⟩ := hrel
    by_cases hlt : i < 3
    · have hltI : (i : Int) < 3 := by omega
      have HC := Lib.hid HI.out.label
      clear HI HT HP HK HLN HWF HANS HCS HIN HBW
      go_wp2_with (go_at_call 44; refine HC.out.mono ?_; rintro e w2 ⟨rfl, hR⟩; clear HC)
      exact ⟨⟨i + 1, by first | rfl | (congr 1), by omega, hR.out⟩, by simp [intOf]; omega⟩
    · have hltI : ¬ (i : Int) < 3 := by omega
      obtain rfl : 3 = i := by omega
      have hjoin := join_enter
      have ho2 : On W (wr.alloc (.cells #[.slice (some ⟨g, 0, none⟩) k cc] 47)) bb (labs 3 (new t)) := HI.out.on (bl1 _ _)
      have HJ := Lib.hid (join_call (cc := cc) (x := wr.heap.size) ((cell_of_row _ _ 0 _ _ _ (heap_alloc_new wr (.cells #[.slice (some ⟨g, 0, none⟩) k cc] 47))).trans rfl) HP.out HK.out hk2 (agree_of HBW.out) ho2 (by rw [(labs_len 3 t).1]; have := HLN.out; simp; omega) (by rw [(labs_len 3 t).2.1]; have := HLN.out; simp; omega))
      clear HI ho2
      go_upto_region 7 with (first
        | (refine HJ.out.mono ?_; rintro e w2 ⟨rfl, hR⟩; clear HJ)
        | (go_at_call 16; refine (join_raw g k cc _).mono ?_; rintro e z ⟨rfl, hz⟩; subst z))
      have hcode : (bsOf t (catL L)).code.length ≤ 4096 := by
        have h1 := foldB_len (catL L) (labs 3 (new t))
        rw [(labs_len 3 t).1] at h1
        have h2 := HLN.out
        simp at h1
        unfold bsOf
        omega
      have HON : Hid (On W w2 bb (bsOf t (catL L))) := hR.out
      have HPR := Lib.hid (HON.out.prog HT.out (by unfold lim; omega) (fold_marks _ _ (wf_all HWF.out) (fun x hx => by rw [(labs_len 3 t).2.1] at hx; cases hx)))
      have hans := HANS.out
      rw [hans] at HPR
      have HZ : Hid (∀ w' t' p n' c', PrE w2 w' (bsOf t (catL L)) t' p n' c' ∧ On W w' bb (bsOf t (catL L)) → t' = t ∧ n' = cs.length ∧ RowW 63 3 w' p c' n' (codC cs) ∧ Below W.heap.size W w' ∧ Abv W.heap.size (fpR p)) := fun w' t' p n' c' ⟨k1, k2⟩ => by
        have hbq := on_bl HON.out
        obtain ⟨z1, z2, ⟨z3, z4, z5, z6⟩ | ⟨z3, _⟩⟩ := k1
        · rw [HCS.out] at z6
          exact ⟨z4.trans ((fold_tag _ _).trans (labs_len 3 t).2.2), z5.trans (bs_len HCS.out), z6, hbq.trans (z1.mono hbq.size), z2.mono hbq.size⟩
        · exact absurd hans z3
      have hlw := lt_of_block HIN.out
      clear HON hR HT HP HK HLN HWF HANS HCS hans hcode hjoin
      go_upto_region 8 with (go_at_call 45; refine HPR.out.mono ?_; rintro e w3 ⟨t', p, n', c', rfl, hR⟩; obtain ⟨y1, y2, y3, y4, y5⟩ := HZ.out _ _ _ _ _ hR.out; subst y1; have hF := Lib.hid (And.intro y2 (And.intro y3 (And.intro y4 y5))); clear y2 y3 y4 y5 hR HPR HZ)
      obtain ⟨f1, f2, f3, f4⟩ := hF.out
      have ka := bl1 w3 (.cells (pgA t' p n' c') 24)
      have hz := (ka.block _ (Nat.lt_of_lt_of_le hlw f3.size)).trans ((f3.block _ hlw).trans HIN.out)
      have e6 := heap_alloc_new w3 (.cells (pgA t' p n' c') 24)
      have x0 := (cell_of_row _ _ 0 _ _ _ e6).trans rfl
      have x1 := (cell_of_row _ _ 1 _ _ _ e6).trans rfl
      have x2 := lt_of_block e6
      have HF2 := Lib.hid (And.intro f1 (And.intro (f2.keep (kept_below ka f2.blw)) (And.intro (f3.trans (ka.mono f3.size)) f4)))
      obtain ⟨v3, hv3⟩ : ∃ v3, v3 = w3.alloc (.cells (pgA t' p n' c') 24) := ⟨_, rfl⟩
      obtain ⟨g6, hg6⟩ : ∃ g6, w3.heap.size = g6 := ⟨_, rfl⟩
      rw [hg6] at x0 x1 x2 ⊢
      rw [← hv3] at hz x0 x1 x2 HF2 ⊢
      clear hv3 hg6 ka e6 f1 f2 f3 f4 hF
      go_wp2_with (first
        | (refine wpList_store_row rfl 24 _ _ rfl w.heap.size (pgA t' p n' c') rfl rfl _ _ hz pgInfo rfl (pg_one _ _ _ _) ?_))
      obtain ⟨f1, f2, f3, f4⟩ := HF2.out
      refine pg_back rfl w.heap.size t' p n' c' rfl (setRow_heap _ _ _ _ _ _ hz) rfl ⟨p, n', c', rfl, f1, f2.keep ⟨by simp, fun x hx => setRow_other _ _ _ _ (fun e => ?_)⟩, (HBW.out.trans (f3.mono HBW.out.size)).trans ⟨rfl, rfl, rfl, by simp, fun k hk => setRow_other _ _ k _ (by omega)⟩⟩
      have := f4 x hx
      omega
end Go.Proofs.YtaliehikdidiaaaDoor.Dq
