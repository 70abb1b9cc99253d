/- For every size and every number the statement MemFresh answers true: what All tells is a list of its own each time: it may be changed and made longer, and what All tells later is as the memory is. No condition. -/
import Derived.Test.YtbeijepdklchaaaM8
import Derived.Test.YtbeijepdklchaaaM10
namespace Go.Proofs.Ytbeijepdklchaaa.memFresh
open Go.ChangeShapes Go.WideShapes Go.ChangeAt Go.RowKit

set_option maxHeartbeats 4000000 in
set_option maxRecDepth 100000 in
theorem walk (a0 a1 : Int) (_w0 : (Lit.int .i64 a0).wf = true) (_w1 : (Lit.int .u64 a1).wf = true) (W : World) : Calls Try.prog 8 #[.int .i64 a0, .int .u64 a1] W fun r W2 => r = .returned (.bool true) ∧ Below W.heap.size W W2 := by
  by_cases hn : 1 ≤ a0 ∧ a0 ≤ 4096
  · obtain ⟨n, rfl⟩ : ∃ n : Nat, a0 = n := ⟨a0.toNat, by omega⟩
    have h1 : 1 ≤ n := by omega
    have h2 : n ≤ 4096 := by omega
    have HN := fun w => new_some n h1 h2 w
    replace HN := Lib.hid HN
    have HH := Lib.hid h1
    clear hn h1 _w0 _w1
    obtain ⟨i0, hi, hz0, hz1, hz2⟩ := info_parts wordInfo
    have HZI := Lib.hid (And.intro hi (And.intro hz0 (And.intro hz1 hz2)))
    clear hi hz0 hz1 hz2
    go_enter Try.func8, Try.ntmps8
    go_wp2_with (first
      | (go_at_call 11; refine (live_any _).mono ?_; rintro r w1 ⟨rfl, hb⟩; have HB1 := Lib.hid hb; clear hb)
      | (go_at_call 9; refine (HN.out _).mono ?_; rintro r w2 ⟨rfl, hm, hb⟩; have HM2 := Lib.hid hm; have HB2 := Lib.hid (below_chain HB1.out hb); have HS2 : Hid (W.heap.size ≤ w1.heap.size) := HB1.out.size; clear hm hb HB1)
      | (go_at_call 18; refine (all_any HM2.out).mono ?_; rw [List.length_replicate]; rintro r w3 ⟨rfl, hr, hb⟩; have HR3 := Lib.hid hr; have HM3 := Lib.hid (HM2.out.on hb); have HB3 := Lib.hid (below_chain HB2.out hb); have HL3 : Hid (w1.heap.size + 1 < w2.heap.size) := HM2.out.ltB; clear hr hb HB2 HM2))
    obtain ⟨ga, hga⟩ : ∃ ga, ga = w2.heap.size := ⟨_, rfl⟩
    rw [← hga] at HR3 HL3 ⊢
    clear hga
    obtain ⟨gb, hgb⟩ : ∃ gb, gb = w1.heap.size := ⟨_, rfl⟩
    rw [← hgb] at HM3 HL3 HS2 ⊢
    clear hgb
    go_loopw [9] (fun vi wr => ∃ (i : Nat), vi = .int .i64 i ∧ i ≤ n ∧ Hid (Below W.heap.size W wr) ∧ Hid (MemAt 57 wr (gb + 1) gb (List.replicate n 0) false 0) ∧ Hid (∃ l : List Int, l.length = n ∧ RowAt wr ga l)) (fun vi _ => n - (intOf vi).toNat)
    case atStart => exact ⟨0, rfl, Nat.zero_le _, HB3, HM3, ⟨_, List.length_replicate, HR3.out⟩⟩
    case round =>
      clear HB3 HM3 HR3
      obtain ⟨i, rfl, hi, HB, HM, HR⟩ := hrel
      by_cases hlt : i < n
      · have hlt' : (i : Int) < (n : Int) := by omega
        obtain ⟨l, hl, hr⟩ := HR.out
        have q0 := hr.word (i := i) (by omega)
        have q1 := hr.free i
        obtain ⟨y, hy⟩ : ∃ y, y = l[i] := ⟨_, rfl⟩
        rw [← hy] at q0
        have HF : Hid (∀ x : Int, ∃ l : List Int, l.length = n ∧ RowAt (wr.setCell ⟨ga, i, none⟩ (.int .u64 x)) ga l) := fun x => ⟨_, by rw [List.length_set]; exact hl, hr.set i x⟩
        have HMF : Hid (∀ u, MemAt 57 (wr.setCell ⟨ga, i, none⟩ u) (gb + 1) gb (List.replicate n 0) false 0) := fun u => HM.out.other (by have := HL3.out; omega) (by have := HL3.out; omega) i u
        have HBF : Hid (∀ u, Below W.heap.size W (wr.setCell ⟨ga, i, none⟩ u)) := fun u => HB.out.setCell (by show W.heap.size ≤ ga; have := HL3.out; have := HS2.out; omega) u
        clear hy hl hr HR HM HB
        go_wp2
        exact ⟨⟨i + 1, by first | rfl | (congr 1), by omega, HBF.out _, HMF.out _, HF.out _⟩, by simp [intOf]; omega⟩
      · have hlt' : ¬ (i : Int) < (n : Int) := by omega
        obtain ⟨l, hl, hr⟩ := HR.out
        have HO : Hid (wr.ownsRow ga 32 1 (.slice (some ⟨ga, 0, none⟩) n n) n (u64s l)) := by
          have := hr.owns (B := ga) (Nat.le_refl _) (by omega)
          rw [hl] at this
          exact this
        have HS : Hid (ga < wr.heap.size) := hr.lt
        have HFO : Hid (∀ (k : Nat) (w : World) (v : Value) (xs : List Value), w.ownsRow ga 32 1 v (k + 2) xs → ∃ g c, v = .slice (some ⟨g, 0, none⟩) (k + 2) c) := by
          intro k w v xs h
          rcases h.2 with ⟨_, q⟩ | ⟨g, c, _, e, _⟩
          · omega
          · exact ⟨g, c, e⟩
        have HMK : Hid (∀ (ob : Obj) (w : World), (wr.alloc ob).grownBy w (some ga) → MemAt 57 w (gb + 1) gb (List.replicate n 0) false 0 ∧ Below W.heap.size W w) := by
          intro ob w hg
          have hm := HM.out.alloc ob
          have h3 := HL3.out
          have h4 := HS2.out
          refine ⟨hm.keep (hg.block _ hm.ltB (by simp; omega)) (hg.block _ hm.ltG (by simp; omega)), ?_⟩
          exact (HB.out.alloc HB.out.size ob).grown hg (Nat.le_trans HB.out.size (by simp)) (fun k hk => by cases hk; omega)
        clear hl hr HR HM HB hi hlt
        have h2n : (2 : Int) ≤ ((n + 2 : Nat) : Int) := by omega
        go_wp2_with (first
          | (at_builtin; refine wpList_append_own _ rfl _ _ 38 rfl ga 32 i0 (.int .u64 0) 1 8 Try.underlying38 HZI.out.1 HZI.out.2.1 HZI.out.2.2.1 HZI.out.2.2.2 rfl (by decide) _ n _ rfl (World.ownsRow.alloc HO.out _) ⟨wr.heap.size, 0, none⟩ 2 2 [.int .u64 a1, .int .u64 a1] rfl rfl (cell_two_new _ _ _ _) (fun u hu => by simp at hu; subst hu; rfl) (by unfold maxLen; omega) (by omega) (by have := HS.out; simp; omega) ?_; intro v3 w4 hown3 hgrow3 hnil3; obtain ⟨g3, c3, rfl⟩ := HFO.out _ _ _ _ hown3; have hk := HMK.out _ _ hgrow3; have HM4 := Lib.hid hk.1; have HB4 := Lib.hid hk.2; clear hown3 hgrow3 hnil3 hk HMK)
          | (go_at_call 18; refine (all_any HM4.out).mono ?_; rw [List.length_replicate]; rintro r w5 ⟨rfl, hr, hb⟩; have HR5 := Lib.hid hr; have HM5 := Lib.hid (HM4.out.on hb); have HB5 := Lib.hid (below_chain HB4.out hb); clear hr hb HB4 HM4))
        go_loop [11] (fun vi => ∃ (i : Nat), vi = .int .i64 i ∧ i ≤ n) (fun vi => n - (intOf vi).toNat)
        case atStart => exact ⟨0, rfl, Nat.zero_le _⟩
        case round =>
          obtain ⟨j, rfl, hj⟩ := hrel
          by_cases hlt2 : j < n
          · have hlt3 : (j : Int) < (n : Int) := by omega
            have q0 : w5.cell? ⟨w4.heap.size, j, none⟩ = some (.int .u64 0) := by
              rw [HR5.out.word (i := j) (by rw [List.length_replicate]; exact hlt2), List.getElem_replicate]
            go_wp2
            exact ⟨⟨j + 1, by first | rfl | (congr 1), by omega⟩, by simp [intOf]; omega⟩
          · have hlt3 : ¬ (j : Int) < (n : Int) := by omega
            have HLN := Lib.hid (len_any HM5.out)
            rw [List.length_replicate] at HLN
            clear hj hlt2
            go_wp2_with (go_at_call 10; refine HLN.out.mono ?_; rintro r w6 ⟨rfl, hw⟩; subst w6)
            go_ret
            exact ⟨by simp, HB5.out⟩
  · have HN := fun w => new_none a0 hn w
    replace HN := Lib.hid HN
    clear hn _w0 _w1
    go_enter Try.func8, Try.ntmps8
    go_wp2_with (first
      | (go_at_call 11; refine (live_any _).mono ?_; rintro r w1 ⟨rfl, hb⟩)
      | (go_at_call 9; refine (HN.out _).mono ?_; rintro r w2 ⟨rfl, hw⟩; subst w2))
    go_ret
    exact ⟨rfl, hb⟩

set_option maxRecDepth 100000 in
theorem lifted (os : Os) (started : os.Started) (H : Type) (enc : TypeId × Value → H) :
    ReturnsInHanded {} Try.checked os 8 .any (Rows.memFreshSpec.pre6 enc Try.prog Try.f8 Rows.memFreshRow.domain false) (Rows.memFreshSpec.post enc Try.prog Try.f8 false true false false) := by
  refine returnsInHanded_of_change (C := Try.checked) ownK started (by kernel_rfl) Try.func8
    (ChangeSpec.witness6 (enc := enc) (C := Try.checked) false ⟨#[], #[.int .i64 0, .int .u64 0], []⟩ 8 (by kernel_rfl) (by kernel_rfl) (by kernel_rfl) (by kernel_rfl)) ?_
  intro W base args ds gs before hval0 hW _ _
  have hval : ∀ (j : Nat) t v, Try.f8.params[j]? = some t → args[j]? = some v → Value.okWide Try.prog W .any base t v := hval0
  have hW2 := hW
  obtain ⟨p, q, hA0, hV, rfl, _, _⟩ := hW
  have hA : DataW.TrodAll enc Try.prog W 0 (fun _ => true) true Try.f8.params.toList args.toList ds p := hA0
  rw [Try.params8] at hA hval
  obtain ⟨v0, vs0, d0, ds0, p0, q0, hargs, rfl, rfl, h0, r0⟩ := trodAll_cons hA
  obtain ⟨v1, vs1, d1, ds1, p1, q1, rfl, rfl, rfl, h1, r1⟩ := trodAll_cons r0
  obtain ⟨rfl, rfl, rfl⟩ := trodAll_nil r1
  obtain rfl : args = #[v0, v1] := by cases args; simp_all
  obtain ⟨rfl, rfl⟩ := trodVars_none hV
  obtain ⟨a0, rfl, rfl, rfl, w0⟩ := open_int Try.underlying3 (hval 0 3 v0 rfl rfl) h0
  obtain ⟨a1, rfl, rfl, rfl, w1⟩ := open_int Try.underlying32 (hval 1 32 v1 rfl rfl) h1
  clear hA0 hval0
  simp only [List.append_nil] at hW2
  refine (walk a0 a1 w0 w1 W).mono fun e W2 ⟨he, hnx⟩ => ?_
  subst he
  exact ⟨_, rfl, _, _, _, [], _, [], hW2, trodAll_mk1 (shut_bool Try.underlying4 _), (trodAll_cons_mk (shut_int Try.underlying3 w0) (trodAll_cons_mk (shut_int Try.underlying32 w1) trodAll_mk0)), rfl, hnx.frame _, fun h => by cases h⟩

/-- the statement -/
theorem proved : Rows.MemFreshSaid :=
  OpenClaim.holds_of_wide 8 Try.f8 rfl rfl rfl rfl rfl rfl rfl ⟨rfl, rfl, rfl, rfl, rfl⟩ rfl rfl rfl rfl rfl (by kernel_rfl) Try.func8 (by kernel_rfl)
    (of_decide_eq_true (by kernel_rfl)) (by unfold Func.isWrapper; first | (rw [if_pos (by decide +kernel)]; kernel_rfl) | (rw [if_neg (by decide +kernel)]; exact ⟨rfl, rfl⟩))
    (fun os started H enc _ => lifted os started H enc)
end Go.Proofs.Ytbeijepdklchaaa.memFresh
