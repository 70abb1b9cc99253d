/- For every bound and every script of writes the statement BufferFresh answers true: what is done to a list that All told, its spare room too, changes nothing of the buffer. No condition. -/
import Derived.Test.YtlebjdohneiaaaaYO
import Derived.Test.YtlebjdohneiaaaaYR
namespace Go.Proofs.Ytlebjdohneiaaaa.bufferFresh
open Go.ChangeShapes Go.WideShapes Go.ChangeAt Go.RowKit

open Num
attribute [local go_sem] run_store_float frombits_run bits_run
set_option maxHeartbeats 4000000 in
set_option maxRecDepth 100000 in
theorem walk (a0 : Int) (ao : Option Addr) (len cap : Nat) (K C : Nat → Int) (X : Nat → Nat) (_w0 : (Lit.int .i64 a0).wf = true) (hmax : len ≤ maxLen) (W : World) (hops : BopsAt W ao len K C X) : Calls Try.prog 6 #[.int .i64 a0, .slice ao len cap] W fun r W2 => r = .returned (.bool true) ∧ Below W.heap.size W W2 := by
  have hmm : len ≤ 9223372036854775807 := hmax
  have HOPS := Lib.hid hops
  clear hops hmax _w0
  cases hn : mayM a0
  · have HN := Lib.hid (fun w => new_none hn w)
    have HRN := Lib.hid (fun w => refNew_none hn w)
    clear hn
    go_enter Try.func6, Try.ntmps6
    go_wp2_with (first
      | (go_at_call 9; refine (live_any _).mono ?_; rintro e w1 ⟨rfl, hb⟩; have HB1 := Lib.hid hb; clear hb)
      | (go_at_call 7; refine (HN.out _).mono ?_; rintro e w2 ⟨rfl, hw⟩; subst w2)
      | (go_at_call 10; refine (HRN.out _).mono ?_; rintro e w2 ⟨rfl, hw⟩; subst w2))
    go_ret
    exact ⟨by simp, HB1.out⟩
  · have HN := Lib.hid (fun w => new_some hn w)
    have HRN := Lib.hid (fun w => refNew_some hn w)
    clear hn
    obtain ⟨i0, hi, hz0, hz1, hz2⟩ := info_parts tInfo
    have HZI := Lib.hid (And.intro hi (And.intro hz0 (And.intro hz1 hz2)))
    clear hi hz0 hz1 hz2
    go_enter Try.func6, Try.ntmps6
    go_wp2_with (first
      | (go_at_call 10; refine (HRN.out _).mono ?_; rintro e w3 ⟨br, G, rfl, hc, ha, hb⟩; have HG3 := Lib.hid (goes_new HB1.out HC2.out HA2.out HB2.out hc ha hb); clear hc ha hb)
      | (go_at_call 7; refine (HN.out _).mono ?_; rintro e w2 ⟨bm, F, rfl, hc, ha, hb⟩; have HC2 := Lib.hid hc; have HA2 := Lib.hid ha; have HB2 := Lib.hid hb; clear hc ha hb)
      | (go_at_call 9; refine (live_any _).mono ?_; rintro e w1 ⟨rfl, hb⟩; have HB1 := Lib.hid hb; clear hb))
    clear HB1 HC2 HA2 HB2 HN HRN
    go_loopw [41] (fun vi wr => ∃ (i : Nat), vi = .int .i64 i ∧ i ≤ len ∧ Hid (Goes W wr bm br a0)) (fun vi _ => len - (intOf vi).toNat)
    case atStart => exact ⟨0, rfl, Nat.zero_le _, HG3⟩
    case round =>
      clear HG3
      obtain ⟨i, rfl, hi, HG⟩ := hrel
      obtain ⟨Fm, Fr, l, hp⟩ := HG.out
      by_cases hlt : i < len
      · have hlt' : (i : Int) < (len : Int) := by omega
        obtain ⟨b0, off, hao, hbW, k0, k1, k2, hwf, _⟩ := HOPS.out i hlt
        subst hao
        rw [← hp.below.cell (p := ⟨b0, off + i * 3, none⟩) hbW] at k0
        rw [← hp.below.cell (p := ⟨b0, off + i * 3 + 1, none⟩) hbW] at k1
        rw [← hp.below.cell (p := ⟨b0, off + i * 3 + 2, none⟩) hbW] at k2
        have hbw : b0 < wr.heap.size := Nat.lt_of_lt_of_le hbW hp.below.size
        generalize K i = kk at k0
        have HS := pput (.cells #[.int .i64 kk, .int .i64 (C i), .int .u64 ((X i : Nat) : Int)] 34) hp hwf (X i)
        have HR := prput (W := W) (bm := bm) (br := br) (m := a0) (l := putL a0 l (C i) (X i)) (l2 := l) (b := wr.heap.size) (fun q => absurd (hp.r.blw _ q) (Nat.lt_irrefl _)) (C i) (X i)
        clear hwf
        generalize C i = cc at k1 HS HR
        generalize X i = xx at k2 HS HR
        generalize putF a0 l cc = y at HS HR
        generalize putE a0 l cc = z at HS HR
        generalize putL a0 l cc xx = l2 at HS HR
        have HX := Lib.hid (heap_alloc_new wr (.cells #[.int .i64 kk, .int .i64 cc, .int .u64 xx] 34))
        clear hp HG hbW HOPS
        go_wp2
        go_region_held (fun w' => w'.cell? ⟨wr.heap.size, 1, none⟩ = some (.int .i64 cc) ∧ w'.cell? ⟨wr.heap.size, 2, none⟩ = some (.int .u64 xx)) (go_keep) (first
          | (go_at_call 19; refine (raw7_any _ _).mono ?_; rintro e w1 ⟨rfl, hw⟩; subst w1)
          | (go_at_call 18; refine (HS.out _ (by first | exact Same.refl _ | exact Same.drew _ | exact Same.drewN _ _)).mono ?_; rintro e w1 ⟨rfl, ⟨F1, hp⟩, hx⟩; have HP1 := Lib.hid hp; have HX1 := Lib.hid (hx.trans HX.out); obtain ⟨q0, q1, q2, q3⟩ := cells3 HX1.out; clear hp hx))
        go_wp2
        go_region_held (fun w' => w'.cell? ⟨wr.heap.size, 1, none⟩ = some (.int .i64 cc) ∧ w'.cell? ⟨wr.heap.size, 2, none⟩ = some (.int .u64 xx)) (go_keep) (first
          | (go_at_call 19; refine (raw7_any _ _).mono ?_; rintro e w2 ⟨rfl, hw⟩; subst w2)
          | (go_at_call 22; refine (HR.out w1 _ F1 HP1.out (by first | exact Same.refl _ | exact Same.drew _ | exact Same.drewN _ _) q3).mono ?_; rintro e w2 ⟨rfl, ⟨F2, hg⟩, hx⟩; have HP2 := Lib.hid hg; obtain ⟨r0, r1, r2, r3⟩ := cells3 (hx.trans HX1.out); clear hg hx))
        obtain ⟨n, hnn⟩ : ∃ n, l2.length = n := ⟨_, rfl⟩
        have hn32 : n ≤ 32 := by have := HP2.out.m.few; omega
        have HA := Lib.hid (all_any' HP2.out.m hnn)
        have HSP : Hid (w2.heap.size ∉ F1 ∧ w2.heap.size ∉ F2 ∧ W.heap.size ≤ w2.heap.size) := ⟨fun q => absurd (HP2.out.m.blw _ q) (Nat.lt_irrefl _), fun q => absurd (HP2.out.r.blw _ q) (Nat.lt_irrefl _), HP2.out.below.size⟩
        clear HS HR HX HX1 HP1 hnn
        go_wp2_with (go_at_call 17; refine HA.out.mono ?_; rintro e w3 ⟨rfl, hr, hb⟩; have HP3 := Lib.hid (HP2.out.on hb); have HC3 := Lib.hid hr.cur; clear hr hb)
        go_loopw [13] (fun vi wv => ∃ (k : Nat) (cur : Array Value), vi = .int .i64 k ∧ k ≤ n ∧ Hid (wv.heap[w2.heap.size]? = some (.cells cur 47 (0, 0))) ∧ Hid (cur.size = n * 2) ∧ Hid (Play W wv bm F1 br F2 a0 l2 l2)) (fun vi _ => n - (intOf vi).toNat)
        case atStart =>
          obtain ⟨cur, c1, c2, _⟩ := HC3.out
          exact ⟨0, cur, rfl, Nat.zero_le _, c1, c2, HP3⟩
        case round =>
          clear HP3 HC3 HA HP2
          obtain ⟨k, cur, rfl, hk, HQ, HZ, HP⟩ := hrel
          have hgg := lt_of_block HQ.out
          by_cases hkn : k < n
          · have hkn' : (k : Int) < (n : Int) := by omega
            obtain ⟨u, v, e0, e1, f0, f1⟩ := row_two HQ.out HZ.out hkn
            have HD := Lib.hid (cur_two (k := k * 2) HQ.out (.int .i64 (-9)) (.float .f64 4621256167635550208))
            go_wp2
            exact ⟨⟨k + 1, _, by first | rfl | (congr 1), by omega, HD.out.1, by show _ = _; simp; exact HZ.out, HP.out.far HD.out.2 HSP.out.1 HSP.out.2.1 HSP.out.2.2⟩, by simp [intOf]; omega⟩
          · have hkn' : ¬ (k : Int) < (n : Int) := by omega
            have HO := Lib.hid (fun o => World.ownsRow.alloc (cur_owns HQ.out HZ.out hn32) o)
            have hn2 : ¬ (n : Int) + 2 < 2 := by omega
            go_wp2_with (at_builtin; refine wpList_append_own_at _ rfl _ _ 38 rfl 0 47 i0 _ 2 16 Try.underlying38 HZI.out.1 HZI.out.2.1 HZI.out.2.2.1 HZI.out.2.2.2 rfl (by decide) _ n cur.toList rfl (HO.out _) ⟨wr.heap.size, 0, none⟩ 2 2 [.int .i64 (-8), .float .f64 0, .int .i64 (-7), .float .f64 0] rfl rfl (World.news_of_block (cs := #[.int .i64 (-8), .float .f64 0, .int .i64 (-7), .float .f64 0]) (t := 47) (fr := (0, 0)) (heap_alloc_new _ _)) (four_cells _ _ _ _) (by unfold maxLen; omega) (by omega) (Nat.zero_le _) ?_; intro v4 w4 hown hgrow hnil hloc; have HP4 := Lib.hid ((HP.out.alloc _).far (grown_turn (g := w2.heap.size) hgrow) HSP.out.1 HSP.out.2.1 HSP.out.2.2); obtain ⟨p4, c4, hv4, _⟩ := owns_slice2 hown; subst hv4; clear hown hgrow hnil hloc)
            exact ⟨⟨i + 1, by first | rfl | (congr 1), by omega, Goes.mk HP4.out⟩, by simp [intOf]; omega⟩
      · have hlt' : ¬ (i : Int) < (len : Int) := by omega
        have HL : Hid (l.length ≤ 9223372036854775807) := by have := hp.m.few; show l.length ≤ 9223372036854775807; omega
        have HP := Lib.hid hp
        clear hp HG hlt hi HOPS
        go_wp2_with (first
          | (go_at_call 14; refine (refAll_any HP.out.r).mono ?_; rintro e w1 ⟨p, c, rfl, hr, _, hb⟩; have HR1 := Lib.hid hr; have HP1 := Lib.hid (HP.out.on hb); clear hr hb)
          | (go_at_call 17; refine (all_any HP1.out.m).mono ?_; rintro e w2 ⟨rfl, hr, hb⟩; have HR2 := Lib.hid hr; have HR3 := Lib.hid (HR1.out.on hb); have HP2 := Lib.hid (HP1.out.on hb); clear hr hb HR1)
          | (go_at_call 16; refine (exact_same rfl HL.out HR2.out HR3.out).mono ?_; rintro e w3 ⟨rfl, hw⟩; have HP3 := Lib.hid (HP2.out.same hw); clear hw))
        go_ret
        exact ⟨by simp, HP3.out.below⟩

set_option maxRecDepth 100000 in
theorem lifted (os : Os) (started : os.Started) (H : Type) (enc : TypeId × Value → H) :
    ReturnsInHanded {} Try.checked os 6 .any (Rows.bufferFreshSpec.pre6 enc Try.prog Try.f6 Rows.bufferFreshRow.domain false) (Rows.bufferFreshSpec.post enc Try.prog Try.f6 false true false false) := by
  refine returnsInHanded_of_change (C := Try.checked) ownK started (by kernel_rfl) Try.func6
    (ChangeSpec.witness6 (enc := enc) (C := Try.checked) false ⟨#[], #[.int .i64 0, .slice none 0 0], []⟩ 8 (by kernel_rfl) (by kernel_rfl) (by kernel_rfl) (by kernel_rfl)) ?_
  intro W base args ds gs before hval0 hW _ _
  have hval : ∀ (j : Nat) t v, Try.f6.params[j]? = some t → args[j]? = some v → Value.okWide Try.prog W .any base t v := hval0
  have hW2 := hW
  obtain ⟨p, q, hA0, hV, rfl, _, _⟩ := hW
  have hA : DataW.TrodAll enc Try.prog W 0 (fun _ => true) true Try.f6.params.toList args.toList ds p := hA0
  rw [Try.params6] at hA hval
  obtain ⟨v0, vs0, d0, ds0, p0, q0, hargs, rfl, rfl, h0, r0⟩ := trodAll_cons hA
  obtain ⟨v1, vs1, d1, ds1, p1, q1, rfl, rfl, rfl, h1, r1⟩ := trodAll_cons r0
  obtain ⟨rfl, rfl, rfl⟩ := trodAll_nil r1
  obtain rfl : args = #[v0, v1] := by cases args; simp_all
  obtain ⟨rfl, rfl⟩ := trodVars_none hV
  obtain ⟨a0, rfl, rfl, rfl, w0⟩ := open_int Try.underlying3 (hval 0 3 v0 rfl rfl) h0
  obtain ⟨o1, l1, c1, K1, C1, X1, rfl, fm1, fW1⟩ := open_bops (hval 1 28 v1 rfl rfl) h1
  clear hA0 hval0
  simp only [List.append_nil] at hW2
  have hlt : ∀ x ∈ p1, x.block < W.heap.size := fun x hx => by simpa using hW2.lt x (by simpa using hx)
  refine (walk a0 o1 l1 c1 K1 C1 X1 w0 fm1 W fW1).mono fun e W2 ⟨he, hnx⟩ => ?_
  subst he
  exact ⟨_, rfl, _, _, _, [], _, [], hW2, trodAll_mk1 (shut_bool Try.underlying4 _), (trodAll_cons_mk (shut_int Try.underlying3 w0) (trodAll_cons_mk (Below.trod laidOut (by kernel_rfl) (of_decide_eq_true (by kernel_rfl)) h1 hnx (fun x hx => hlt x (by first | simpa using hx | (simp at hx ⊢; simp [hx])))) trodAll_mk0)), rfl, hnx.frame _, fun h => by cases h⟩

/-- the statement -/
theorem proved : Rows.BufferFreshSaid :=
  OpenClaim.holds_of_wide 6 Try.f6 rfl rfl rfl rfl rfl rfl rfl ⟨rfl, rfl, rfl, rfl, rfl⟩ rfl rfl rfl rfl rfl (by kernel_rfl) Try.func6 (by kernel_rfl)
    (of_decide_eq_true (by kernel_rfl)) (by unfold Func.isWrapper; first | (rw [if_pos (by decide +kernel)]; kernel_rfl) | (rw [if_neg (by decide +kernel)]; exact ⟨rfl, rfl⟩))
    (fun os started H enc _ => lifted os started H enc)
end Go.Proofs.Ytlebjdohneiaaaa.bufferFresh
