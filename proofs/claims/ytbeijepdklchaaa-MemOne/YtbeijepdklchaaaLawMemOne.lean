/- For every size and every script of steps the statement MemOne answers true: between two Opens one access at most is let by, each call changes one word at most, none but Store, Add and Poke changes any, and the count goes with the accesses. No condition. -/
import Derived.Test.YtbeijepdklchaaaM8
import Derived.Test.YtbeijepdklchaaaM12
import Derived.Deep.DeepCutAuto
import Derived.Deep.Cut
import Derived.Deep.CutRange
namespace Go.Proofs.Ytbeijepdklchaaa.memOne
open Go.ChangeShapes Go.WideShapes Go.ChangeAt Go.RowKit

theorem one_new {W w1 w2 : World} {n : Nat} (hb : Below W.heap.size W w1) (hm : MemAt 57 w2 (w1.heap.size + 1) w1.heap.size (List.replicate n 0) false 0) (hb2 : Below w1.heap.size w1 w2) :
    ∃ ws c, One W w2 (w1.heap.size + 1) w1.heap.size n ws false c := by
  have h2 := hb.size
  exact ⟨_, _, hm, List.length_replicate, below_chain hb hb2, by omega, by omega⟩
set_option maxHeartbeats 8000000 in
set_option maxRecDepth 100000 in
theorem walk (a0 : Int) (ao : Option Addr) (len cap : Nat) (K A V : Nat → Int) (_w0 : (Lit.int .i64 a0).wf = true) (hmax : len ≤ maxLen) (W : World) (hops : OpsAt W ao len K A V) : Calls Try.prog 7 #[.int .i64 a0, .slice ao len cap] W fun r W2 => r = .returned (.bool true) ∧ Below W.heap.size W W2 := by
  by_cases hn : 1 ≤ a0 ∧ a0 ≤ 4096
  · obtain ⟨n, rfl⟩ : ∃ n : Nat, a0 = n := ⟨a0.toNat, by omega⟩
    have h1 : 1 ≤ n := by omega
    have h2 : n ≤ 4096 := by omega
    have HN := fun w => new_some n h1 h2 w
    replace HN := Lib.hid HN
    have HOPS := Lib.hid hops
    have hmm : len ≤ 9223372036854775807 := hmax
    have q1 : ¬ (n : Int) < 1 := by omega
    have q2 : ¬ (4096 : Int) < (n : Int) := by omega
    clear hn h1 _w0 hops hmax
    go_enter Try.func7, Try.ntmps7
    go_wp2_with (first
      | (go_at_call 11; refine (live_any _).mono ?_; rintro r w1 ⟨rfl, hb⟩; have HB1 := Lib.hid hb; clear hb)
      | (go_at_call 9; refine (HN.out _).mono ?_; rintro r w2 ⟨rfl, hm, hb⟩; have HG := Lib.hid (one_new HB1.out hm hb); clear hm hb HB1))
    obtain ⟨b, hb⟩ : ∃ b, b = w1.heap.size + 1 := ⟨_, rfl⟩
    obtain ⟨g, hg⟩ : ∃ g, g = w1.heap.size := ⟨_, rfl⟩
    rw [← hb] at HG ⊢
    rw [← hg] at HG
    clear hb hg
    go_loopw [8, 48] (fun vl vi wr => ∃ (i : Nat) (l : Int), vi = .int .i64 i ∧ vl = .int .i64 l ∧ i ≤ len ∧ Hid (∃ ws o c, l = letN o ∧ One W wr b g n ws o c)) (fun _ vi _ => len - (intOf vi).toNat)
    case atStart =>
      obtain ⟨ws, c, h⟩ := HG.out
      exact ⟨0, _, rfl, rfl, Nat.zero_le _, ⟨ws, false, c, rfl, h⟩⟩
    case round =>
      clear HG
      obtain ⟨i, l, rfl, rfl, hi, HG⟩ := hrel
      obtain ⟨ws, o, c, hl, hp⟩ := HG.out
      by_cases hlt : i < len
      · have hlt' : (i : Int) < (len : Int) := by omega
        obtain ⟨bo, off, hao, hbW, k0, k1, k2⟩ := HOPS.out i hlt
        subst hao
        rw [← hp.below.cell (p := ⟨bo, off + i * 3, none⟩) hbW] at k0
        rw [← hp.below.cell (p := ⟨bo, off + i * 3 + 1, none⟩) hbW] at k1
        rw [← hp.below.cell (p := ⟨bo, off + i * 3 + 2, none⟩) hbW] at k2
        have hbw : bo < wr.heap.size := Nat.lt_of_lt_of_le hbW hp.below.size
        obtain ⟨kk, hkk⟩ : ∃ kk, kk = K i := ⟨_, rfl⟩
        obtain ⟨aa, haa⟩ : ∃ aa, aa = A i := ⟨_, rfl⟩
        obtain ⟨vv, hvv⟩ : ∃ vv, vv = V i := ⟨_, rfl⟩
        rw [← hkk] at k0
        rw [← haa] at k1
        rw [← hvv] at k2
        have HLO := Lib.hid hl
        have HP := Lib.hid (hp.on ((Below.refl _ _).alloc (Nat.le_refl _) (.cells #[.int .i64 kk, .int .i64 aa, .int .u64 vv] 34)))
        have HX := Lib.hid (heap_alloc_new wr (.cells #[.int .i64 kk, .int .i64 aa, .int .u64 vv] 34))
        have HW := Lib.hid hp.len
        have HNE : Hid (b < wr.heap.size ∧ g < wr.heap.size) := ⟨hp.m.ltB, hp.m.ltG⟩
        clear hkk haa hvv hp HG hbW hl
        go_upto_region 11 with (first
          | (go_at_call 18; refine (all_any HP.out.m).mono ?_; rw [HW.out]; rintro r w4 ⟨rfl, hr, hb⟩; have HR4 := Lib.hid hr; have HP4 := Lib.hid (HP.out.on hb); have hx := (hb.block wr.heap.size (by simp)).trans HX.out; have HX4 := Lib.hid hx; obtain ⟨s0, s1, s2, s3⟩ := cells3 hx; clear hr hb hx)
          | (go_at_call 19; refine (count_any HP4.out.m).mono ?_; rintro r w5 ⟨rfl, hw⟩; subst w5))
        have HNE4 : Hid (b ≠ wr.heap.size + 1 ∧ g ≠ wr.heap.size + 1 ∧ b ≠ wr.heap.size ∧ g ≠ wr.heap.size) := by
          have := HNE.out
          exact ⟨by omega, by omega, by omega, by omega⟩
        have HQ4 : Hid (RowAt w4 (wr.heap.size + 1) ws) := by
          show RowAt w4 (wr.heap.size + 1) ws
          have := HR4.out
          simpa using this
        clear HR4 HNE HX HP k0 k1 k2
        go_cut [13] (fun s13 wc => s13 = .int .i64 31 ∧ wc = w4)
        case first =>
          go_wp2
          go_meet
          exact ⟨rfl, rfl⟩
        case' rest =>
          obtain ⟨rfl, hw⟩ := hcut
          subst wc
          go_step
          go_step
        go_cut [8, 13] (fun s8 s13 wc => ∃ e l2 : Int, s8 = .int .i64 l2 ∧ s13 = .int .i64 e ∧ Hid (Aft W wc b g n wr.heap.size (wr.heap.size + 1) ws c kk aa vv e l2))
        case first =>
          by_cases h1 : kk = 1
          · subst h1
            go_wp2_with (go_at_call 24; refine (open_any HP4.out.m).mono ?_; rintro r w5 ⟨rfl, hm, hc⟩; have HF := Lib.hid (aft_open HP4.out HQ4.out HX4.out HNE4.out hm hc); clear hm hc)
            go_meet
            exact ⟨_, _, rfl, rfl, HF⟩
          by_cases h2 : kk = 2
          · subst h2
            go_wp2_with (go_at_call 25; refine (load_any HP4.out.m _).mono ?_; rintro r w5 ⟨rfl, hm, hc⟩; have HF := Lib.hid (aft_acc HP4.out HQ4.out HX4.out HNE4.out _ hm hc (Or.inl rfl)); clear hm hc)
            go_meet
            exact ⟨_, _, rfl, rfl, by rw [HLO.out]; exact HF⟩
          by_cases h3 : kk = 3
          · subst h3
            go_wp2_with (go_at_call 26; refine (store_any HP4.out.m _ _).mono ?_; rintro r w5 ⟨rfl, hm, hc⟩; have HF := Lib.hid (aft_acc HP4.out HQ4.out HX4.out HNE4.out _ hm hc (Or.inr ⟨by decide, stored_set _ _ _ _⟩)); clear hm hc)
            go_meet
            exact ⟨_, _, rfl, rfl, by rw [HLO.out]; exact HF⟩
          by_cases h4 : kk = 4
          · subst h4
            go_wp2_with (go_at_call 27; refine (add_any HP4.out.m _ _).mono ?_; rintro r w5 ⟨rfl, hm, hc⟩; have HF := Lib.hid (aft_acc HP4.out HQ4.out HX4.out HNE4.out _ hm hc (Or.inr ⟨by decide, stored_set _ _ _ _⟩)); clear hm hc)
            go_meet
            exact ⟨_, _, rfl, rfl, by rw [HLO.out]; exact HF⟩
          by_cases h6 : kk = 6
          · subst h6
            go_wp2_with (go_at_call 28; refine (poke_any HP4.out.m _ _).mono ?_; rintro r w5 ⟨rfl, hm, hc⟩; have HF := Lib.hid (aft_poke HP4.out HQ4.out HX4.out HNE4.out hm hc); clear hm hc)
            go_meet
            exact ⟨_, _, rfl, rfl, by rw [HLO.out]; exact HF⟩
          have HF := Lib.hid (aft_none HP4.out HQ4.out HX4.out)
          go_wp2
          go_meet
          exact ⟨_, _, rfl, rfl, by rw [HLO.out]; exact HF⟩
        case rest =>
          obtain ⟨e, l2, rfl, rfl, HAF⟩ := hcut
          obtain ⟨ws2, o2, c2, h1, hacc, hset, hrow, hbox⟩ := HAF.out
          have HL2 := Lib.hid h1.len
          have HRW := Lib.hid hrow
          have HBX := Lib.hid hbox
          obtain ⟨t, htt⟩ : ∃ t, t = diff ws ws2 n := ⟨_, rfl⟩
          have HTT := Lib.hid htt
          have HT1 : Hid (t = 0 ∨ (t = 1 ∧ (kk = 3 ∨ kk = 4 ∨ kk = 6))) := by
            show _ ∨ _
            rcases hset with hq | ⟨hq, j, x, hj⟩
            · left; rw [htt, hq, diff_self]
            · have := diff_set ws j x n
              rw [← hj, ← htt] at this
              by_cases q : t = 0
              · exact .inl q
              · refine .inr ⟨?_, hq⟩
                split at this <;> omega
          clear HAF htt hset hrow hbox s0 s1 s2 s3 HP4 HX4 HQ4 HLO
          rcases hacc with ⟨rfl, rfl, rfl, rfl⟩ | ⟨he, hl2, rfl⟩
          · have HO2 : Hid (One W wc b g n ws2 false (wrap64 (c + 1))) := h1
            clear h1
            go_wp2_with (go_at_call 18; refine (all_any HO2.out.m).mono ?_; rw [HL2.out]; rintro r w6 ⟨rfl, hr, hb⟩; have HR6 := Lib.hid hr; have HQ6 := Lib.hid (HRW.out.on hb); have HO6 := Lib.hid (HO2.out.on hb); have hx := (hb.block wr.heap.size (lt_of_block HBX.out)).trans HBX.out; obtain ⟨z0, z1, z2, z3⟩ := cells3 hx; clear hr hb hx)
            go_loopw [15, 16] (fun v15 v16 wq => ∃ (k m : Nat), v16 = .int .i64 k ∧ v15 = .int .i64 (diff ws ws2 k) ∧ wq = w6.drewN m ∧ k ≤ n) (fun _ v16 _ => n - (intOf v16).toNat)
            case atStart => exact ⟨0, 0, rfl, rfl, by rw [World.drewN_zero], Nat.zero_le _⟩
            case round =>
              obtain ⟨k, m, rfl, rfl, rfl, hk⟩ := hrel
              by_cases hkn : k < n
              · have hkn2 : (k : Int) < (n : Int) := by omega
                have j1 := HQ6.out.word (i := k) (by rw [HW.out]; exact hkn)
                have j2 := HR6.out.word (i := k) (by rw [HL2.out]; exact hkn)
                obtain ⟨x, hx⟩ : ∃ x, x = ws[k]'(by rw [HW.out]; exact hkn) := ⟨_, rfl⟩
                obtain ⟨y, hy⟩ : ∃ y, y = ws2[k]'(by rw [HL2.out]; exact hkn) := ⟨_, rfl⟩
                rw [← hx] at j1
                rw [← hy] at j2
                have hd := diff_le ws ws2 k
                have HD : Hid (diff ws ws2 (k + 1) = diff ws ws2 k + if x = y then 0 else 1) := by
                  show diff ws ws2 k + (if ws.getD k 0 = ws2.getD k 0 then 0 else 1) = _
                  rw [hx, hy]
                  simp [HW.out, HL2.out, hkn]
                clear hx hy
                obtain ⟨d, hdd⟩ : ∃ d, d = diff ws ws2 k := ⟨_, rfl⟩
                rw [← hdd] at hd HD ⊢
                clear hdd
                by_cases hxy : x = y
                · subst hxy
                  have HD1 : Hid (diff ws ws2 (k + 1) = d) := by
                    show _ = _
                    rw [HD.out, if_pos rfl]
                    rfl
                  clear HD
                  go_wp2
                  go_quiet (fail)
                  go_wp2
                  exact ⟨⟨k + 1, _, by first | rfl | (congr 1), by rw [HD1.out], rfl, by omega⟩, by simp [intOf]; omega⟩
                · have HD1 : Hid (diff ws ws2 (k + 1) = d + 1) := by
                    show _ = _
                    rw [HD.out, if_neg hxy]
                  clear HD
                  go_wp2
                  go_quiet (fail)
                  go_wp2
                  exact ⟨⟨k + 1, _, by first | rfl | (congr 1), by rw [HD1.out]; first | rfl | (congr 1), rfl, by omega⟩, by simp [intOf]; omega⟩
              · have hkn2 : ¬ (k : Int) < (n : Int) := by omega
                have ek : k = n := by omega
                subst ek
                have HC6 := fun m => count_any (((HO6.out.on (drewN_below _ m))).m)
                replace HC6 := Lib.hid HC6
                have HE6 := fun m => HO6.out.on (drewN_below _ m)
                replace HE6 := Lib.hid HE6
                rw [← HTT.out]
                clear hk hkn
                rcases HT1.out with ht | ⟨ht, hk3 | hk3 | hk3⟩
                all_goals clear HT1
                all_goals try subst hk3
                all_goals rw [ht]
                all_goals clear ht
                all_goals go_wp2_with (go_at_call 19; refine (HC6.out _).mono ?_; rintro r w7 ⟨rfl, hw⟩; subst w7)
                all_goals exact ⟨⟨i + 1, _, by first | rfl | (congr 1), rfl, by omega, ⟨ws2, false, _, rfl, HE6.out _⟩⟩, by simp [intOf]; omega⟩
          · have HO2 := Lib.hid h1
            have HLL := Lib.hid hl2
            have hl0 : 0 ≤ l2 := by rw [hl2]; exact letN_nonneg _
            have hup : (c2 == wrap64 (c2 + 1)) = false := by rw [beq_eq_false_iff_ne]; exact up_ne c2
            clear h1 hl2
            go_wp2_with (go_at_call 18; refine (all_any HO2.out.m).mono ?_; rw [HL2.out]; rintro r w6 ⟨rfl, hr, hb⟩; have HR6 := Lib.hid hr; have HQ6 := Lib.hid (HRW.out.on hb); have HO6 := Lib.hid (HO2.out.on hb); have hx := (hb.block wr.heap.size (lt_of_block HBX.out)).trans HBX.out; obtain ⟨z0, z1, z2, z3⟩ := cells3 hx; clear hr hb hx)
            go_loopw [15, 16] (fun v15 v16 wq => ∃ (k m : Nat), v16 = .int .i64 k ∧ v15 = .int .i64 (diff ws ws2 k) ∧ wq = w6.drewN m ∧ k ≤ n) (fun _ v16 _ => n - (intOf v16).toNat)
            case atStart => exact ⟨0, 0, rfl, rfl, by rw [World.drewN_zero], Nat.zero_le _⟩
            case round =>
              obtain ⟨k, m, rfl, rfl, rfl, hk⟩ := hrel
              by_cases hkn : k < n
              · have hkn2 : (k : Int) < (n : Int) := by omega
                have j1 := HQ6.out.word (i := k) (by rw [HW.out]; exact hkn)
                have j2 := HR6.out.word (i := k) (by rw [HL2.out]; exact hkn)
                obtain ⟨x, hx⟩ : ∃ x, x = ws[k]'(by rw [HW.out]; exact hkn) := ⟨_, rfl⟩
                obtain ⟨y, hy⟩ : ∃ y, y = ws2[k]'(by rw [HL2.out]; exact hkn) := ⟨_, rfl⟩
                rw [← hx] at j1
                rw [← hy] at j2
                have hd := diff_le ws ws2 k
                have HD : Hid (diff ws ws2 (k + 1) = diff ws ws2 k + if x = y then 0 else 1) := by
                  show diff ws ws2 k + (if ws.getD k 0 = ws2.getD k 0 then 0 else 1) = _
                  rw [hx, hy]
                  simp [HW.out, HL2.out, hkn]
                clear hx hy
                obtain ⟨d, hdd⟩ : ∃ d, d = diff ws ws2 k := ⟨_, rfl⟩
                rw [← hdd] at hd HD ⊢
                clear hdd
                by_cases hxy : x = y
                · subst hxy
                  have HD1 : Hid (diff ws ws2 (k + 1) = d) := by
                    show _ = _
                    rw [HD.out, if_pos rfl]
                    rfl
                  clear HD
                  go_wp2
                  go_quiet (fail)
                  go_wp2
                  exact ⟨⟨k + 1, _, by first | rfl | (congr 1), by rw [HD1.out], rfl, by omega⟩, by simp [intOf]; omega⟩
                · have HD1 : Hid (diff ws ws2 (k + 1) = d + 1) := by
                    show _ = _
                    rw [HD.out, if_neg hxy]
                  clear HD
                  go_wp2
                  go_quiet (fail)
                  go_wp2
                  exact ⟨⟨k + 1, _, by first | rfl | (congr 1), by rw [HD1.out]; first | rfl | (congr 1), rfl, by omega⟩, by simp [intOf]; omega⟩
              · have hkn2 : ¬ (k : Int) < (n : Int) := by omega
                have ek : k = n := by omega
                subst ek
                have HC6 := fun m => count_any (((HO6.out.on (drewN_below _ m))).m)
                replace HC6 := Lib.hid HC6
                have HE6 := fun m => HO6.out.on (drewN_below _ m)
                replace HE6 := Lib.hid HE6
                rw [← HTT.out]
                clear hk hkn
                rcases HT1.out with ht | ⟨ht, hk3 | hk3 | hk3⟩
                all_goals clear HT1
                all_goals try subst hk3
                all_goals rw [ht]
                all_goals clear ht
                all_goals go_wp2_with (go_at_call 19; refine (HC6.out _).mono ?_; rintro r w7 ⟨rfl, hw⟩; subst w7)
                all_goals exact ⟨⟨i + 1, _, by first | rfl | (congr 1), rfl, by omega, ⟨ws2, o2, _, HLL.out, HE6.out _⟩⟩, by simp [intOf]; omega⟩
      · have hlt' : ¬ (i : Int) < (len : Int) := by omega
        have HB := Lib.hid hp.below
        clear hp HG hlt hi hl
        go_wp2
        go_ret
        exact ⟨rfl, HB.out⟩
  · have HN := fun w => new_none a0 hn w
    replace HN := Lib.hid HN
    by_cases q1 : a0 < 1
    · clear hn _w0 hops hmax
      go_enter Try.func7, Try.ntmps7
      go_wp2_with (first
        | (go_at_call 11; refine (live_any _).mono ?_; rintro r w1 ⟨rfl, hb⟩; have HB1 := Lib.hid hb; clear hb)
        | (go_at_call 9; refine (HN.out _).mono ?_; rintro r w2 ⟨rfl, hw⟩; subst w2))
      go_ret
      exact ⟨rfl, HB1.out⟩
    · have q2 : 4096 < a0 := by omega
      clear hn _w0 hops hmax
      go_enter Try.func7, Try.ntmps7
      go_wp2_with (first
        | (go_at_call 11; refine (live_any _).mono ?_; rintro r w1 ⟨rfl, hb⟩; have HB1 := Lib.hid hb; clear hb)
        | (go_at_call 9; refine (HN.out _).mono ?_; rintro r w2 ⟨rfl, hw⟩; subst w2))
      go_ret
      exact ⟨rfl, HB1.out⟩

set_option maxRecDepth 100000 in
theorem lifted (os : Os) (started : os.Started) (H : Type) (enc : TypeId × Value → H) :
    ReturnsInHanded {} Try.checked os 7 .any (Rows.memOneSpec.pre6 enc Try.prog Try.f7 Rows.memOneRow.domain false) (Rows.memOneSpec.post enc Try.prog Try.f7 false true false false) := by
  refine returnsInHanded_of_change (C := Try.checked) ownK started (by kernel_rfl) Try.func7
    (ChangeSpec.witness6 (enc := enc) (C := Try.checked) false ⟨#[], #[.int .i64 0, .slice none 0 0], []⟩ 8 (by kernel_rfl) (by kernel_rfl) (by kernel_rfl) (by kernel_rfl)) ?_
  intro W base args ds gs before hval0 hW _ _
  have hval : ∀ (j : Nat) t v, Try.f7.params[j]? = some t → args[j]? = some v → Value.okWide Try.prog W .any base t v := hval0
  have hW2 := hW
  obtain ⟨p, q, hA0, hV, rfl, _, _⟩ := hW
  have hA : DataW.TrodAll enc Try.prog W 0 (fun _ => true) true Try.f7.params.toList args.toList ds p := hA0
  rw [Try.params7] at hA hval
  obtain ⟨v0, vs0, d0, ds0, p0, q0, hargs, rfl, rfl, h0, r0⟩ := trodAll_cons hA
  obtain ⟨v1, vs1, d1, ds1, p1, q1, rfl, rfl, rfl, h1, r1⟩ := trodAll_cons r0
  obtain ⟨rfl, rfl, rfl⟩ := trodAll_nil r1
  obtain rfl : args = #[v0, v1] := by cases args; simp_all
  obtain ⟨rfl, rfl⟩ := trodVars_none hV
  obtain ⟨a0, rfl, rfl, rfl, w0⟩ := open_int Try.underlying3 (hval 0 3 v0 rfl rfl) h0
  obtain ⟨o1, l1, c1, K1, A1, V1, rfl, fm1, fW1⟩ := open_ops (hval 1 28 v1 rfl rfl) h1
  clear hA0 hval0
  simp only [List.append_nil] at hW2
  have hlt : ∀ x ∈ p1, x.block < W.heap.size := fun x hx => by simpa using hW2.lt x (by simpa using hx)
  refine (walk a0 o1 l1 c1 K1 A1 V1 w0 fm1 W fW1).mono fun e W2 ⟨he, hnx⟩ => ?_
  subst he
  exact ⟨_, rfl, _, _, _, [], _, [], hW2, trodAll_mk1 (shut_bool Try.underlying4 _), (trodAll_cons_mk (shut_int Try.underlying3 w0) (trodAll_cons_mk (Below.trod laidOut (by kernel_rfl) (of_decide_eq_true (by kernel_rfl)) h1 hnx (fun x hx => hlt x (by simpa using hx))) trodAll_mk0)), rfl, hnx.frame _, fun h => by cases h⟩

/-- the statement -/
theorem proved : Rows.MemOneSaid :=
  OpenClaim.holds_of_wide 7 Try.f7 rfl rfl rfl rfl rfl rfl rfl ⟨rfl, rfl, rfl, rfl, rfl⟩ rfl rfl rfl rfl rfl (by kernel_rfl) Try.func7 (by kernel_rfl)
    (of_decide_eq_true (by kernel_rfl)) (by unfold Func.isWrapper; first | (rw [if_pos (by decide +kernel)]; kernel_rfl) | (rw [if_neg (by decide +kernel)]; exact ⟨rfl, rfl⟩))
    (fun os started H enc _ => lifted os started H enc)
end Go.Proofs.Ytbeijepdklchaaa.memOne
